import PyProof.Rows.All
import Wide.All
import OpenK.AllK
import Wide.FinOn
import Lean
import PyProof.EqAt
import PyProof.EqKinds
import PyProof.TupleCall
import KE.KTab
import PyProof.ListRange
import KE.KTryMore
import KE.KIntText
import PyProof.DictUpdate
import PyProof.Rows.StrSplitAre
import PyProof.StrLawsTight
import PySem.Challenge.RW_knownholds_k36_the_first_fault
set_option Elab.async false
set_option linter.all false
set_option maxRecDepth 100000
namespace L2
open PySem PySem.Spec PyProof.Rows
abbrev Key:=Sum Int Str
noncomputable def keyIs:Key->Value->Bool
 | .inl k,v=>Value.isInt k v
 | .inr x,v=>Value.isStrOf x v
noncomputable def keyH (w:World):Key->Int
 | .inl k=>hashInt k
 | .inr x=>hashStr w x
theorem keyIs_shape:∀ {k:Key} {v:Value},keyIs k v = true->(∃ i t,k = Sum.inl i∧v = Value.int i t) ∨ (∃ x t,k = Sum.inr x∧v = Value.str x t)
 | .inl i,v,h=>by
  obtain ⟨t,e⟩:=Value.isInt_shape (k:=i) (v:=v) h
  exact .inl ⟨i,t,rfl,e⟩
 | .inr x,v,h=>by
  obtain ⟨t,e⟩:=Value.isStrOf_shape (x:=x) (v:=v) h
  exact .inr ⟨x,t,rfl,e⟩
theorem zgs (i:Int) (t:Tok):keyIs (.inl i) (.int i t) = true:=by simp [keyIs,Value.isInt]
theorem zfL (x:Str) (t:Tok):keyIs (.inr x) (.str x t) = true:=by simp [keyIs,Value.isStrOf]
theorem ziO (a b:Int):decide ((Sum.inl a:Key) = Sum.inl b) = (a == b):=by
 by_cases e:a = b
 ·subst e; simp
 ·have h:¬ (Sum.inl a:Key) = Sum.inl b:=fun q=>e (Sum.inl.inj q)
  rw [decide_eq_false h]
  exact (beq_eq_false_iff_ne.mpr e).symm
theorem zit (a b:Str):decide ((Sum.inr a:Key) = Sum.inr b) = decide (a = b):=by
 by_cases e:a = b
 ·subst e; simp
 ·have h:¬ (Sum.inr a:Key) = Sum.inr b:=fun q=>e (Sum.inr.inj q)
  rw [decide_eq_false h,decide_eq_false e]
theorem ziC (a:Int) (b:Str):decide ((Sum.inl a:Key) = Sum.inr b) = false:=decide_eq_false (fun q=>nomatch q)
theorem ziv (a:Str) (b:Int):decide ((Sum.inr a:Key) = Sum.inl b) = false:=decide_eq_false (fun q=>nomatch q)
noncomputable def zaM (prog:Program) (w:World):PySem.KeyKind prog w Key where
 is:=keyIs
 hash:=keyH w
 inj:=fun v a b ha hb=>by
  rcases keyIs_shape ha with ⟨i,t,rfl,rfl⟩ | ⟨x,t,rfl,rfl⟩
  ·rcases keyIs_shape hb with ⟨j,u,rfl,e⟩ | ⟨y,u,rfl,e⟩
   ·injection e with e1 _; rw [e1]
   ·exact nomatch e
  ·rcases keyIs_shape hb with ⟨j,u,rfl,e⟩ | ⟨y,u,rfl,e⟩
   ·exact nomatch e
   ·injection e with e1 _; rw [e1]
 byValue:=fun k v h=>by
  rcases keyIs_shape h with ⟨i,t,rfl,rfl⟩ | ⟨x,t,rfl,rfl⟩ <;> rfl
 pyHash:=fun hv h=>by
  rcases keyIs_shape hv with ⟨i,t,rfl,rfl⟩ | ⟨x,t,rfl,rfl⟩
  ·exact wpAny_pyHash_int h
  ·exact wpAny_pyHash_str h
 eqBool:=fun hu hv h=>by
  rcases keyIs_shape hu with ⟨i,t,rfl,rfl⟩ | ⟨x,t,rfl,rfl⟩
  ·rcases keyIs_shape hv with ⟨j,u,rfl,rfl⟩ | ⟨y,u,rfl,rfl⟩
   ·rw [ziO] at h; exact wpAny_eqBool_int h
   ·rw [ziC] at h; exact SeqAt.EqAt.int_str i t y u _ _ _ _ h
  ·rcases keyIs_shape hv with ⟨j,u,rfl,rfl⟩ | ⟨y,u,rfl,rfl⟩
   ·rw [ziv] at h; exact SeqAt.EqAt.str_int x t j u _ _ _ _ h
   ·rw [zit] at h; exact wpAny_eqBool_str h
 «strs»:=fun k x t v h=>by
  rcases keyIs_shape h with ⟨i,u,rfl,e⟩ | ⟨y,u,rfl,e⟩
  ·exact nomatch e
  ·injection e with e1 _
   subst e1
   cases v <;> rfl
theorem zew (prog:Program) (w:World) (i:Int) (t:Tok):(zaM prog w).is (.inl i) (.int i t) = true:=zgs i t
theorem zek (prog:Program) (w:World) (x:Str) (t:Tok):(zaM prog w).is (.inr x) (.str x t) = true:=zfL x t
abbrev KeyT:=Option Key
noncomputable def keyTIs:KeyT->Value->Bool
 | some k,v=>keyIs k v
 | none,v=>match v with | .none=>true | _=>false
noncomputable def keyTH (w:World):KeyT->Int
 | some k=>keyH w k
 | none=>0xFCA86420
theorem keyTIs_shape:∀ {k:KeyT} {v:Value},keyTIs k v = true->(∃ q,k = some q∧keyIs q v = true) ∨ (k = none∧v = .none)
 | some q,v,h=>.inl ⟨q,rfl,h⟩
 | none,v,h=>by
  cases v <;> first | exact .inr ⟨rfl,rfl⟩ | cases h
theorem zh0 (a b:Key):decide ((some a:KeyT) = some b) = decide (a = b):=by
 by_cases e:a = b
 ·subst e; simp
 ·rw [decide_eq_false e,decide_eq_false (fun q=>e (Option.some.inj q))]
noncomputable def zdz (prog:Program) (w:World):PySem.KeyKind prog w KeyT where
 is:=keyTIs
 hash:=keyTH w
 inj:=fun v a b ha hb=>by
  rcases keyTIs_shape ha with ⟨q,rfl,hq⟩ | ⟨rfl,rfl⟩
  ·rcases keyTIs_shape hb with ⟨q',rfl,hq'⟩ | ⟨rfl,rfl⟩
   ·rw [(zaM prog w).inj v q q' hq hq']
   ·rcases keyIs_shape hq with ⟨_,_,_,e⟩ | ⟨_,_,_,e⟩ <;> cases e
  ·rcases keyTIs_shape hb with ⟨q',rfl,hq'⟩ | ⟨rfl,_⟩
   ·rcases keyIs_shape hq' with ⟨_,_,_,e⟩ | ⟨_,_,_,e⟩ <;> cases e
   ·rfl
 byValue:=fun k v h=>by
  rcases keyTIs_shape h with ⟨q,rfl,hq⟩ | ⟨rfl,rfl⟩
  ·exact (zaM prog w).byValue q v hq
  ·rfl
 pyHash:=fun hv h=>by
  rcases keyTIs_shape hv with ⟨q,rfl,hq⟩ | ⟨rfl,rfl⟩
  ·exact (zaM prog w).pyHash hq h
  ·exact PySem.W.pyHash_slot (T:="NoneType") rfl PySem.F.slot_NoneType_hash PySem.F.entry_NoneType_hash (PySem.F.args_NoneType_hash_1 _) (by rfl) (.inl rfl) (wpAny_bind (wpAny_pure (wpAny_bind (wpAny_mkInt (wpAny_pure ⟨_,_,rfl,h⟩)))))
 eqBool:=fun hu hv h=>by
  rcases keyTIs_shape hu with ⟨q,rfl,hq⟩ | ⟨rfl,rfl⟩
  ·rcases keyTIs_shape hv with ⟨q',rfl,hq'⟩ | ⟨rfl,rfl⟩
   ·rw [zh0] at h; exact (zaM prog w).eqBool hq hq' h
   ·rcases keyIs_shape hq with ⟨i,t,rfl,rfl⟩ | ⟨x,t,rfl,rfl⟩
    ·exact SeqAt.EqAt.int_none i t _ _ _ _ h
    ·exact SeqAt.EqAt.str_none x t _ _ _ _ h
  ·rcases keyTIs_shape hv with ⟨q',rfl,hq'⟩ | ⟨rfl,rfl⟩
   ·rcases keyIs_shape hq' with ⟨i,t,rfl,rfl⟩ | ⟨x,t,rfl,rfl⟩
    ·exact SeqAt.EqAt.none_int i t _ _ _ _ h
    ·exact SeqAt.EqAt.none_str x t _ _ _ _ h
   ·exact SeqAt.EqAt.same _ _ _ _ _ h
 «strs»:=fun k x t v h=>by
  rcases keyTIs_shape h with ⟨q,rfl,hq⟩ | ⟨rfl,e⟩
  ·exact (zaM prog w).strs q x t v hq
  ·cases e
end L2
namespace L2
open PySem PySem.Spec PyProof.Rows
inductive V where
 | non | bl (b:Bool) | int (i:Int) | str (x:Str) | byt (b:Array UInt8) | flt (b:UInt64) | ref (a:Addr) | ty (n:String)
 deriving DecidableEq
noncomputable def RelV:V->Value->Prop
 | .non,u=>u = Value.none
 | .bl b,u=>u = Value.bool b
 | .int i,u=>∃ t,u = Value.int i t
 | .str x,u=>∃ t,u = Value.str x t
 | .byt b,u=>∃ t,u = Value.bytes b t
 | .flt b,u=>∃ t,u = Value.float b t
 | .ref a,u=>u = Value.ref a
 | .ty n,u=>u = Value.type n
abbrev Vals:List V->List Value->Prop:=Paired RelV
theorem Vals.length {xs:List V} {us:List Value} (r:Vals xs us):xs.length = us.length:=Paired.length r
theorem Vals.get:∀ {xs:List V} {us:List Value} {i:Nat} {x:V},Vals xs us->xs[i]? = some x->∃ u,us[i]? = some u∧RelV x u
 | _,_,_,_,.nil,e=>by simp at e
 | _,_,0,_,.cons r _,e=>by simp at e; subst e; exact ⟨_,rfl,r⟩
 | _,_,i + 1,x,.cons _ t,e=>by
  obtain ⟨u,h1,h2⟩:=Vals.get (i:=i) (x:=x) t (by simpa using e)
  exact ⟨u,by simpa using h1,h2⟩
theorem Vals.set {x:V} {u:Value} (r:RelV x u):∀ {xs:List V} {us:List Value} (i:Nat),Vals xs us->Vals (xs.set i x) (us.set i u)
 | _,_,_,.nil=>.nil
 | _,_,0,.cons _ t=>.cons r t
 | _,_,i + 1,.cons q t=>.cons q (Vals.set r i t)
theorem Vals.append:∀ {xs ys:List V} {us ws:List Value},Vals xs us->Vals ys ws->Vals (xs ++ ys) (us ++ ws)
 | _,_,_,_,.nil,s=>s
 | _,_,_,_,.cons r t,s=>.cons r (Vals.append t s)
theorem Vals.take:∀ {xs:List V} {us:List Value} (n:Nat),Vals xs us->Vals (xs.take n) (us.take n)
 | _,_,0,_=>.nil
 | _,_,_ + 1,.nil=>.nil
 | _,_,n + 1,.cons r t=>.cons r (Vals.take n t)
theorem Vals.drop:∀ {xs:List V} {us:List Value} (n:Nat),Vals xs us->Vals (xs.drop n) (us.drop n)
 | _,_,0,r=>r
 | _,_,_ + 1,.nil=>.nil
 | _,_,n + 1,.cons _ t=>Vals.drop n t
noncomputable def RelO:Option V->Option Value->Prop
 | some v,some u=>RelV v u
 | none,none=>True
 | _,_=>False
noncomputable def KV {κ:Type}:List (κ × V)->List (κ × Value)->Prop:=Paired fun (p:κ × V) (q:κ × Value)=>p.1 = q.1∧RelV p.2 q.2
noncomputable def kV:Key->V
 | .inl i=>.int i
 | .inr x=>.str x
noncomputable def kT:KeyT->V
 | some k=>kV k
 | none=>.non
inductive HO where
  | lst (xs:List V)
  | tup (xs:List V)
  | dK (kvs:List (Key × V)) | dT (kvs:List (List KeyT × V))
  | set (S:Int->Bool) (n:Nat)
  | ins (C dx:Addr) (fs:List (Str × V))
  | own (x:Addr)
  | xd (fs:List (Str × V))
  | met (f x:Addr)
  | rng (lo hi:Int)
  | frz (o:Obj) (u:HO)
  | tbl (ps:Array Value)
  | ext (φ:Heap->Prop)
abbrev Hp:=Addr->Option HO
noncomputable def upd (H:Hp) (a:Addr) (o:HO):Hp:=fun b=>if b = a then some o else H b
theorem zaa {H:Hp} {a:Addr} {o:HO}:upd H a o a = some o:=by unfold upd; rw [if_pos rfl]
theorem zaj {H:Hp} {a b:Addr} {o:HO} (h:b ≠ a):upd H a o b = H b:=by unfold upd; rw [if_neg h]
theorem zcV {H:Hp} {a:Addr} {o u:HO}:upd (upd H a o) a u = upd H a u:=by
 funext b; unfold upd; split <;> rfl
theorem zhV {H:Hp} {a b:Addr} {o u:HO} (h:H a = some o) (h':H b = some u) (d:o ≠ u):a ≠ b:=by
 intro e; subst e; rw [h] at h'; exact d (Option.some.inj h')
theorem zan {H:Hp} {a b:Addr} {o:HO} (h:H a = some o) (h':H b = none):a ≠ b:=by
 intro e; subst e; rw [h] at h'; cases h'
section
variable (P:Program) (w:World)
noncomputable def zaU (H:Hp) (h:Heap) (a:Addr):HO->Prop
 | .lst xs=>xs.length ≤ sizeLine∧∃ (its:List Value) (n:Nat),Vals xs its∧h.get? a = some { cls:=.type "list",data:=.seq its.toArray n }
 | .tup xs=>xs.length ≤ sizeLine∧∃ its:List Value,Vals xs its∧IsTup h a its.toArray
 | .dK kvs=>kvs.length ≤ sizeLine∧(a == sysModules) = false∧∃ vs,KV kvs vs∧h.DictOf (zaM P w) a vs
 | .dT kvs=>kvs.length ≤ sizeLine∧(a == sysModules) = false∧∃ xs:List (List KeyT × Addr × Value),
   Paired (fun (p:List KeyT × V) (q:List KeyT × Addr × Value)=>p.1 = q.1∧H q.2.1 = some (.tup (p.1.map kT))∧RelV p.2 q.2.2) kvs xs ∧
   ∃ o es ep,h.get? a = some o∧o.ExactDict∧o.data = .dict es ep∧es.toList = xs.map (entryOfKey (tupleKind (zdz P w)))∧(xs.map (·.1)).Nodup
 | .set S n=>h.SetOf (intKind P w) a S n
 | .ins C dx fs=>H dx = some (.own a)∧fs.length ≤ 1000∧dx ≠ a∧h.get? a = some (PySem.W.instObj C dx) ∧
   ∃ mA,h.Ns1 dx mA∧(∀ f,RelO (fs.lookup f) (mA f))∧PySem.Within mA (fs.map (·.1))
 | .own _=>∃ o,h.get? a = some o
 | .xd fs=>∃ mA,h.Ns1 a mA∧∀ f,RelO (fs.lookup f) (mA f)
 | .rng lo hi=>∃ t u v,h.get? a = some { cls:=.type "range",data:=.fields #[.int lo t,.int hi u,.int 1 v] }
 | .frz o u=>h.get? a = some o∧zaU H h a u
 | .tbl ps=>h.get? a = some { cls:=.none,data:=.fields ps }
 | .met f x=>h.get? a = some (PySem.W.methodObj (.ref f) (.ref x))
 | .ext φ=>φ h∧(∃ o,h.get? a = some o)∧∀ h1 h2:Heap,φ h1->(∀ o,h1.get? a = some o->h2.get? a = some o)->φ h2
noncomputable def HOk (H:Hp) (h:Heap):Prop:=∀ a o,H a = some o->zaU P w H h a o
end
section
variable {P:Program} {w:World} {H H':Hp} {h h':Heap} {a:Addr} {o:HO}
theorem zaU.lt (x:zaU P w H h a o):a < h.objs.size:=by
 cases o with
 | lst xs=>obtain ⟨_,_,_,_,e⟩:=x; exact Heap.lt_size e
 | tup xs=>obtain ⟨_,_,_,p⟩:=x; exact p.lt
 | dK kvs=>obtain ⟨_,_,_,_,o,_,_,e,_⟩:=x; exact Heap.lt_size e
 | dT kvs=>obtain ⟨_,_,_,_,o,_,_,e,_⟩:=x; exact Heap.lt_size e
 | set S n=>obtain ⟨o,_,_,_,e,_⟩:=x; exact Heap.lt_size e
 | ins C dx fs=>obtain ⟨_,_,_,e,_⟩:=x; exact Heap.lt_size e
 | own y=>obtain ⟨_,e⟩:=x; exact Heap.lt_size e
 | xd fs=>obtain ⟨_,⟨_,_,_,e,_⟩,_⟩:=x; exact Heap.lt_size e
 | rng lo hi=>obtain ⟨_,_,_,e⟩:=x; exact Heap.lt_size e
 | frz ob u=>obtain ⟨e,_⟩:=x; exact Heap.lt_size e
 | tbl ps=>exact Heap.lt_size (show h.get? a = some _ from x)
 | met f y=>exact Heap.lt_size (show h.get? a = some _ from x)
 | ext φ=>obtain ⟨_,⟨_,e⟩,_⟩:=x; exact Heap.lt_size e
theorem Paired.mapP {α β:Type} {F G:α->β->Prop}:∀ {l₁:List α} {l₂:List β},Paired F l₁ l₂->(∀ a b,F a b->G a b)->Paired G l₁ l₂
 | _,_,.nil,_=>.nil
 | _,_,.cons r t,f=>.cons (f _ _ r) (Paired.mapP t f)
theorem zaU.stay (x:zaU P w H h a o) (k:∀ b u,(b = a ∨ H b = some (.own a))->h.get? b = some u->h'.get? b = some u)
  (ho:∀ b,H b = some (.own a)->H' b = some (.own a)) (ht:∀ b xs,H b = some (.tup xs)->H' b = some (.tup xs)):zaU P w H' h' a o:=by
 induction o with
 | lst xs=>obtain ⟨z,its,n,r,e⟩:=x; exact ⟨z,its,n,r,k _ _ (.inl rfl) e⟩
 | tup xs=>obtain ⟨z,its,r,ob,e,c⟩:=x; exact ⟨z,its,r,ob,k _ _ (.inl rfl) e,c⟩
 | dK kvs=>obtain ⟨z,y,vs,r,ob,es,ep,e,c⟩:=x; exact ⟨z,y,vs,r,ob,es,ep,k _ _ (.inl rfl) e,c⟩
 | dT kvs =>
  obtain ⟨z,y,xs,r,ob,es,ep,e,c⟩:=x
  exact ⟨z,y,xs,Paired.mapP r fun p q z=>⟨z.1,ht _ _ z.2.1,z.2.2⟩,ob,es,ep,k _ _ (.inl rfl) e,c⟩
 | set S n=>obtain ⟨ob,es,ep,t,e,c⟩:=x; exact ⟨ob,es,ep,t,k _ _ (.inl rfl) e,c⟩
 | ins C dx fs =>
  obtain ⟨d,z,ne,e,mA,⟨od,es,ep,e2,c⟩,r⟩:=x
  exact ⟨ho _ d,z,ne,k _ _ (.inl rfl) e,mA,⟨od,es,ep,k _ _ (.inr d) e2,c⟩,r⟩
 | own y=>obtain ⟨ob,e⟩:=x; exact ⟨ob,k _ _ (.inl rfl) e⟩
 | xd fs=>obtain ⟨mA,⟨od,es,ep,e,c⟩,r⟩:=x; exact ⟨mA,⟨od,es,ep,k _ _ (.inl rfl) e,c⟩,r⟩
 | rng lo hi=>obtain ⟨t,u,v,e⟩:=x; exact ⟨t,u,v,k _ _ (.inl rfl) e⟩
 | frz ob u ih=>obtain ⟨e,q⟩:=x; exact ⟨k _ _ (.inl rfl) e,ih q⟩
 | tbl ps =>
  have e:h.get? a = some { cls:=.none,data:=.fields ps }:=x
  show h'.get? a = some { cls:=.none,data:=.fields ps }
  exact k a _ (.inl rfl) e
 | met f y =>
  have e:h.get? a = some (PySem.W.methodObj (.ref f) (.ref y)):=x
  show h'.get? a = some (PySem.W.methodObj (.ref f) (.ref y))
  exact k a _ (.inl rfl) e
 | ext φ=>obtain ⟨p,⟨o,e⟩,st⟩:=x; exact ⟨st _ _ p fun o q=>k _ _ (.inl rfl) q,⟨o,k _ _ (.inl rfl) e⟩,st⟩
theorem HOk.lt (x:HOk P w H h) (e:H a = some o):a < h.objs.size:=(x a o e).lt
theorem HOk.fresh (x:HOk P w H h) (e:h.objs.size ≤ a):H a = none:=by
 cases q:H a with
 | none=>rfl
 | some u=>exact absurd (Nat.lt_of_lt_of_le (x.lt q) e) (Nat.lt_irrefl _)
theorem HOk.kept (x:HOk P w H h) (k:∀ b u,h.get? b = some u->h'.get? b = some u):HOk P w H h':=fun a o e =>
 (x a o e).stay (fun b u _ q=>k b u q) (fun _ q=>q) fun _ _ q=>q
theorem HOk.laid (x:HOk P w H h) (k:∀ b u,h.get? b = some u->h'.get? b = some u) (hp:h.objs.size ≤ a) (new:zaU P w (upd H a o) h' a o):HOk P w (upd H a o) h':=fun b u e=>by
 have hn:=x.fresh hp
 by_cases hb:b = a
 ·subst hb; rw [zaa] at e; cases e; exact new
 ·rw [zaj hb] at e
  exact (x b u e).stay (fun c v _ q=>k c v q) (fun c q=>by rw [zaj (zan q hn)]; exact q) fun c xs q=>by rw [zaj (zan q hn)]; exact q
end
noncomputable def Rd (H:Hp) (a:Addr) (u:HO):Prop:=H a = some u ∨ ∃ o,H a = some (.frz o u)
theorem Rd.of {H:Hp} {a:Addr} {u:HO} (h:H a = some u):Rd H a u:=.inl h
theorem Rd.ok {P:Program} {w:World} {H:Hp} {h:Heap} {a:Addr} {u:HO} (r:Rd H a u) (x:HOk P w H h):zaU P w H h a u:=by
 rcases r with r | ⟨o,r⟩
 ·exact x a u r
 ·obtain ⟨_,q⟩:=x a _ r
  exact q
noncomputable def Mut:Option HO->Prop
 | some (.lst _)=>True
 | some (.dK _)=>True
 | some (.dT _)=>True
 | some (.set _ _)=>True
 | some (.ins _ _ _)=>True
 | some (.ext _)=>True
 | _=>False
section
variable {P:Program} {w:World} {H:Hp} {h h':Heap} {x e:Addr} {o':HO}
theorem HOk.write (ok:HOk P w H h) (mu:Mut (H x)) (he:e = x ∨ H e = some (.own x)) (k:∀ b u,b ≠ e->h.get? b = some u->h'.get? b = some u) (heo:∃ u,h'.get? e = some u)
  (new:zaU P w (upd H x o') h' x o'):HOk P w (upd H x o') h':=fun b u q=>by
 have nown:∀ c y,H c = some (.own y)->c ≠ x:=fun c y r z=>by subst z; rw [r] at mu; exact mu
 have ntup:∀ c xs,H c = some (.tup xs)->c ≠ x:=fun c xs r z=>by subst z; rw [r] at mu; exact mu
 by_cases hb:b = x
 ·subst hb; rw [zaa] at q; cases q; exact new
 ·rw [zaj hb] at q
  by_cases hbe:b = e
  ·have q':H b = some (.own x):=by
    rcases he with z | z
    ·exact absurd (hbe.trans z) hb
    ·rw [hbe]; exact z
   rw [q] at q'; cases q'
   obtain ⟨v,hv⟩:=heo
   exact ⟨v,by rw [hbe]; exact hv⟩
  ·refine (ok b u q).stay (fun c v hc r=>k c v ?_ r) (fun c r=>by rw [zaj (nown c b r)]; exact r) fun c xs r=>by rw [zaj (ntup c xs r)]; exact r
   rcases hc with rfl | hc
   ·exact hbe
   ·rintro rfl
    rcases he with z | z
    ·exact nown c b hc z
    ·rw [hc] at z; cases z; exact hb rfl
end
structure Un (fs ex:List Addr) (H H':Hp) (h h':Heap):Prop where
 keep:∀ b o,h.get? b = some o->H b = none->b ∉ fs->b ∉ ex->h'.get? b = some o
 slot:∀ b o,h.get? b = some o->H b = none->b ∈ fs->b ∉ ex->∃ sl,h'.get? b = some { o with slots:=sl }
 free:∀ b o,h.get? b = some o->H b = none->b ∉ ex->H' b = none
 there:∀ b o,h.get? b = some o->b ∉ ex->∃ o',h'.get? b = some o'
 tups:∀ b xs,H b = some (.tup xs)->H' b = some (.tup xs)
 frzs:∀ b o u,H b = some (.frz o u)->H' b = some (.frz o u)
 tbls:∀ b ps,H b = some (.tbl ps)->∃ more,H' b = some (.tbl (ps ++ more))
section
variable {fs fs' ex ex':List Addr} {H H1 H2:Hp} {h h1 h2 h':Heap} {a x e:Addr} {o:HO}
theorem Un.any (u:Un fs ex H H1 h h1) {b:Addr} {ob:Obj} (q:h.get? b = some ob) (n:H b = none) (hx:b ∉ ex):∃ sl,h1.get? b = some { ob with slots:=sl }:=by
 by_cases hb:b ∈ fs
 ·exact u.slot b ob q n hb hx
 ·exact ⟨ob.slots,u.keep b ob q n hb hx⟩
theorem Un.kept (k:∀ b u,h.get? b = some u->h'.get? b = some u):Un fs ex H H h h' :=
 ⟨fun b ob q _ _ _=>k b ob q,fun b ob q _ _ _=>⟨ob.slots,k b ob q⟩,fun _ _ _ n _=>n,fun b ob q _=>⟨ob,k b ob q⟩,fun _ _ q=>q,fun _ _ _ q=>q,fun _ ps q=>⟨#[],by rw [q]; simp⟩⟩
theorem Un.refl:Un fs ex H H h h:=Un.kept fun _ _ q=>q
theorem Un.laid (k:∀ b u,h.get? b = some u->h'.get? b = some u) (hp:h.objs.size ≤ a) (hn:H a = none):Un fs ex H (upd H a o) h h' where
 keep:=fun b u q _ _ _=>k b u q
 slot:=fun b u q _ _ _=>⟨u.slots,k b u q⟩
 free:=fun b u q n _=>by rw [zaj (Nat.ne_of_lt (Nat.lt_of_lt_of_le (Heap.lt_size q) hp))]; exact n
 there:=fun b u q _=>⟨u,k b u q⟩
 tups:=fun b xs q=>by rw [zaj (zan q hn)]; exact q
 frzs:=fun b u xs q=>by rw [zaj (zan q hn)]; exact q
 tbls:=fun b ps q=>⟨#[],by rw [zaj (zan q hn),q]; simp⟩
theorem Un.write (mu:Mut (H x)) (he:e = x ∨ H e = some (.own x)) (k:∀ b u,b ≠ e->h.get? b = some u->h'.get? b = some u) (heo:∃ u,h'.get? e = some u):Un fs ex H (upd H x o) h h':=by
 have hx:∀ b,H b = none->b ≠ x:=fun b n z=>by subst z; rw [n] at mu; exact mu
 have hb:∀ b,H b = none->b ≠ e:=fun b n z=>by
  subst z
  rcases he with r | r
  ·exact hx b n r
  ·rw [n] at r; cases r
 have hm:∀ b u,H b = some u->¬ Mut (some u)->b ≠ x:=fun b u q nm z=>by subst z; rw [q] at mu; exact nm mu
 refine ⟨fun b u q n _ _=>k b u (hb b n) q,fun b u q n _ _=>⟨u.slots,k b u (hb b n) q⟩,fun b u q n _=>by rw [zaj (hx b n)]; exact n,fun b u q _=>?_,
  fun b xs q=>by rw [zaj (hm b _ q fun z=>z)]; exact q,fun b u xs q=>by rw [zaj (hm b _ q fun z=>z)]; exact q,fun b ps q=>⟨#[],by rw [zaj (hm b _ q fun z=>z),q]; simp⟩⟩
 by_cases hbe:b = e
 ·subst hbe; exact heo
 ·exact ⟨u,k b u hbe q⟩
end
noncomputable def trk (h:Heap) (H:Hp):List Addr:=(List.range h.objs.size).filter fun a=>(H a).isSome
noncomputable def hidT (h:Heap) (H:Hp):Heap:=PySem.W.hideAll h (trk h H)
theorem zfA (h:Heap) (H:Hp):(hidT h H).objs.size = h.objs.size:=PySem.W.hideAll_size _ _
theorem zgP {h:Heap} {H:Hp} {b:Addr} {o:Obj} (e:h.get? b = some o) (n:H b = none):(hidT h H).get? b = some o :=
 PySem.W.hideAll_get _ e fun hm=>by
  have q:(H b).isSome = true:=(List.mem_filter.mp hm).2
  rw [n] at q; simp at q
theorem zhU {h:Heap} {H:Hp} {b:Addr} {o:Obj} (e:(hidT h H).get? b = some o):h.get? b = some o∧H b = none:=by
 have e':h.get? b = some o:=PySem.W.of_hideAll (trk h H) e
 refine ⟨e',?_⟩
 cases q:H b with
 | none=>rfl
 | some x =>
  have hm:b ∈ trk h H:=List.mem_filter.mpr ⟨List.mem_range.mpr (Heap.lt_size e'),by simp [q]⟩
  have z:(hidT h H).get? b = none:=PySem.W.hideAll_none (trk h H) hm
  rw [z] at e; cases e
noncomputable def zh1 (g h:Heap) (L:Addr):List (Addr × Obj):=(List.range h.objs.size).filterMap fun a=>if a = L ∨ (g.get? a).isSome = true then none else (h.get? a).map fun o=>(a,o)
noncomputable def rest (g h:Heap) (L d:Addr):List (Addr × Obj):=(zh1 g h L).filter fun p=>decide (p.1 ≠ d)
end L2
namespace L2
open PySem PySem.Spec PyProof.Rows
structure Mod (K:PySem.W.Frag) (mg:Str->Option Value) (base:Heap):Prop where
 kin:K.In base
 glob:base.Ns mainGlobals mg
 blt:∃ mb,base.Ns builtinsNs mb∧∀ x:Str,x ≠ "__name__"->mb x = bootBuiltins x
 nolimit:base.NoLimit
structure Cx where
 prog:Program
 w:World
 K:PySem.W.Frag
 mg:Str->Option Value
 base:Heap
 A:Around
 N:List Str
 s₀:Shared
 H₀:Hp
 env:Env
 outer:List Env
 stack:List Env
 ex:List Addr
 fn:Str->Bool
 calm:Bool
 pn:List (Addr × Obj)
 xe:Value->Shared->Prop
noncomputable def frs (l:List Env):List Addr:=l.filterMap (·.frame)
noncomputable abbrev Cx.fs (X:Cx):List Addr:=frs X.outer
noncomputable def Vis (sc:Scope) (x:Str):Prop:=sc.names.lookup x = some .local ∨ sc.names.lookup x = some .cell ∨ sc.names.lookup x = some .free
noncomputable def Loc (sc:Scope) (x:Str):Prop:=sc.names.lookup x = some .local ∨ sc.names.lookup x = some .cell
noncomputable def Look (env:Env) (h:Heap) (m:Str->Option Value) (x:Str) (u:Value):Prop :=
 (env.kindOf x = some .local∧m x = some u) ∨ ((env.kindOf x = some .cell ∨ env.kindOf x = some .free)∧∃ c,env.cells.lookup x = some c∧h.IsCell c (some u))
structure Cx.Ok (X:Cx):Prop where
 mod:Mod X.K X.mg X.base
 kind:X.env.scope.kind = .function
 glob:X.env.globals = mainGlobals
 blt:X.env.builtins = builtinsNs
 above:X.s₀.heap.objs.size ≤ X.env.locals
 inj:∀ x y c,X.env.cells.lookup x = some c->X.env.cells.lookup y = some c->x = y
 has:∀ x,(X.env.kindOf x = some .cell ∨ X.env.kindOf x = some .free)->∃ c,X.env.cells.lookup x = some c
 cab:∀ x c,X.fn x = true->X.env.cells.lookup x = some c->X.s₀.heap.objs.size ≤ c
 hd:X.calm = true->X.A.handled = none
 frames:X.A.frames = some X.stack
 stk:X.stack = X.outer ∨ (X.stack = X.env :: X.outer∧X.env.frame = some X.env.locals)
 exf:∀ b ∈ X.ex,b ≠ X.env.locals∧∀ x c,X.env.cells.lookup x = some c->c ≠ b
 bs:∀ b o,X.base.get? b = some o->X.s₀.heap.get? b = some o∧X.H₀ b = none
 bsz:X.base.objs.size ≤ X.s₀.heap.objs.size
 noex:∀ b o,X.base.get? b = some o->b ∉ X.ex
 exfs:∀ b ∈ X.ex,b ∉ X.fs
 funs:X.s₀.heap.FunFrames X.base X.outer
 frf:∀ b ∈ X.fs,X.H₀ b = none
structure Inv (X:Cx) (pins:List (Addr × Obj)) (σ:List (Option V)) (H:Hp) (s:Shared):Prop where
 ok:X.Ok
 os:s.os = X.s₀.os
 bare:AllBare s.gens
 base:Un X.fs X.ex X.H₀ H X.s₀.heap s.heap
 loc:∃ m,s.heap.Ns X.env.locals m∧∀ (i:Nat) (x:Str) (v:V),X.N[i]? = some x->σ[i]? = some (some v)->Vis X.env.scope x->∃ u,RelV v u∧Look X.env s.heap m x u
 cell:∀ x c,X.env.cells.lookup x = some c->∃ v,s.heap.IsCell c v
 free:H X.env.locals = none
 freeC:∀ x c,X.env.cells.lookup x = some c->H c = none
 pin:∀ p ∈ X.pn ++ pins,s.heap.get? p.1 = some p.2∧H p.1 = none∧p.1 ≠ X.env.locals∧p.1 ∉ X.fs∧∀ v,p.2.data ≠ .cell v
 hok:HOk X.prog X.w H s.heap
 len:σ.length = X.N.length
section
variable {X:Cx} {pins:List (Addr × Obj)} {σ:List (Option V)} {H H':Hp} {s:Shared} {h':Heap}
theorem Cx.Ok.nofr (ok:X.Ok) {b:Addr} {o:Obj} (e:X.base.get? b = some o):b ∉ X.fs:=fun hb=>by
 have:=(ok.funs.mem hb).1
 rw [e] at this; cases this
theorem Inv.bs (I:Inv X pins σ H s):∀ b o,X.base.get? b = some o->s.heap.get? b = some o∧H b = none:=fun b o e =>
 ⟨I.base.keep b o (I.ok.bs b o e).1 (I.ok.bs b o e).2 (I.ok.nofr e) (I.ok.noex b o e),I.base.free b o (I.ok.bs b o e).1 (I.ok.bs b o e).2 (I.ok.noex b o e)⟩
theorem Inv.bk (I:Inv X pins σ H s):∀ b o,X.base.get? b = some o->s.heap.get? b = some o:=fun b o e=>(I.bs b o e).1
theorem Inv.mod (I:Inv X pins σ H s):Mod X.K X.mg X.base:=I.ok.mod
theorem Inv.kIn (I:Inv X pins σ H s):X.K.In s.heap:=I.ok.mod.kin.keeps I.bk
theorem Inv.lt (I:Inv X pins σ H s):X.env.locals < s.heap.objs.size:=let ⟨_,hn,_⟩:=I.loc; hn.lt
theorem Inv.sz (I:Inv X pins σ H s):X.s₀.heap.objs.size ≤ s.heap.objs.size:=Nat.le_trans I.ok.above (Nat.le_of_lt I.lt)
theorem Inv.nofs (I:Inv X pins σ H s) {a:Addr} (h:s.heap.objs.size ≤ a):a ∉ X.fs:=fun hb=>by
 obtain ⟨_,o,ho,_⟩:=I.ok.funs.mem hb
 exact absurd (Nat.lt_of_lt_of_le (Heap.lt_size ho) (Nat.le_trans I.sz h)) (Nat.lt_irrefl _)
theorem Inv.cne (I:Inv X pins σ H s):∀ x c,X.env.cells.lookup x = some c->c ≠ X.env.locals:=fun x c e z=>by
 obtain ⟨v,o,ho,hd⟩:=I.cell x c e
 obtain ⟨m,⟨o',es,ep,ho',hd',_⟩,_⟩:=I.loc
 rw [z,ho'] at ho; cases ho; rw [hd'] at hd; cases hd
theorem Inv.funs (I:Inv X pins σ H s):s.heap.FunFrames X.base X.outer:=by
 have all:∀ (l:List Env),(∀ b ∈ frs l,b ∈ X.fs)->X.s₀.heap.FunFrames X.base l->s.heap.FunFrames X.base l:=by
  intro l
  induction l with
  | nil=>intro _ _; trivial
  | cons env r ih =>
   intro hs hl
   obtain ⟨hk,⟨L,o,hf,hn,ho,hd⟩,hr⟩:=hl
   have hL:L ∈ X.fs:=hs L (by unfold frs; rw [List.filterMap_cons,hf]; exact List.mem_cons_self)
   obtain ⟨sl,e⟩:=I.base.slot L o ho (I.ok.frf L hL) hL fun z=>I.ok.exfs L z hL
   exact ⟨hk,⟨L,_,hf,hn,e,hd⟩,ih (fun b hb=>hs b (by unfold frs; rw [List.filterMap_cons,hf]; exact List.mem_cons_of_mem _ hb)) hr⟩
 exact all X.outer (fun _ hb=>hb) I.ok.funs
theorem Inv.stack (I:Inv X pins σ H s):s.heap.FunFrames X.base X.stack:=by
 rcases I.ok.stk with e | ⟨e,hf⟩
 ·rw [e]; exact I.funs
 ·rw [e]
  obtain ⟨m,hn,_⟩:=I.loc
  refine .cons (by rw [I.ok.kind]; decide) hf hn ?_ I.funs
  exact Heap.get?_none_of_le (Nat.le_trans I.ok.bsz I.ok.above)
theorem Inv.stkSub (I:Inv X pins σ H s):∀ b ∈ frs X.stack,b ∈ X.env.locals :: X.fs:=fun b hb=>by
 rcases I.ok.stk with e | ⟨e,hf⟩
 ·rw [e] at hb; exact List.mem_cons_of_mem _ hb
 ·rw [e] at hb
  unfold frs at hb
  rw [List.filterMap_cons,hf] at hb
  exact hb
theorem Inv.stkFree (I:Inv X pins σ H s):∀ b ∈ frs X.stack,H b = none:=fun b hb=>by
 rcases List.mem_cons.mp (I.stkSub b hb) with e | hb
 ·rw [e]; exact I.free
 ·obtain ⟨_,o,ho,_⟩:=I.ok.funs.mem hb
  exact I.base.free b o ho (I.ok.frf b hb) fun z=>I.ok.exfs b z hb
theorem Inv.step {g':Array GenState} {t':Nat} {d':Drawn} {ch:List Addr} (I:Inv X pins σ H s)
  (hch:∀ b ∈ ch,(b ∈ X.ex ∨ X.s₀.heap.objs.size ≤ b)∧b ≠ X.env.locals∧(∀ x c,X.env.cells.lookup x = some c->c ≠ b)∧∀ p ∈ X.pn ++ pins,p.1 ≠ b)
  (keep:∀ b o,b ≠ X.env.locals->b ∉ X.fs->b ∉ ch->s.heap.get? b = some o->H b = none->h'.get? b = some o)
  (slot:∀ b o,b ≠ X.env.locals->b ∈ X.fs->b ∉ ch->s.heap.get? b = some o->H b = none->∃ sl,h'.get? b = some { o with slots:=sl }) (free:∀ b o,b ∉ ch->s.heap.get? b = some o->H b = none->H' b = none)
  (there:∀ b o,b ∉ ch->s.heap.get? b = some o->∃ o',h'.get? b = some o')
  (tups:∀ b xs,H b = some (.tup xs)->H' b = some (.tup xs)) (frzs:∀ b o u,H b = some (.frz o u)->H' b = some (.frz o u)) (tbls:∀ b ps,H b = some (.tbl ps)->∃ more,H' b = some (.tbl (ps ++ more)))
  (ns:∀ m,s.heap.Ns X.env.locals m->h'.Ns X.env.locals m) (hok:HOk X.prog X.w H' h') (hg:AllBare g') :
  Inv X pins σ H' { s with heap:=h',gens:=g',drawn:=d',toks:=t' }:=by
 have neL:∀ b o,X.s₀.heap.get? b = some o->b ≠ X.env.locals:=fun b o e=>Nat.ne_of_lt (Nat.lt_of_lt_of_le (Heap.lt_size e) I.ok.above)
 have neC:∀ b o,X.s₀.heap.get? b = some o->b ∉ X.ex->b ∉ ch:=fun b o e hx hb=>by
  rcases (hch b hb).1 with z | z
  ·exact hx z
  ·exact absurd (Nat.lt_of_lt_of_le (Heap.lt_size e) z) (Nat.lt_irrefl _)
 have cellK:∀ x c,X.env.cells.lookup x = some c->∀ v,s.heap.IsCell c v->h'.IsCell c v:=fun x c e v ⟨o,ho,hd⟩=>by
  have nch:c ∉ ch:=fun z=>(hch c z).2.2.1 x c e rfl
  by_cases hc:c ∈ X.fs
  ·obtain ⟨sl,q⟩:=slot c o (I.cne x c e) hc nch ho (I.freeC x c e)
   exact ⟨_,q,hd⟩
  ·exact ⟨o,keep c o (I.cne x c e) hc nch ho (I.freeC x c e),hd⟩
 refine ⟨I.ok,I.os,hg,⟨fun b o e n hb hx=>?_,fun b o e n hb hx=>?_,fun b o e n hx=>?_,fun b o e hx=>?_,fun b xs e=>tups b xs (I.base.tups b xs e),fun b o xs e=>frzs b o xs (I.base.frzs b o xs e),fun b ps e=>?_⟩,?_,fun x c e=>?_,?_,fun x c e=>?_,fun p hp=>?_,hok,I.len⟩
 ·exact keep b o (neL b o e) hb (neC b o e hx) (I.base.keep b o e n hb hx) (I.base.free b o e n hx)
 ·obtain ⟨sl,e1⟩:=I.base.slot b o e n hb hx
  obtain ⟨sl',e2⟩:=slot b _ (neL b o e) hb (neC b o e hx) e1 (I.base.free b o e n hx)
  exact ⟨sl',e2⟩
 ·obtain ⟨o',e1⟩:=I.base.there b o e hx
  exact free b o' (neC b o e hx) e1 (I.base.free b o e n hx)
 ·obtain ⟨o',e1⟩:=I.base.there b o e hx
  exact there b o' (neC b o e hx) e1
 ·obtain ⟨m1,e1⟩:=I.base.tbls b ps e
  obtain ⟨m2,e2⟩:=tbls b _ e1
  exact ⟨m1 ++ m2,by rw [e2,Array.append_assoc]⟩
 ·obtain ⟨m,hn,hl⟩:=I.loc
  refine ⟨m,ns m hn,fun i x v e1 e2 e3=>?_⟩
  obtain ⟨u,r,l⟩:=hl i x v e1 e2 e3
  refine ⟨u,r,?_⟩
  rcases l with l | ⟨k,c,e,z⟩
  ·exact .inl l
  ·exact .inr ⟨k,c,e,cellK x c e _ z⟩
 ·obtain ⟨v,z⟩:=I.cell x c e
  exact ⟨v,cellK x c e v z⟩
 ·obtain ⟨m,⟨o,_,_,ho,_⟩,_⟩:=I.loc
  exact free _ o (fun z=>(hch _ z).2.1 rfl) ho I.free
 ·obtain ⟨v,o,ho,hd⟩:=I.cell x c e
  exact free c o (fun z=>(hch c z).2.2.1 x c e rfl) ho (I.freeC x c e)
 ·obtain ⟨e,n,ne,nf,d⟩:=I.pin p hp
  have nch:p.1 ∉ ch:=fun z=>(hch p.1 z).2.2.2 p hp rfl
  exact ⟨keep p.1 p.2 ne nf nch e n,free p.1 p.2 nch e n,ne,nf,d⟩
theorem Inv.un {t':Nat} (I:Inv X pins σ H s) (u:Un X.fs [] H H' s.heap h') (hok:HOk X.prog X.w H' h'):Inv X pins σ H' { s with heap:=h',toks:=t' }:=by
 obtain ⟨m,⟨o,es,ep,ho,r⟩,_⟩:=id I.loc
 obtain ⟨sl,hL⟩:=u.any ho I.free (by simp)
 exact I.step (g':=s.gens) (d':=s.drawn) (ch:=[]) (fun _ z=>nomatch z) (fun b o _ hb _ e n=>u.keep b o e n hb (by simp)) (fun b o _ hb _ e n=>u.slot b o e n hb (by simp)) (fun b o _ e n=>u.free b o e n (by simp)) (fun b o _ e=>u.there b o e (by simp)) u.tups u.frzs u.tbls (fun m' hm=>by
  obtain ⟨o',es',ep',ho',r'⟩:=hm
  rw [ho] at ho'; cases ho'
  exact ⟨_,es',ep',hL,r'⟩) hok I.bare
theorem Inv.call {g':Array GenState} {t':Nat} {d':Drawn} {ch:List Addr} (I:Inv X pins σ H s) (u:Un (frs X.stack) ch H H' s.heap h') (hok:HOk X.prog X.w H' h') (hg:AllBare g')
  (hch:∀ b ∈ ch,(b ∈ X.ex ∨ X.s₀.heap.objs.size ≤ b)∧b ≠ X.env.locals∧(∀ x c,X.env.cells.lookup x = some c->c ≠ b)∧∀ p ∈ X.pn ++ pins,p.1 ≠ b) :
  Inv X pins σ H' { s with heap:=h',gens:=g',drawn:=d',toks:=t' }:=by
 obtain ⟨m,⟨o,es,ep,ho,r⟩,_⟩:=id I.loc
 obtain ⟨sl,hL⟩:=u.any ho I.free fun z=>(hch _ z).2.1 rfl
 exact I.step (ch:=ch) hch (fun b o hL hb hc e n=>u.keep b o e n (fun z=>(List.mem_cons.mp (I.stkSub b z)).elim hL hb) hc) (fun b o _ _ hc e n=>u.any e n hc) (fun b o hc e n=>u.free b o e n hc) (fun b o hc e=>u.there b o e hc) u.tups u.frzs u.tbls (fun m' hm=>by
  obtain ⟨o',es',ep',ho',r'⟩:=hm
  rw [ho] at ho'; cases ho'
  exact ⟨_,es',ep',hL,r'⟩) hok hg
theorem Inv.turned {t':Nat} {it:Addr} (I:Inv X pins σ H s) (k:∀ b o,b ≠ it->s.heap.get? b = some o->h'.get? b = some o) (hn:H it = none) (hL:it ≠ X.env.locals)
  (h1:it ∈ X.ex ∨ X.s₀.heap.objs.size ≤ it) (h2:∀ x c,X.env.cells.lookup x = some c->c ≠ it) (h3:∀ p ∈ X.pn ++ pins,p.1 ≠ it):Inv X pins σ H { s with heap:=h',toks:=t' }:=by
 have nit:∀ b u,H b = some u->b ≠ it:=fun b u e z=>by rw [z,hn] at e; cases e
 refine I.step (g':=s.gens) (d':=s.drawn) (ch:=[it]) (fun b hb=>?_) (fun b o _ _ hc e _=>k b o (fun z=>hc (by simp [z])) e) (fun b o _ _ hc e _=>⟨o.slots,k b o (fun z=>hc (by simp [z])) e⟩) (fun _ _ _ _ n=>n)
  (fun b o hc e=>⟨o,k b o (fun z=>hc (by simp [z])) e⟩) (fun _ _ e=>e) (fun _ _ _ e=>e) (fun b ps e=>⟨#[],by rw [e]; simp⟩) (fun m hm=>?_) (fun b u e=>?_) I.bare
 ·have e:b = it:=by simpa using hb
  subst e
  exact ⟨h1,hL,h2,h3⟩
 ·obtain ⟨o,es,ep,ho,r⟩:=hm
  exact ⟨o,es,ep,k _ o (Ne.symm hL) ho,r⟩
 ·refine (I.hok b u e).stay (fun c v hc q=>k c v ?_ q) (fun _ q=>q) fun _ _ q=>q
  rcases hc with z | z
  ·rw [z]; exact nit b u e
  ·exact nit c _ z
theorem Inv.tok (I:Inv X pins σ H s) (t:Nat):Inv X pins σ H { s with toks:=t }:=I.un (h':=s.heap) (t':=t) Un.refl I.hok
theorem Inv.kept {t':Nat} (I:Inv X pins σ H s) (k:∀ b u,s.heap.get? b = some u->h'.get? b = some u):Inv X pins σ H { s with heap:=h',toks:=t' }:=I.un (Un.kept k) (I.hok.kept k)
theorem Inv.laid {a:Addr} {o:HO} {t':Nat} (I:Inv X pins σ H s) (k:∀ b u,s.heap.get? b = some u->h'.get? b = some u) (hp:s.heap.objs.size ≤ a) (new:zaU X.prog X.w (upd H a o) h' a o) :
  Inv X pins σ (upd H a o) { s with heap:=h',toks:=t' }:=I.un (Un.laid k hp (I.hok.fresh hp)) (I.hok.laid k hp new)
theorem Inv.write {x e:Addr} {o:HO} {t':Nat} (I:Inv X pins σ H s) (mu:Mut (H x)) (he:e = x ∨ H e = some (.own x)) (k:∀ b u,b ≠ e->s.heap.get? b = some u->h'.get? b = some u) (heo:∃ u,h'.get? e = some u)
  (new:zaU X.prog X.w (upd H x o) h' x o):Inv X pins σ (upd H x o) { s with heap:=h',toks:=t' }:=I.un (Un.write mu he k heo) (I.hok.write mu he k heo new)
theorem Inv.weak {σ':List (Option V)} (I:Inv X pins σ H s) (hl:σ'.length = σ.length) (w:∀ (i:Nat) v,σ'[i]? = some (some v)->σ[i]? = some (some v)):Inv X pins σ' H s :=
 ⟨I.ok,I.os,I.bare,I.base,let ⟨m,hn,hl'⟩:=I.loc; ⟨m,hn,fun i x v e1 e2 e3=>hl' i x v e1 (w i v e2) e3⟩,I.cell,I.free,I.freeC,I.pin,I.hok,hl.trans I.len⟩
theorem Inv.pins_of {pins':List (Addr × Obj)} (I:Inv X pins σ H s) (h:∀ p ∈ pins',s.heap.get? p.1 = some p.2∧H p.1 = none∧p.1 ≠ X.env.locals∧p.1 ∉ X.fs∧∀ v,p.2.data ≠ .cell v):Inv X pins' σ H s :=
 ⟨I.ok,I.os,I.bare,I.base,I.loc,I.cell,I.free,I.freeC,fun p hp=>(List.mem_append.mp hp).elim (fun z=>I.pin p (List.mem_append_left _ z)) (h p),I.hok,I.len⟩
theorem zeG {N:List Str} (hN:N.Nodup) {i j:Nat} {x:Str} (a:N[i]? = some x) (b:N[j]? = some x):i = j:=by
 obtain ⟨h1,e1⟩:=List.getElem?_eq_some_iff.mp a
 obtain ⟨h2,e2⟩:=List.getElem?_eq_some_iff.mp b
 exact (List.getElem_inj hN).mp (e1.trans e2.symm)
theorem zdK {M:Model} {A:Around} {E:Value->Shared->Prop} {i:Nat} {x:Str} {v:V} {u:Value} {Q:Unit->Shared->Prop} (I:Inv X pins σ H s) (hN:X.N.Nodup) (hi:X.N[i]? = some x) (hx:Loc X.env.scope x) (r:RelV v u)
  (h:∀ s',Inv X pins (σ.set i (some v)) H s'->(∃ a,Heap.SameBut a s.heap s'.heap∧(a = X.env.locals ∨ X.env.cells.lookup x = some a))->Q () s') (hf:X.fn x = true ∨ X.env.scope.names.lookup x = some .local:=by first | exact .inl rfl | exact .inr rfl | assumption):wpAny M A (storeName X.env x u) Q E s:=by
 obtain ⟨m,hn,hl⟩:=id I.loc
 have hcls:(X.env.scope.kind == .class || (X.env.scope.kind == .module && X.env.locals != X.env.globals)) = false:=by rw [I.ok.kind]; rfl
 have hiσ:i < σ.length:=by rw [I.len]; exact (List.getElem?_eq_some_iff.mp hi).1
 have cne:=I.cne
 have tracked:∀ {a:Addr} {h':Heap},(∃ o,s.heap.get? a = some o∧H a = none)->Heap.SameBut a s.heap h'->HOk X.prog X.w H h':=fun {a h'} ha hs b ob e=>by
  obtain ⟨_,_,hfree⟩:=ha
  refine (I.hok b ob e).stay (fun c w' hc q=>(hs.2 c ?_).trans q) (fun _ q=>q) fun _ _ q=>q
  rintro rfl
  rcases hc with rfl | hc
  ·rw [hfree] at e; cases e
  ·rw [hfree] at hc; cases hc
 rcases hx with hk | hk
 ·refine wpAny_storeName_local hk hn (fun h' hn' hs=>?_) hcls
  obtain ⟨oL,_,_,hoL,_⟩:=id hn
  refine h _ ⟨I.ok,I.os,I.bare,⟨fun b o e n hb hx=>?_,fun b o e n hb hx=>?_,I.base.free,fun b o e hx=>?_,I.base.tups,I.base.frzs,I.base.tbls⟩,⟨_,hn',fun j y v' e1 e2 e3=>?_⟩,fun y c e=>?_,I.free,I.freeC,fun p hp=>?_,tracked ⟨oL,hoL,I.free⟩ hs,by simpa using I.len⟩ ⟨_,hs,.inl rfl⟩
  ·exact (hs.2 b (Nat.ne_of_lt (Nat.lt_of_lt_of_le (Heap.lt_size e) I.ok.above))).trans (I.base.keep b o e n hb hx)
  ·obtain ⟨sl,e1⟩:=I.base.slot b o e n hb hx
   exact ⟨sl,(hs.2 b (Nat.ne_of_lt (Nat.lt_of_lt_of_le (Heap.lt_size e) I.ok.above))).trans e1⟩
  ·obtain ⟨o',e1⟩:=I.base.there b o e hx
   exact ⟨o',(hs.2 b (Nat.ne_of_lt (Nat.lt_of_lt_of_le (Heap.lt_size e) I.ok.above))).trans e1⟩
  ·by_cases hj:j = i
   ·subst hj
    rw [hi] at e1; cases e1
    rw [List.getElem?_set_self hiσ] at e2
    cases e2
    exact ⟨u,r,.inl ⟨hk,by simp⟩⟩
   ·rw [List.getElem?_set_ne (Ne.symm hj)] at e2
    obtain ⟨u',r',q⟩:=hl j y v' e1 e2 e3
    refine ⟨u',r',?_⟩
    rcases q with ⟨k,e⟩ | ⟨k,c,e,z⟩
    ·refine .inl ⟨k,?_⟩
     have:y ≠ x:=fun e=>hj (zeG hN e1 (e ▸ hi))
     simp [this,e]
    ·exact .inr ⟨k,c,e,z.sameBut hs (cne y c e)⟩
  ·obtain ⟨w',z⟩:=I.cell y c e
   exact ⟨w',z.sameBut hs (cne y c e)⟩
  ·obtain ⟨e,n,ne,nf,d⟩:=I.pin p hp
   exact ⟨(hs.2 p.1 ne).trans e,n,ne,nf,d⟩
 ·have hfn:X.fn x = true:=by
   rcases hf with z | z
   ·exact z
   ·rw [z] at hk; cases hk
  obtain ⟨c,hc⟩:=I.ok.has x (.inl hk)
  obtain ⟨w',z⟩:=I.cell x c hc
  refine wpAny_storeName_cell I.ok.kind hk hc z (fun h' hc' hs=>?_)
  obtain ⟨oc,hoc,hocd⟩:=id z
  refine h { s with heap:=h' } ⟨I.ok,I.os,I.bare,⟨fun b o e n hb hx=>?_,fun b o e n hb hx=>?_,I.base.free,fun b o e hx=>?_,I.base.tups,I.base.frzs,I.base.tbls⟩,⟨m,hn.sameBut hs (Ne.symm (cne x c hc)),fun j y v' e1 e2 e3=>?_⟩,fun y c' e=>?_,I.free,I.freeC,fun p hp=>?_,tracked ⟨oc,hoc,I.freeC x c hc⟩ hs,by simpa using I.len⟩ ⟨c,hs,.inr hc⟩
  ·exact (hs.2 b (Nat.ne_of_lt (Nat.lt_of_lt_of_le (Heap.lt_size e) (I.ok.cab x c hfn hc)))).trans (I.base.keep b o e n hb hx)
  ·obtain ⟨sl,e1⟩:=I.base.slot b o e n hb hx
   exact ⟨sl,(hs.2 b (Nat.ne_of_lt (Nat.lt_of_lt_of_le (Heap.lt_size e) (I.ok.cab x c hfn hc)))).trans e1⟩
  ·obtain ⟨o',e1⟩:=I.base.there b o e hx
   exact ⟨o',(hs.2 b (Nat.ne_of_lt (Nat.lt_of_lt_of_le (Heap.lt_size e) (I.ok.cab x c hfn hc)))).trans e1⟩
  ·by_cases hj:j = i
   ·subst hj
    rw [hi] at e1; cases e1
    rw [List.getElem?_set_self hiσ] at e2
    cases e2
    exact ⟨u,r,.inr ⟨.inl hk,c,hc,hc'⟩⟩
   ·rw [List.getElem?_set_ne (Ne.symm hj)] at e2
    obtain ⟨u',r',q⟩:=hl j y v' e1 e2 e3
    refine ⟨u',r',?_⟩
    rcases q with q | ⟨k,c',e,z'⟩
    ·exact .inl q
    ·refine .inr ⟨k,c',e,z'.sameBut hs ?_⟩
     rintro rfl
     exact hj (zeG hN e1 (I.ok.inj _ _ _ e hc ▸ hi))
  ·by_cases hcc:c' = c
   ·subst hcc; exact ⟨_,hc'⟩
   ·obtain ⟨w2,z2⟩:=I.cell y c' e
    exact ⟨w2,z2.sameBut hs hcc⟩
  ·obtain ⟨e,n,ne,nf,d⟩:=I.pin p hp
   refine ⟨(hs.2 p.1 ?_).trans e,n,ne,nf,d⟩
   intro q
   rw [q,hoc] at e
   have q':oc = p.2:=Option.some.inj e
   exact d w' (by rw [← q']; exact hocd)
theorem zeC {M:Model} {A:Around} {E:Value->Shared->Prop} {i:Nat} {x:Str} {v:V} {u:Value} {Q:Unit->Shared->Prop} (I:Inv X pins σ H s) (hN:X.N.Nodup) (hi:X.N[i]? = some x) (hx:Loc X.env.scope x) (r:RelV v u)
  (h:∀ s',Inv X pins (σ.set i (some v)) H s'->Q () s') (hf:X.fn x = true ∨ X.env.scope.names.lookup x = some .local:=by first | exact .inl rfl | exact .inr rfl | assumption):wpAny M A (storeName X.env x u) Q E s :=
 zdK I hN hi hx r (fun s' I' _=>h s' I') hf
theorem Inv.call' {s':Shared} {ch:List Addr} (I:Inv X pins σ H s) (ho:s'.os = s.os) (u:Un (frs X.stack) ch H H' s.heap s'.heap) (hok:HOk X.prog X.w H' s'.heap) (hg:AllBare s'.gens)
  (hch:∀ b ∈ ch,(b ∈ X.ex ∨ X.s₀.heap.objs.size ≤ b)∧b ≠ X.env.locals∧(∀ x c,X.env.cells.lookup x = some c->c ≠ b)∧∀ p ∈ X.pn ++ pins,p.1 ≠ b):Inv X pins σ H' s':=by
 obtain ⟨h',g',d',t',o'⟩:=s'
 have e:o' = s.os:=ho
 subst e
 exact I.call (g':=g') (t':=t') (d':=d') u hok hg hch
end
abbrev XK:=Value->Option Addr->Hp->Prop
abbrev St:=List (Option V)
abbrev VK:=V->Hp->Prop
abbrev TE:=St->Hp->VK->Prop
abbrev TT:=St->Hp->(Bool->Hp->Prop)->Prop
abbrev TA:=St->Hp->(List V->Hp->Prop)->Prop
structure Ends where
 nx:St->Hp->Prop
 rt:VK
 bk:St->Hp->Prop:=fun _ _=>False
 ct:St->Hp->Prop:=fun _ _=>False
abbrev TS:=Ends->St->Hp->Prop
noncomputable def EP (X:Cx) (pins:List (Addr × Obj)) (σ:St) (Q:VK) (u:Value) (s':Shared):Prop:=∃ v H',Inv X pins σ H' s'∧RelV v u∧Q v H'
noncomputable def TP (X:Cx) (pins:List (Addr × Obj)) (σ:St) (Q:Bool->Hp->Prop) (b:Bool) (s':Shared):Prop:=∃ H',Inv X pins σ H' s'∧Q b H'
noncomputable def AP (X:Cx) (pins:List (Addr × Obj)) (σ:St) (Q:List V->Hp->Prop) (us:List Value) (s':Shared):Prop:=∃ vs H',Inv X pins σ H' s'∧Vals vs us∧Q vs H'
noncomputable def SP (X:Cx) (pins:List (Addr × Obj)) (D:Ends) (f:Flow) (s':Shared):Prop :=
 match f with
 | .next=>∃ σ' H',Inv X pins σ' H' s'∧D.nx σ' H'
 | .brk=>∃ σ' H',Inv X pins σ' H' s'∧D.bk σ' H'
 | .cont=>∃ σ' H',Inv X pins σ' H' s'∧D.ct σ' H'
 | .ret u=>∃ v σ' H',Inv X pins σ' H' s'∧RelV v u∧D.rt v H'
noncomputable def PE (X:Cx) (e:Expr) (t:TE):Prop :=
 ∀ (pins:List (Addr × Obj)) (s:Shared) (σ:St) (H:Hp) (Q:VK),Inv X pins σ H s->t σ H Q->wpAny (model X.prog X.w) X.A (eval e X.env) (EP X pins σ Q) X.xe s
noncomputable def PT (X:Cx) (e:Expr) (t:TT):Prop :=
 ∀ (pins:List (Addr × Obj)) (s:Shared) (σ:St) (H:Hp) (Q:Bool->Hp->Prop),Inv X pins σ H s->t σ H Q->wpAny (model X.prog X.w) X.A (isTrue e X.env (eval e X.env)) (TP X pins σ Q) X.xe s
noncomputable def PW (X:Cx) (e:Expr) (t:TT):Prop :=
 ∀ (whole:Sem Value) (pins:List (Addr × Obj)) (s:Shared) (σ:St) (H:Hp) (Q:Bool->Hp->Prop),Inv X pins σ H s->t σ H Q->wpAny (model X.prog X.w) X.A (isTrue e X.env whole) (TP X pins σ Q) X.xe s
theorem PW.pt {X:Cx} {e:Expr} {t:TT} (h:PW X e t):PT X e t:=h _
noncomputable def PA (X:Cx) (es:List Expr) (t:TA):Prop :=
 ∀ (pos:Pos) (pins:List (Addr × Obj)) (s:Shared) (σ:St) (H:Hp) (Q:List V->Hp->Prop),Inv X pins σ H s->t σ H Q->wpAny (model X.prog X.w) X.A (spliced (backTo pos (starEach es X.env))) (AP X pins σ Q) X.xe s
noncomputable def PS (X:Cx) (st:Stmt) (t:TS):Prop :=
 ∀ (pins:List (Addr × Obj)) (s:Shared) (σ:St) (H:Hp) (D:Ends),Inv X pins σ H s->t D σ H->wpAny (model X.prog X.w) X.A (exec st X.env) (SP X pins D) X.xe s
noncomputable def PSs (X:Cx) (st:List Stmt) (t:TS):Prop :=
 ∀ (pins:List (Addr × Obj)) (s:Shared) (σ:St) (H:Hp) (D:Ends),Inv X pins σ H s->t D σ H->wpAny (model X.prog X.w) X.A (execs st X.env) (SP X pins D) X.xe s
theorem thn {α:Type} {t:Sem α} {Q Q':α->Shared->Prop} {M:Model} {A:Around} {E:Value->Shared->Prop} {s:Shared} (h:wpAny M A t Q E s) (hQ:∀ a s,Q a s->Q' a s):wpAny M A t Q' E s:=wpAny_mono h hQ fun _ _ x=>x
end L2
namespace L2
open PySem PySem.Spec PyProof.Rows
section
variable {X:Cx}
noncomputable def tVar (i:Nat):TE:=fun σ H Q=>∃ v,σ[i]? = some (some v)∧Q v H
noncomputable def tC (v:V):TE:=fun _ H Q=>Q v H
theorem ziR {i:Nat} {x:Str} {pos:Pos} (hN:X.N[i]? = some x) (hv:Vis X.env.scope x) (hd:(x == ("__debug__":Str)) = false:=by decide) (hcd:(x == ("__classdict__":Str)) = false:=by decide):PE X (.Name x pos) (tVar i):=by
 intro pins s σ H Q I h
 obtain ⟨v,e,h⟩:=h
 obtain ⟨m,hn,hl⟩:=I.loc
 obtain ⟨u,r,l⟩:=hl i x v hN e hv
 have fin:EP X pins σ Q u s:=⟨v,H,I,r,h⟩
 rcases l with ⟨hk,hm⟩ | ⟨hk,c,hc,hcell⟩
 ·exact wpAny_Name (wpAny_loadName_local I.ok.kind hk hn hm fin) hd
 ·rcases hk with hk | hk
  ·exact wpAny_Name (wpAny_loadName_cell I.ok.kind hk hc hcell fin) hd
  ·exact wpAny_Name (wpAny_loadName_free I.ok.kind hk hc hcell fin hcd) hd
theorem zag {i j pos}:PE X (.Constant (.int i) j pos) (tC (.int i)):=fun _ _ _ H _ I h=>wpAny_Constant_int ⟨.int i,H,I.tok _,⟨_,rfl⟩,h⟩
theorem zcU {b j pos}:PE X (.Constant (.bool b) j pos) (tC (.bl b)):=fun _ _ _ H _ I h=>Constant_bool ⟨.bl b,H,I,rfl,h⟩
theorem zaR {j pos}:PE X (.Constant .none j pos) (tC .non):=fun _ _ _ H _ I h=>Constant_none ⟨.non,H,I,rfl,h⟩
theorem zaB {x j pos}:PE X (.Constant (.str x) j pos) (tC (.str x)):=fun _ _ _ H _ I h=>Calls.Constant_str ⟨.str x,H,I.tok _,⟨_,rfl⟩,h⟩
noncomputable def Gl (X:Cx) (x:Str):Prop:=X.env.kindOf x = some .globalImplicit
theorem zfT {E:Value->Shared->Prop} {pins:List (Addr × Obj)} {s:Shared} {σ:St} {H:Hp} {x:Str} {u:Value} {pos:Pos} {Q:Value->Shared->Prop} (I:Inv X pins σ H s) (hg:Gl X x) (hm:X.mg x = some u) (h:Q u s)
  (hd:(x == ("__debug__":Str)) = false:=by decide):wpAny (model X.prog X.w) X.A (eval (.Name x pos) X.env) Q E s :=
 Calls.Name_function_global I.ok.kind hg (Calls.loadGlobal_global (by rw [I.ok.glob]; exact I.mod.glob.keeps I.bk) hm h) hd
theorem zbY {E:Value->Shared->Prop} {pins:List (Addr × Obj)} {s:Shared} {σ:St} {H:Hp} {x:Str} {u:Value} {pos:Pos} {Q:Value->Shared->Prop} (I:Inv X pins σ H s) (hg:Gl X x) (hm:X.mg x = none) (hv:bootBuiltins x = some u) (h:Q u s)
  (hn:x ≠ "__name__":=by decide) (hd:(x == ("__debug__":Str)) = false:=by decide):wpAny (model X.prog X.w) X.A (eval (.Name x pos) X.env) Q E s:=by
 obtain ⟨mb,h1,h2⟩:=I.mod.blt
 exact Calls.Name_function_global I.ok.kind hg (Calls.loadGlobal_builtin (by rw [I.ok.glob]; exact I.mod.glob.keeps I.bk) hm (by rw [I.ok.blt]; exact h1.keeps I.bk) ((h2 x hn).trans hv) h) hd
theorem zb9 {x:Str} {v:V} {u:Value} {pos:Pos} (hg:Gl X x) (hm:X.mg x = some u) (r:RelV v u) (hd:(x == ("__debug__":Str)) = false:=by decide):PE X (.Name x pos) (tC v) :=
 fun _ _ _ H _ I h=>zfT I hg hm ⟨v,H,I,r,h⟩ hd
theorem zaV {x:Str} {v:V} {u:Value} {pos:Pos} (hg:Gl X x) (hm:X.mg x = none) (hv:bootBuiltins x = some u) (r:RelV v u) (hn:x ≠ "__name__":=by decide) (hd:(x == ("__debug__":Str)) = false:=by decide):PE X (.Name x pos) (tC v) :=
 fun _ _ _ H _ I h=>zbY I hg hm hv ⟨v,H,I,r,h⟩ hn hd
variable {a b:Expr} {ta tb:TE} {pos:Pos}
noncomputable def PC (X:Cx) (op:CmpOp) (a b:Expr) (t:TE):Prop :=
 ∀ (pins:List (Addr × Obj)) (s:Shared) (σ:St) (H:Hp) (Q:VK),Inv X pins σ H s->t σ H Q ->
  wpAny (model X.prog X.w) X.A (eval a X.env) (fun v s₁=>wpAny (model X.prog X.w) X.A (eval b X.env) (fun u s₂=>wpAny (model X.prog X.w) X.A (compareOp op v u) (EP X pins σ Q) X.xe s₂) X.xe s₁) X.xe s
theorem zeI (b:Expr) {op:CmpOp} (h:op ≠ .In) (h2:op ≠ .NotIn):behindInMarks op b = false:=by
 have e1:(op == CmpOp.In) = false:=by cases op <;> first | rfl | exact absurd rfl h
 have e2:(op == CmpOp.NotIn) = false:=by cases op <;> first | rfl | exact absurd rfl h2
 cases b <;> simp [behindInMarks,e1,e2]
noncomputable def tIsN (ta:TE):TE:=fun σ H Q=>ta σ H fun x H1=>Q (.bl (decide (x = .non))) H1
noncomputable def zhF (ta:TE):TE:=fun σ H Q=>ta σ H fun x H1=>Q (.bl (!decide (x = .non))) H1
theorem RelV.none_iff {x:V} {v:Value} (r:RelV x v):(v == Value.none) = decide (x = .non):=by
 cases x with
 | non=>cases r; rfl
 | bl _=>cases r; rfl
 | int _=>obtain ⟨t,rfl⟩:=r; rfl
 | str _=>obtain ⟨t,rfl⟩:=r; rfl
 | byt _=>obtain ⟨t,rfl⟩:=r; rfl
 | flt _=>obtain ⟨t,rfl⟩:=r; rfl
 | ref _=>cases r; rfl
 | ty _=>cases r; rfl
theorem zcg {j pos'} (ha:PE X a ta):PC X .Is a (.Constant .none j pos') (tIsN ta):=by
 intro pins s σ H Q I h
 refine thn (ha pins s σ H _ I h) fun v s1 ⟨x,H1,I1,r1,q1⟩=>?_
 exact Constant_none (is_none_gen ⟨.bl _,H1,I1,by rw [r1.none_iff]; rfl,q1⟩)
theorem zcI {j pos'} (ha:PE X a ta):PC X .IsNot a (.Constant .none j pos') (zhF ta):=by
 intro pins s σ H Q I h
 refine thn (ha pins s σ H _ I h) fun v s1 ⟨x,H1,I1,r1,q1⟩=>?_
 exact Constant_none (isnot_none_gen ⟨.bl _,H1,I1,by rw [r1.none_iff]; rfl,q1⟩)
noncomputable def tB (t:TE):TT:=fun σ H Q=>t σ H fun x H1=>∃ c,x = .bl c∧Q c H1
theorem zhp {op:CmpOp} {t:TE} (h:PC X op a b t) (h1:behindInMarks op b = false:=by first | exact zeI _ (by decide) (by decide) | rfl):PE X (.Compare a [op] [b] pos) t:=fun pins s σ H Q I hw=>wpAny_Compare1 (h pins s σ H Q I hw) h1
theorem za9 {op:CmpOp} {t:TE} (h:PC X op a b t) (h1:behindInMarks op b = false:=by first | exact zeI _ (by decide) (by decide) | rfl):PT X (.Compare a [op] [b] pos) (tB t):=by
 intro pins s σ H Q I hw
 refine wpAny_isTrue_Compare1 (thn (h pins s σ H _ I hw) fun v s1 h1=>thn h1 fun u s2 h2=>thn h2 fun c s3 ⟨x,H1,I1,r1,q1⟩=>?_) h1
 obtain ⟨d,rfl,q⟩:=q1
 cases r1
 exact wpAny_truthy_bool ⟨H1,I1,q⟩
theorem zbh {e:Expr} {t:TE} (h:PE X e t) (he:∀ whole,isTrue e X.env whole = (do let v ← whole; standAt e.pos; holding [v] (truthy v)):=by intro _; rfl):PT X e (tB t):=by
 intro pins s σ H Q I hw
 refine isTrue_plain (thn (h pins s σ H _ I hw) fun v s1 ⟨x,H1,I1,r1,q1⟩=>?_) (he _)
 obtain ⟨d,rfl,q⟩:=q1
 cases r1
 exact wpAny_truthy_bool ⟨H1,I1,q⟩
variable {tA tB':TT} {rest:List Expr}
noncomputable def tAnd (t u:TT):TT:=fun σ H Q=>t σ H fun c H1=>if c = true then u σ H1 Q else Q false H1
noncomputable def tOr (t u:TT):TT:=fun σ H Q=>t σ H fun c H1=>if c = true then Q true H1 else u σ H1 Q
noncomputable def tNot (t:TT):TT:=fun σ H Q=>t σ H fun c H1=>Q (!c) H1
theorem zbP (ha:PT X a tA):PW X (.BoolOp .And [a] pos) tA:=by
 intro wh pins s σ H Q I h
 refine isTrue_and (thn (ha pins s σ H Q I h) fun c s1 e=>?_)
 cases c with
 | true=>exact isTrue_and_nil e
 | false=>exact e
theorem zcd (ha:PT X a tA):PW X (.BoolOp .Or [a] pos) tA:=by
 intro wh pins s σ H Q I h
 refine isTrue_or (thn (ha pins s σ H Q I h) fun c s1 e=>?_)
 cases c with
 | false=>exact isTrue_or_nil e
 | true=>exact e
theorem zcm (ha:PT X a tA) (hb:PW X (.BoolOp .And (b :: rest) pos) tB'):PW X (.BoolOp .And (a :: b :: rest) pos) (tAnd tA tB'):=by
 intro wh pins s σ H Q I h
 refine isTrue_and (thn (ha pins s σ H _ I h) fun c s1 ⟨H1,I1,q1⟩=>?_)
 cases c with
 | true=>exact hb wh pins s1 σ H1 Q I1 q1
 | false=>exact ⟨H1,I1,q1⟩
theorem zdu (ha:PT X a tA) (hb:PW X (.BoolOp .Or (b :: rest) pos) tB'):PW X (.BoolOp .Or (a :: b :: rest) pos) (tOr tA tB'):=by
 intro wh pins s σ H Q I h
 refine isTrue_or (thn (ha pins s σ H _ I h) fun c s1 ⟨H1,I1,q1⟩=>?_)
 cases c with
 | true=>exact ⟨H1,I1,q1⟩
 | false=>exact hb wh pins s1 σ H1 Q I1 q1
theorem zcK (ha:PT X a tA):PT X (.UnaryOp .Not a pos) (tNot tA):=by
 intro pins s σ H Q I h
 exact isTrue_not (ha pins s σ H (fun c H1=>Q (!c) H1) I h)
noncomputable def ziw (ta tb:TE):TE:=fun σ H Q=>ta σ H fun x H1=>∃ c,x = .bl c∧if c = true then tb σ H1 Q else Q (.bl false) H1
noncomputable def tOrV (ta tb:TE):TE:=fun σ H Q=>ta σ H fun x H1=>∃ c,x = .bl c∧if c = true then Q (.bl true) H1 else tb σ H1 Q
noncomputable def tNotV (ta:TE):TE:=fun σ H Q=>ta σ H fun x H1=>∃ c,x = .bl c∧Q (.bl (!c)) H1
theorem zcE {op} {t:TE} (h:PE X a t):PE X (.BoolOp op [a] pos) t:=fun pins s σ H Q I hw=>BoolOp_one (h pins s σ H Q I hw)
theorem zcG (ha:PE X a ta) (hb:PE X (.BoolOp .And (b :: rest) pos) tb):PE X (.BoolOp .And (a :: b :: rest) pos) (ziw ta tb):=by
 intro pins s σ H Q I h
 refine BoolOp_and (thn (ha pins s σ H _ I h) fun v s1 ⟨x,H1,I1,r1,q1⟩=>?_)
 obtain ⟨c,rfl,q1⟩:=q1
 cases r1
 refine wpAny_truthy_bool ?_
 cases c with
 | true=>exact hb pins s1 σ H1 Q I1 q1
 | false=>exact ⟨.bl false,H1,I1,rfl,q1⟩
theorem pe_or (ha:PE X a ta) (hb:PE X (.BoolOp .Or (b :: rest) pos) tb):PE X (.BoolOp .Or (a :: b :: rest) pos) (tOrV ta tb):=by
 intro pins s σ H Q I h
 refine BoolOp_or (thn (ha pins s σ H _ I h) fun v s1 ⟨x,H1,I1,r1,q1⟩=>?_)
 obtain ⟨c,rfl,q1⟩:=q1
 cases r1
 refine wpAny_truthy_bool ?_
 cases c with
 | false=>exact hb pins s1 σ H1 Q I1 q1
 | true=>exact ⟨.bl true,H1,I1,rfl,q1⟩
noncomputable def tIf (t:TT) (ta tb:TE):TE:=fun σ H Q=>t σ H fun c H1=>if c = true then ta σ H1 Q else tb σ H1 Q
theorem za2 {c:Expr} (hc:PT X c tA) (ha:PE X a ta) (hb:PE X b tb):PE X (.IfExp c a b pos) (tIf tA ta tb):=by
 intro pins s σ H Q I h
 refine wpAny_IfExp (thn (hc pins s σ H _ I h) fun d s1 ⟨H1,I1,q1⟩=>?_)
 cases d with
 | true=>exact ha pins s1 σ H1 Q I1 q1
 | false=>exact hb pins s1 σ H1 Q I1 q1
end
end L2
namespace L2
open PySem PySem.Spec PyProof.Rows
noncomputable def SqL (K:PySem.W.Frag) (H:Hp) (a:Addr) (xs:List V):Prop :=
 Rd H a (.lst xs) ∨
  ∃ (o:Obj) (its:Array Value) (n:Nat),K.lookup a = some o∧o.cls = .type "list"∧o.dict = none∧o.data = .seq its n∧its.size ≤ sizeLine∧Vals xs its.toList
noncomputable def SqT (K:PySem.W.Frag) (H:Hp) (a:Addr) (xs:List V):Prop :=
 Rd H a (.tup xs) ∨
  ∃ (o:Obj) (its:Array Value) (n:Nat),K.lookup a = some o∧o.cls = .type "tuple"∧o.data = .seq its n∧its.size ≤ sizeLine∧Vals xs its.toList
noncomputable def absV:Value->Option V
 | .none=>some .non
 | .bool b=>some (.bl b)
 | .int i _=>some (.int i)
 | .str x _=>some (.str x)
 | .bytes b _=>some (.byt b)
 | .float b _=>some (.flt b)
 | .ref a=>some (.ref a)
 | .type n=>some (.ty n)
 | _=>none
theorem RelV.abs {x:V} {u:Value} (r:RelV x u):absV u = some x:=by
 cases x with
 | non=>cases r; rfl
 | bl _=>cases r; rfl
 | int _=>obtain ⟨t,rfl⟩:=r; rfl
 | str _=>obtain ⟨t,rfl⟩:=r; rfl
 | byt _=>obtain ⟨t,rfl⟩:=r; rfl
 | flt _=>obtain ⟨t,rfl⟩:=r; rfl
 | ref _=>cases r; rfl
 | ty _=>cases r; rfl
theorem RelV.inj {x y:V} {u:Value} (r:RelV x u) (q:RelV y u):x = y:=Option.some.inj (r.abs.symm.trans q.abs)
theorem Vals.inj:∀ {xs ys:List V} {us:List Value},Vals xs us->Vals ys us->xs = ys
 | _,_,_,.nil,.nil=>rfl
 | _,_,_,.cons r t,.cons r' t'=>by rw [r.inj r',Vals.inj t t']
section
variable {X:Cx} {pins:List (Addr × Obj)} {σ:St} {H:Hp} {s:Shared} {a:Addr} {xs ys:List V}
theorem SqL.of {K:PySem.W.Frag} (h:H a = some (.lst xs)):SqL K H a xs:=.inl (.inl h)
theorem SqT.of {K:PySem.W.Frag} (h:H a = some (.tup xs)):SqT K H a xs:=.inl (.inl h)
theorem Inv.list (I:Inv X pins σ H s) (h:SqL X.K H a xs):∃ its:List Value,Vals xs its∧PlainL s.heap a its.toArray∧xs.length ≤ sizeLine:=by
 rcases h with h | ⟨o,its,n,hk,hc,hd,hs,hz,r⟩
 ·obtain ⟨z,its,n,r,e⟩:=h.ok I.hok
  exact ⟨its,r,⟨_,n,e,rfl,rfl,rfl⟩,z⟩
 ·refine ⟨its.toList,r,⟨o,n,I.kIn a o hk,hc,hd,by simpa using hs⟩,?_⟩
  have e:=r.length
  simp only [Array.length_toList] at e
  omega
theorem Inv.tuple (I:Inv X pins σ H s) (h:SqT X.K H a xs):∃ its:List Value,Vals xs its∧IsTup s.heap a its.toArray∧xs.length ≤ sizeLine:=by
 rcases h with h | ⟨o,its,n,hk,hc,hs,hz,r⟩
 ·obtain ⟨z,its,r,p⟩:=h.ok I.hok
  exact ⟨its,r,p,z⟩
 ·refine ⟨its.toList,r,⟨o,I.kIn a o hk,hc,n,by simpa using hs⟩,?_⟩
  have e:=r.length
  simp only [Array.length_toList] at e
  omega
theorem Inv.list_inj (I:Inv X pins σ H s) (h:SqL X.K H a xs) (h':SqL X.K H a ys):xs = ys:=by
 obtain ⟨its,r,⟨o,n,e,_,_,d⟩,_⟩:=I.list h
 obtain ⟨its',r',⟨o',n',e',_,_,d'⟩,_⟩:=I.list h'
 rw [e] at e'; cases e'
 rw [d] at d'
 injection d' with d1 _
 have:its = its':=by simpa using congrArg Array.toList d1
 subst this
 exact r.inj r'
theorem Inv.tuple_inj (I:Inv X pins σ H s) (h:SqT X.K H a xs) (h':SqT X.K H a ys):xs = ys:=by
 obtain ⟨its,r,⟨o,e,_,n,d⟩,_⟩:=I.tuple h
 obtain ⟨its',r',⟨o',e',_,n',d'⟩,_⟩:=I.tuple h'
 rw [e] at e'; cases e'
 rw [d] at d'
 injection d' with d1 _
 have:its = its':=by simpa using congrArg Array.toList d1
 subst this
 exact r.inj r'
end
noncomputable abbrev Cx.wish (X:Cx) (E:Value->Shared->Prop):Cx:={ X with xe:=E }
noncomputable abbrev Cx.nox (X:Cx):Cx:=X.wish fun _ _=>False
theorem Cx.Ok.wish {X:Cx} (ok:X.Ok) (E:Value->Shared->Prop):(X.wish E).Ok :=
 ⟨ok.mod,ok.kind,ok.glob,ok.blt,ok.above,ok.inj,ok.has,ok.cab,ok.hd,ok.frames,ok.stk,ok.exf,ok.bs,ok.bsz,ok.noex,ok.exfs,ok.funs,ok.frf⟩
theorem Cx.Ok.unwish {X:Cx} {E:Value->Shared->Prop} (ok:(X.wish E).Ok):X.Ok :=
 ⟨ok.mod,ok.kind,ok.glob,ok.blt,ok.above,ok.inj,ok.has,ok.cab,ok.hd,ok.frames,ok.stk,ok.exf,ok.bs,ok.bsz,ok.noex,ok.exfs,ok.funs,ok.frf⟩
section
variable {X:Cx} {pins:List (Addr × Obj)} {σ:St} {H:Hp} {s:Shared} {E:Value->Shared->Prop}
theorem Inv.wish (I:Inv X pins σ H s) (E:Value->Shared->Prop):Inv (X.wish E) pins σ H s:=⟨I.ok.wish E,I.os,I.bare,I.base,I.loc,I.cell,I.free,I.freeC,I.pin,I.hok,I.len⟩
theorem Inv.unwish (I:Inv (X.wish E) pins σ H s):Inv X pins σ H s:=⟨I.ok.unwish,I.os,I.bare,I.base,I.loc,I.cell,I.free,I.freeC,I.pin,I.hok,I.len⟩
theorem SP.unwish {D:Ends} {f:Flow} {s':Shared} (h:SP (X.wish E) pins D f s'):SP X pins D f s':=by
 cases f with
 | next=>obtain ⟨σ',H',I,q⟩:=h; exact ⟨σ',H',I.unwish,q⟩
 | brk=>obtain ⟨σ',H',I,q⟩:=h; exact ⟨σ',H',I.unwish,q⟩
 | cont=>obtain ⟨σ',H',I,q⟩:=h; exact ⟨σ',H',I.unwish,q⟩
 | ret u=>obtain ⟨v,σ',H',I,r,q⟩:=h; exact ⟨v,σ',H',I.unwish,r,q⟩
theorem PSs.nox {st:List Stmt} {t:TS} (h:PSs X.nox st t):PSs X st t:=fun pins s σ H D I hw =>
 wpAny_mono (h pins s σ H D (I.wish _) hw) (fun _ _ q=>q.unwish) fun _ _ z=>False.elim z
end
section
variable {X:Cx} {st:Stmt} {rest:List Stmt} {t u:TS} {e:Expr} {te:TE} {pos:Pos}
noncomputable def tNext:TS:=fun D σ H=>D.nx σ H
noncomputable def tSeq (t u:TS):TS:=fun D σ H=>t { D with nx:=u D } σ H
theorem pss_nil:PSs X [] tNext:=fun _ _ σ H _ I h=>wpAny_execs_nil ⟨σ,H,I,h⟩
theorem zad (h1:PS X st t) (h2:PSs X rest u):PSs X (st :: rest) (tSeq t u):=by
 intro pins s σ H D I h
 refine wpAny_execs_cons (thn (h1 pins s σ H { D with nx:=u D } I h) fun f s1 q=>?_)
 cases f with
 | next =>
  obtain ⟨σ',H',I',q⟩:=q
  exact h2 pins s1 σ' H' D I' q
 | ret v=>exact q
 | brk=>exact q
 | cont=>exact q
theorem zaf (h1:PS X st t):PSs X [st] t:=by
 intro pins s σ H D I h
 refine wpAny_execs_cons (thn (h1 pins s σ H D I h) fun f s1 q=>?_)
 cases f with
 | next=>exact wpAny_execs_nil q
 | ret v=>exact q
 | brk=>exact q
 | cont=>exact q
theorem Inv.quiet {pins:List (Addr × Obj)} {σ:St} {H:Hp} {s:Shared} (I:Inv X pins σ H s):interactive X.env = false:=by simp [interactive,I.ok.kind]
noncomputable def zd6 (te:TE):TS:=fun D σ H=>te σ H fun _ H1=>D.nx σ H1
theorem za6 (he:PE X e te) (hs:swapsWith e none pos.line X.env = pure false:=by rfl):PS X (.Expr e pos) (zd6 te):=by
 intro pins s σ H D I h
 exact wpAny_Expr_any (thn (he pins s σ H _ I h) fun v s1 ⟨x,H1,I1,r1,q1⟩=>⟨σ,H1,I1,q1⟩) I.quiet hs
noncomputable def tRet (te:TE):TS:=fun D σ H=>te σ H D.rt
theorem zao (he:PE X e te):PS X (.Return (some e) pos) (tRet te):=by
 intro pins s σ H D I h
 exact wpAny_Return_some (thn (he pins s σ H _ I h) fun v s1 ⟨x,H1,I1,r1,q1⟩=>⟨x,σ,H1,I1,r1,q1⟩)
noncomputable def tRetN:TS:=fun D _ H=>D.rt .non H
noncomputable def tIfS (c:TT) (t u:TS):TS:=fun D σ H=>c σ H fun b H1=>if b = true then t D σ H1 else u D σ H1
theorem zaD {c:Expr} {a b:List Stmt} {tc:TT} (hc:PT X c tc) (ha:PSs X a t) (hb:PSs X b u):PS X (.If c a b pos) (tIfS tc t u):=by
 intro pins s σ H D I h
 refine wpAny_If (thn (hc pins s σ H _ I h) fun d s1 ⟨H1,I1,q1⟩=>?_)
 cases d with
 | true=>exact ha pins s1 σ H1 D I1 q1
 | false=>exact hb pins s1 σ H1 D I1 q1
end
abbrev TG:=V->St->Hp->(St->Hp->Prop)->Prop
abbrev TGs:=List V->St->Hp->(St->Hp->Prop)->Prop
noncomputable def PG (X:Cx) (target:Expr) (t:TG):Prop :=
 ∀ (pins:List (Addr × Obj)) (s:Shared) (σ:St) (H:Hp) (v:V) (u:Value) (Q:St->Hp->Prop),Inv X pins σ H s->RelV v u->t v σ H Q ->
  wpAny (model X.prog X.w) X.A (assign target X.env u) (fun _ s'=>∃ σ' H',Inv X pins σ' H' s'∧Q σ' H') X.xe s
noncomputable def PGs (X:Cx) (ts:List Expr) (t:TGs):Prop :=
 ∀ (pins:List (Addr × Obj)) (s:Shared) (σ:St) (H:Hp) (vs:List V) (us:List Value) (Q:St->Hp->Prop),Inv X pins σ H s->Vals vs us->t vs σ H Q ->
  wpAny (model X.prog X.w) X.A (assignInOrder ((assignEach ts X.env).map (·.2)) us) (fun _ s'=>∃ σ' H',Inv X pins σ' H' s'∧Q σ' H') X.xe s
abbrev TSet:=V->V->V->Hp->(Hp->Prop)->Prop
noncomputable def PSet (X:Cx) (t:TSet):Prop :=
 ∀ (pins:List (Addr × Obj)) (s:Shared) (σ:St) (H:Hp) (o i v:V) (ov iv u:Value) (Q:Hp->Prop),Inv X pins σ H s->RelV o ov->RelV i iv->RelV v u->t o i v H Q ->
  wpAny (model X.prog X.w) X.A (setItem ov iv u) (fun _ s'=>∃ H',Inv X pins σ H' s'∧Q H') X.xe s
abbrev TIp:=V->V->Hp->VK->Prop
section
variable {X:Cx} {pos:Pos}
noncomputable def zcJ (i:Nat):TG:=fun v σ H Q=>Q (σ.set i (some v)) H
theorem zaq {i:Nat} {x:Str} (hN:X.N.Nodup) (hi:X.N[i]? = some x) (hx:Loc X.env.scope x) (hf:X.fn x = true ∨ X.env.scope.names.lookup x = some .local:=by first | exact .inl rfl | exact .inr rfl | assumption):PG X (.Name x pos) (zcJ i):=by
 intro pins s σ H v u Q I r h
 exact wpAny_assign_Name (zeC I hN hi hx r (fun s' I'=>⟨_,H,I',h⟩) hf)
noncomputable def gNil:TGs:=fun vs σ H Q=>vs = []∧Q σ H
noncomputable def zhG (t:TG) (u:TGs):TGs:=fun vs σ H Q=>∃ v r,vs = v :: r∧t v σ H fun σ' H'=>u r σ' H' Q
theorem pgs_nil:PGs X [] gNil:=by
 intro pins s σ H vs us Q I r h
 obtain ⟨e,h⟩:=h
 subst e
 cases r
 exact assignInOrder_nil ⟨σ,H,I,h⟩
theorem zaA {e:Expr} {es:List Expr} {t:TG} {u:TGs} (h1:PG X e t) (h2:PGs X es u)
  (hs:(assignEach (e :: es) X.env).map (·.2) = assign e X.env :: (assignEach es X.env).map (·.2):=by rfl):PGs X (e :: es) (zhG t u):=by
 intro pins s σ H vs us Q I r h
 obtain ⟨v,vr,e1,h⟩:=h
 subst e1
 cases r with
 | cons r rr =>
  rw [hs]
  refine assignInOrder_cons (thn (h1 pins s σ H _ _ _ I r h) fun _ s1 ⟨σ1,H1,I1,q1⟩=>?_)
  exact h2 pins s1 σ1 H1 _ _ Q I1 rr q1
noncomputable def gTup (K:PySem.W.Frag) (n:Nat) (t:TGs):TG:=fun v σ H Q=>∃ a xs,v = .ref a∧SqT K H a xs∧xs.length = n∧t xs σ H Q
theorem zbo {es:List Expr} {k:Nat} {t:TGs} {n:Nat} (hc:X.calm = true) (h:PGs X es t)
  (hn:(assignEach es X.env).length = n:=by rfl) (hst:(assignEach es X.env).findIdx? (·.1) = none:=by rfl):PG X (.Tuple es k pos) (gTup X.K n t):=by
 intro pins s σ H v u Q I r hw
 obtain ⟨a,xs,e1,hq,hl,hw⟩:=hw
 subst e1
 cases r
 obtain ⟨its,rv,ht,hz⟩:=I.tuple hq
 refine assign_Tuple_tuple (I.ok.hd hc) ht (by simp [hn,← hl,rv.length]) hst fun h' hx=>?_
 have I1:Inv X pins σ H { s with heap:=h' }:=I.kept (t':=s.toks) fun b o e=>hx b o (Nat.ne_of_lt (Heap.lt_size e)) e
 exact h pins _ σ H xs _ Q I1 (by simpa using rv) hw
noncomputable def gSub (to ti:TE) (t:TSet):TG:=fun v σ H Q=>to σ H fun o H1=>ti σ H1 fun i H2=>t o i v H2 fun H3=>Q σ H3
theorem zbr {o i:Expr} {to ti:TE} {t:TSet} (ho:PE X o to) (hi:PE X i ti) (hs:PSet X t)
  (ha:∀ v,assign (.Subscript o i pos) X.env v = (do
   let ov ← holding [v] (eval o X.env)
   let iv ← holding [v,ov] (eval i X.env)
   standAt pos
   holding [v,ov,iv] (setItem ov iv v)
   release [v,ov,iv] []):=by intro _; rfl):PG X (.Subscript o i pos) (gSub to ti t):=by
 intro pins s σ H v u Q I r h
 rw [ha]
 refine wpAny_bind (wpAny_holding (thn (ho pins s σ H _ I h) fun ov s1 ⟨x,H1,I1,r1,q1⟩=>?_))
 refine wpAny_bind (wpAny_holding (thn (hi pins s1 σ H1 _ I1 q1) fun iv s2 ⟨y,H2,I2,r2,q2⟩=>?_))
 refine wpAny_bind (wpAny_standAt (wpAny_bind (wpAny_holding (thn (hs pins s2 σ H2 x y v ov iv u _ I2 r1 r2 r q2) fun _ s3 ⟨H3,I3,q3⟩=>?_))))
 exact wpAny_release ⟨σ,H3,I3,q3⟩
noncomputable def tAsg (te:TE) (g:TG):TS:=fun D σ H=>te σ H fun x H1=>g x σ H1 D.nx
theorem zbf {tg e:Expr} {te:TE} {g:TG} (he:PE X e te) (hg:PG X tg g) (hs:swapsWithSole [tg] e pos.line X.env = pure false:=by rfl) (hw:swappedStores [tg] e X.env = pure none:=by rfl)
  (h1:(assignEach [tg] X.env).map (·.2) = [assign tg X.env]:=by rfl):PS X (.Assign [tg] e pos) (tAsg te g):=by
 intro pins s σ H D I h
 refine wpAny_Assign_stores (thn (he pins s σ H _ I h) fun v s1 ⟨x,H1,I1,r1,q1⟩=>?_) hs hw
 rw [h1]
 exact thn (hg pins s1 σ H1 x v _ I1 r1 q1) fun _ s2 q=>q
theorem zaw {i:Nat} {x:Str} {e:Expr} {te:TE} {pos':Pos} (hN:X.N.Nodup) (hi:X.N[i]? = some x) (hx:Loc X.env.scope x) (he:PE X e te) (hs:swapsWith e (some (.Name x pos')) pos.line X.env = pure false:=by rfl) (hf:X.fn x = true ∨ X.env.scope.names.lookup x = some .local:=by first | exact .inl rfl | exact .inr rfl | assumption) :
  PS X (.Assign [.Name x pos'] e pos) (tAsg te (zcJ i)):=by
 intro pins s σ H D I h
 refine wpAny_Assign_Name (thn (he pins s σ H _ I h) fun v s1 ⟨y,H1,I1,r1,q1⟩=>?_) hs
 exact zeC I1 hN hi hx r1 (fun s2 I2=>⟨_,H1,I2,q1⟩) hf
noncomputable def tAug (i:Nat) (te:TE) (ti:TIp):TS:=fun D σ H=>∃ x,σ[i]? = some (some x)∧te σ H fun y H1=>ti x y H1 fun z H2=>D.nx (σ.set i (some z)) H2
noncomputable def ipI (f:Int->Int->Int):TIp:=fun x y H Q=>∃ i j,x = .int i∧y = .int j∧Q (.int (f i j)) H
end
section
variable {X:Cx} {pos:Pos}
noncomputable def zeO (c:TT) (tb:TS):TS:=fun D σ H=>∃ W:Nat->St->Hp->Prop,(∃ m,W m σ H)∧∀ m σ H,W m σ H ->
 c σ H fun b H1=>if b = true then ∃ N:St->Hp->Prop,(∀ σ' H',N σ' H'->∃ m',m' < m∧W m' σ' H')∧tb { D with nx:=N,ct:=N,bk:=D.nx } σ H1 else D.nx σ H1
theorem zcC {c:Expr} {body:List Stmt} {tc:TT} {tb:TS} (hp:PassesOwn (model X.prog X.w) X.A X.env X.xe) (hc:PT X c tc) (hb:PSs X body tb):PS X (.While c body [] pos) (zeO tc tb):=by
 intro pins s σ H D I h
 obtain ⟨W,⟨m0,w0⟩,turn⟩:=h
 refine wpAny_While (codeAny_whileLoop (fun n s'=>∃ σ' H',Inv X pins σ' H' s'∧W n σ' H') ?_ m0 ⟨σ,H,I,w0⟩)
 rintro n s1 ⟨σ1,H1,I1,w1⟩
 refine wpAny_passesOwn hp (thn (hc pins s1 σ1 H1 _ I1 (turn n σ1 H1 w1)) fun b s2 ⟨H2,I2,q2⟩=>?_)
 cases b with
 | true =>
  obtain ⟨N,hN,q2⟩:=q2
  rw [if_pos rfl]
  refine wpAny_passesOwn hp (thn (hb pins s2 σ1 H2 _ I2 q2) fun f s3 q3=>?_)
  cases f with
  | next =>
   obtain ⟨σ3,H3,I3,n3⟩:=q3
   obtain ⟨m',hm,w3⟩:=hN σ3 H3 n3
   exact ⟨m',hm,σ3,H3,I3,w3⟩
  | cont =>
   obtain ⟨σ3,H3,I3,n3⟩:=q3
   obtain ⟨m',hm,w3⟩:=hN σ3 H3 n3
   exact ⟨m',hm,σ3,H3,I3,w3⟩
  | brk=>exact q3
  | ret v=>exact q3
 | false =>
  rw [if_neg Bool.false_ne_true]
  exact wpAny_execs_nil ⟨σ1,H2,I2,q2⟩
end
structure It where
 go:Nat->Hp->Prop
 yld:Nat->Hp->V->Hp->Prop
 stop:Nat->Hp->Prop
noncomputable def FpOk (X:Cx) (pins:List (Addr × Obj)) (H:Hp) (b:Addr):Prop :=
 H b = none∧b ≠ X.env.locals∧b ∉ X.fs∧(b ∈ X.ex ∨ X.s₀.heap.objs.size ≤ b)∧(∀ x c,X.env.cells.lookup x = some c->c ≠ b)∧∀ p ∈ X.pn ++ pins,p.1 ≠ b
theorem Inv.fpOk {X:Cx} {pins:List (Addr × Obj)} {σ:St} {H H':Hp} {s:Shared} {b:Addr} (I:Inv X pins σ H s) (hb:s.heap.objs.size ≤ b) (hn:H' b = none):FpOk X pins H' b:=by
 refine ⟨hn,Nat.ne_of_gt (Nat.lt_of_lt_of_le I.lt hb),I.nofs hb,.inr (Nat.le_trans I.sz hb),fun x c e z=>?_,fun p hp z=>?_⟩
 ·obtain ⟨v,q⟩:=I.cell x c e
  exact absurd (Nat.lt_of_lt_of_le q.lt (by rw [z]; exact hb)) (Nat.lt_irrefl _)
 ·exact absurd (Nat.lt_of_lt_of_le (Heap.lt_size (I.pin p hp).1) (by rw [z]; exact hb)) (Nat.lt_irrefl _)
structure Turn (P:Program) (w:World) (K:PySem.W.Frag) (tg:Expr) (J:It) (fp:List Addr) (it:Addr) (tn:Nat->Heap->Prop):Prop where
 mem:it ∈ fp
 obj:∀ i h,tn i h->∀ b ∈ fp,∃ o,h.get? b = some o∧∀ v,o.data ≠ .cell v
 keep:∀ i h h',tn i h->(∀ b ∈ fp,∀ o,h.get? b = some o->h'.get? b = some o)->tn i h'
 item:∀ (X:Cx),X.prog = P->X.w = w->X.K = K->X.calm = true->∀ (i:Nat) (pins:List (Addr × Obj)) (s:Shared) (σ:St) (H:Hp) (E:Value->Shared->Prop),Inv X pins σ H s->(∀ b ∈ fp,FpOk X pins H b)->tn i s.heap->J.go i H ->
  wpAny (model P w) X.A (pyNext (.ref it)) (fun r s1=>∃ u,r = some u ∧
   wpAny (model P w) X.A (letOwnedTupleGo tg (.ref it) u) (fun _ s2=>∃ x H',Inv X pins σ H' s2∧RelV x u∧J.yld i H x H'∧tn (i + 1) s2.heap∧∀ b ∈ fp,H' b = none) E s1) E s
 done:∀ (X:Cx),X.prog = P->X.w = w->X.K = K->X.calm = true->∀ (i:Nat) (pins:List (Addr × Obj)) (s:Shared) (σ:St) (H:Hp) (E:Value->Shared->Prop),Inv X pins σ H s->(∀ b ∈ fp,FpOk X pins H b)->tn i s.heap->J.stop i H ->
  wpAny (model P w) X.A (pyNext (.ref it)) (fun r s1=>r = none∧Inv X pins σ H s1) E s
 self:∀ (A:Around) (i:Nat) (s:Shared) (Q:Value->Shared->Prop) (E:Value->Shared->Prop),tn i s.heap->Q (.ref it) s->wpAny (model P w) A (pyIter (.ref it)) Q E s
abbrev TI:=St->Hp->(It->Hp->Prop)->Prop
noncomputable def PIE (X:Cx) (pins:List (Addr × Obj)) (σ:St) (tg:Expr) (R:It->Hp->Prop) (itv:Value) (s2:Shared):Prop :=
 ∃ (it:Addr) (fp:List Addr) (tn:Nat->Heap->Prop) (J:It) (H':Hp),itv = .ref it∧Inv X pins σ H' s2∧Turn X.prog X.w X.K tg J fp it tn∧tn 0 s2.heap∧(∀ b ∈ fp,FpOk X pins H' b)∧R J H'
noncomputable def PI (X:Cx) (tg iter:Expr) (wi:TI):Prop :=
 ∀ (pins:List (Addr × Obj)) (s:Shared) (σ:St) (H:Hp) (R:It->Hp->Prop),Inv X pins σ H s->wi σ H R ->
  wpAny (model X.prog X.w) X.A (eval iter X.env) (fun v s1=>wpAny (model X.prog X.w) X.A (pyIter v) (PIE X pins σ tg R) X.xe s1) X.xe s
theorem zgN {M : Model} {A : Around} {E : Value → Shared → Prop} {s : Shared} {tg : Expr} {it : Addr} {u : Value} {o : Obj} {n : String} {vs : Array Value} {Q : Unit → Shared → Prop} (ho : s.heap.get? it = some o) (hc : o.cls = .type n) (hd : o.data = .fields vs)
    (hn : ["enumerate", "zip", "dict_itemiterator", "dict_reverseitemiterator", "odict_iterator", "itertools.zip_longest", "itertools.pairwise"].contains n = false) (hQ : Q () s) : wpAny M A (letOwnedTupleGo tg (.ref it) u) Q E s := by
  unfold letOwnedTupleGo
  cases tg <;> first
    | exact wpAny_pure hQ
    | (cases u <;> first
        | exact wpAny_pure hQ
        | (refine wpAny_bind (wpAny_load ho ?_)
           rw [hc, hd]
           show wpAny M A (if (["enumerate", "zip", "dict_itemiterator", "dict_reverseitemiterator", "odict_iterator", "itertools.zip_longest", "itertools.pairwise"].contains n && vs[0]? == some (rawInt _)) = true then _ else _) Q E s
           rw [if_neg (by intro h; rw [hn, Bool.false_and] at h; cases h)]
           exact wpAny_pure hQ))
noncomputable def Itl (K:PySem.W.Frag) (a:Addr):It :=
 ⟨fun i H=>∃ xs x,SqL K H a xs∧xs[i]? = some x,fun i H x H'=>H' = H∧∀ xs,SqL K H a xs->xs[i]? = some x,fun i H=>∃ xs,SqL K H a xs∧xs.length ≤ i⟩
noncomputable def Itt (K:PySem.W.Frag) (a:Addr):It :=
 ⟨fun i H=>∃ xs x,SqT K H a xs∧xs[i]? = some x,fun i H x H'=>H' = H∧∀ xs,SqT K H a xs->xs[i]? = some x,fun i H=>∃ xs,SqT K H a xs∧xs.length ≤ i⟩
noncomputable def Itr (lo:Int) (n:Nat):It:=⟨fun i _=>i < n,fun i H x H'=>H' = H∧x = .int (lo + i),fun i _=>n ≤ i⟩
theorem zgc {P:Program} {w:World} {K:PySem.W.Frag} {tg:Expr} (a it:Addr):Turn P w K tg (Itl K a) [it] it (fun i h=>h.IsListIter it a i) where
 mem:=by simp
 obj:=fun i h st b hb=>by
  have e:b = it:=by simpa using hb
  subst e
  obtain ⟨o,e,c,d⟩:=st
  exact ⟨o,e,fun v z=>by rw [d] at z; cases z⟩
 keep:=fun i h h' st k=>st.at fun o e=>k it (by simp) o e
 item:=by
  intro X hP hw hK hc i pins s σ H E I hf st hg
  subst hP hw hK
  obtain ⟨xs,x,hq,hx⟩:=hg
  obtain ⟨its,rv,p,hz⟩:=I.list hq
  obtain ⟨u,hu,ru⟩:=rv.get hx
  obtain ⟨f0,f1,f2,f3,f4,f5⟩:=hf it (by simp)
  refine wpAny_pyNext_list_item st p.isList (x:=u) (by simpa using hu) fun h' st' sb=>?_
  have I1:Inv X pins σ H { s with heap:=h' }:=I.turned (t':=s.toks) (fun b o hb e=>(sb.2 b hb).trans e) f0 f1 f3 f4 f5
  obtain ⟨o,e,c,d⟩:=id st'
  exact ⟨u,rfl,zgN (s:={ s with heap:=h' }) e c d (by decide) ⟨x,H,I1,ru,⟨rfl,fun ys hy=>by rw [I.list_inj hy hq]; exact hx⟩,st',fun b hb=>(hf b hb).1⟩⟩
 done:=by
  intro X hP hw hK hc i pins s σ H E I hf st hg
  subst hP hw hK
  obtain ⟨xs,hq,hx⟩:=hg
  obtain ⟨its,rv,p,hz⟩:=I.list hq
  obtain ⟨f0,f1,f2,f3,f4,f5⟩:=hf it (by simp)
  have hl:=rv.length
  exact wpAny_pyNext_list_end (I.ok.hd hc) st p.isList (by simp; omega) fun h' eb=>⟨rfl,I.turned (t':=s.toks) (fun b o hb e=>eb b o hb e) f0 f1 f3 f4 f5⟩
 self:=fun _ _ _ _ _ st h=>wpAny_pyIter_listiter st h
theorem zfs {P:Program} {w:World} {K:PySem.W.Frag} {tg:Expr} (a it:Addr):Turn P w K tg (Itt K a) [it] it (fun i h=>h.IsTupleIter it a i) where
 mem:=by simp
 obj:=fun i h st b hb=>by
  have e:b = it:=by simpa using hb
  subst e
  obtain ⟨o,e,c,d⟩:=st
  exact ⟨o,e,fun v z=>by rw [d] at z; cases z⟩
 keep:=fun i h h' st k=>st.at fun o e=>k it (by simp) o e
 item:=by
  intro X hP hw hK hc i pins s σ H E I hf st hg
  subst hP hw hK
  obtain ⟨xs,x,hq,hx⟩:=hg
  obtain ⟨its,rv,p,hz⟩:=I.tuple hq
  obtain ⟨u,hu,ru⟩:=rv.get hx
  obtain ⟨f0,f1,f2,f3,f4,f5⟩:=hf it (by simp)
  refine wpAny_pyNext_tuple_item st (show s.heap.IsTuple a its.toArray from p) (x:=u) (by simpa using hu) fun h' st' sb=>?_
  have I1:Inv X pins σ H { s with heap:=h' }:=I.turned (t':=s.toks) (fun b o hb e=>(sb.2 b hb).trans e) f0 f1 f3 f4 f5
  obtain ⟨o,e,c,d⟩:=id st'
  exact ⟨u,rfl,zgN (s:={ s with heap:=h' }) e c d (by decide) ⟨x,H,I1,ru,⟨rfl,fun ys hy=>by rw [I.tuple_inj hy hq]; exact hx⟩,st',fun b hb=>(hf b hb).1⟩⟩
 done:=by
  intro X hP hw hK hc i pins s σ H E I hf st hg
  subst hP hw hK
  obtain ⟨xs,hq,hx⟩:=hg
  obtain ⟨its,rv,p,hz⟩:=I.tuple hq
  obtain ⟨f0,f1,f2,f3,f4,f5⟩:=hf it (by simp)
  have hl:=rv.length
  exact wpAny_pyNext_tuple_end (I.ok.hd hc) st (show s.heap.IsTuple a its.toArray from p) (by simp; omega) fun h' eb=>⟨rfl,I.turned (t':=s.toks) (fun b o hb e=>eb b o hb e) f0 f1 f3 f4 f5⟩
 self:=fun _ _ _ _ _ st h=>wpAny_pyIter_tupleiter st h
theorem zfm {P:Program} {w:World} {K:PySem.W.Frag} {tg:Expr} (it:Addr) (lo:Int) (n:Nat):Turn P w K tg (Itr lo n) [it] it (fun i h=>IsRangeIter h it (lo + (i:Nat) * 1) ((n:Int) - (i:Nat)) 1) where
 mem:=by simp
 obj:=fun i h st b hb=>by
  have e:b = it:=by simpa using hb
  subst e
  exact ⟨_,st,fun v z=>by
   have z':Data.fields _ = Data.cell v:=z
   cases z'⟩
 keep:=fun i h h' st k=>k it (by simp) _ st
 item:=by
  intro X hP hw hK hc i pins s σ H E I hf st hg
  subst hP hw hK
  obtain ⟨f0,f1,f2,f3,f4,f5⟩:=hf it (by simp)
  have W:=Walks.range (prog:=X.prog) (w:=X.w) (I.ok.hd hc) it lo 1 n
  refine W.item i s _ _ hg st fun v h' tk hv st' kk=>?_
  obtain ⟨t,rfl⟩:=hv
  have I1:Inv X pins σ H { s with heap:=h',toks:=tk }:=I.turned (fun b o hb e=>kk b o (by simpa using hb) e) f0 f1 f3 f4 f5
  refine ⟨_,rfl,zgN (s:={ s with heap:=h',toks:=tk }) (n:="range_iterator") st' rfl rfl (by decide) ⟨.int (lo + i),H,I1,⟨t,?_⟩,⟨rfl,rfl⟩,st',fun b hb=>(hf b hb).1⟩⟩
  rw [Int.mul_one]
 done:=by
  intro X hP hw hK hc i pins s σ H E I hf st hg
  subst hP hw hK
  obtain ⟨f0,f1,f2,f3,f4,f5⟩:=hf it (by simp)
  exact wpAny_pyNext_range_end (I.ok.hd hc) st (by have:n ≤ i:=hg; omega) fun h' eb=>⟨rfl,I.turned (t':=s.toks) (fun b o hb e=>eb b o hb e) f0 f1 f3 f4 f5⟩
 self:=fun _ _ _ _ _ st h=>wpAny_pyIter_rangeiter st h
end L2
namespace L2
open PySem PySem.Spec PyProof.Rows
section
variable {X:Cx} {tg:Expr}
noncomputable def zcs (K:PySem.W.Frag) (tl:TE):TI:=fun σ H R=>tl σ H fun x H1=>∃ a,x = .ref a∧(∃ xs,SqL K H1 a xs)∧R (Itl K a) H1
noncomputable def iTup (K:PySem.W.Frag) (tl:TE):TI:=fun σ H R=>tl σ H fun x H1=>∃ a,x = .ref a∧(∃ xs,SqT K H1 a xs)∧R (Itt K a) H1
theorem zaI {l:Expr} {tl:TE} (hl:PE X l tl):PI X tg l (zcs X.K tl):=by
 intro pins s σ H R I h
 refine thn (hl pins s σ H _ I h) fun v s1 ⟨x,H1,I1,r1,q1⟩=>?_
 obtain ⟨a,e,⟨xs,hq⟩,q⟩:=q1
 subst e
 cases r1
 obtain ⟨its,rv,p,hz⟩:=I1.list hq
 refine wpAny_pyIter_list p.isList ?_
 refine ⟨s1.heap.objs.size,[s1.heap.objs.size],_,_,H1,rfl,I1.kept (t':=s1.toks) fun b o e=>Heap.get?_push_of_some _ e,zgc a _,⟨_,Heap.get?_push_size _ rfl,rfl,rfl⟩,fun b hb=>?_,q⟩
 have e:b = s1.heap.objs.size:=by simpa using hb
 subst e
 exact I1.fpOk (Nat.le_refl _) (I1.hok.fresh (Nat.le_refl _))
theorem ziN {l:Expr} {tl:TE} (hl:PE X l tl):PI X tg l (iTup X.K tl):=by
 intro pins s σ H R I h
 refine thn (hl pins s σ H _ I h) fun v s1 ⟨x,H1,I1,r1,q1⟩=>?_
 obtain ⟨a,e,⟨xs,hq⟩,q⟩:=q1
 subst e
 cases r1
 obtain ⟨its,rv,p,hz⟩:=I1.tuple hq
 refine wpAny_pyIter_tuple (show s1.heap.IsTuple a its.toArray from p) ?_
 refine ⟨s1.heap.objs.size,[s1.heap.objs.size],_,_,H1,rfl,I1.kept (t':=s1.toks) fun b o e=>Heap.get?_push_of_some _ e,zfs a _,⟨_,Heap.get?_push_size _ rfl,rfl,rfl⟩,fun b hb=>?_,q⟩
 have e:b = s1.heap.objs.size:=by simpa using hb
 subst e
 exact I1.fpOk (Nat.le_refl _) (I1.hok.fresh (Nat.le_refl _))
theorem zeL {pins:List (Addr × Obj)} {σ:St} {H:Hp} {s:Shared} {R:It->Hp->Prop} {E:Value->Shared->Prop} {lo hi:Int} {t u v:Tok} {tk:Nat} (I:Inv X pins σ H s) (h1:-(2 ^ 62) ≤ lo) (h2:lo < 2 ^ 62) (h3:-(2 ^ 62) ≤ hi) (h4:hi < 2 ^ 62)
  (q:R (Itr lo (hi - lo).toNat) H):wpAny (model X.prog X.w) X.A (pyIter (.ref s.heap.objs.size)) (PIE X pins σ tg R) E { s with heap:=s.heap.push { cls:=.type "range",data:=.fields #[.int lo t,.int hi u,.int 1 v] },toks:=tk }:=by
 refine wpAny_pyIter_range (IsRange.new ..) (small_one h1 h2 h3 h4) ?_
 have I1:Inv X pins σ H { s with heap:=s.heap.push { cls:=.type "range",data:=.fields #[.int lo t,.int hi u,.int 1 v] },toks:=tk }:=I.kept fun b o e=>Heap.get?_push_of_some _ e
 refine ⟨(s.heap.push { cls:=.type "range",data:=.fields #[.int lo t,.int hi u,.int 1 v] }).objs.size,[(s.heap.push { cls:=.type "range",data:=.fields #[.int lo t,.int hi u,.int 1 v] }).objs.size],_,_,H,rfl,
  I1.kept (t':=tk) fun b o e=>Heap.get?_push_of_some _ e,zfm _ lo (hi - lo).toNat,?_,fun b hb=>?_,q⟩
 ·have e1:lo + ((0:Nat):Int) * 1 = lo:=by simp
  have e2:(((hi - lo).toNat:Nat):Int) - ((0:Nat):Int) = Builtin.Range.rangeSize lo hi 1:=by rw [rangeSize_one]; split <;> omega
  show IsRangeIter _ _ (lo + ((0:Nat):Int) * 1) ((((hi - lo).toNat:Nat):Int) - ((0:Nat):Int)) 1
  rw [e1,e2]
  exact Heap.get?_push_size _ rfl
 ·have e:b = (s.heap.push { cls:=.type "range",data:=.fields #[.int lo t,.int hi u,.int 1 v] }).objs.size:=by simpa using hb
  subst e
  exact I1.fpOk (Nat.le_refl _) (I1.hok.fresh (Nat.le_refl _))
noncomputable def zfc (ta:TA):TI:=fun σ H R=>ta σ H fun vs H1=>∃ j:Int,vs = [.int j]∧-(2 ^ 62) ≤ j∧j < 2 ^ 62∧R (Itr 0 j.toNat) H1
noncomputable def zib (ta:TA):TI:=fun σ H R=>ta σ H fun vs H1=>∃ i j:Int,vs = [.int i,.int j]∧(-(2 ^ 62) ≤ i∧i < 2 ^ 62∧-(2 ^ 62) ≤ j∧j < 2 ^ 62)∧R (Itr i (j - i).toNat) H1
theorem za3 {a:Expr} {ta:TA} {p pos:Pos} (hg:Gl X "range") (hm:X.mg "range" = none) (ha:PA X [a] ta) (hs:starEach [a] X.env = [(false,eval a X.env)]:=by rfl):PI X tg (.Call (.Name "range" p) [a] [] pos) (zfc ta):=by
 intro pins s σ H R I h
 refine Call_ (zbY I hg hm boot_range (PyProof.Rows.callWith_type1 (thn (ha pos pins s σ H _ I h) fun us s1 ⟨vs,H1,I1,r1,q1⟩=>?_) hs rfl))
 obtain ⟨j,e,q1,q2,q⟩:=q1
 subst e
 cases r1 with
 | cons r rr =>
  cases rr
  obtain ⟨t,rfl⟩:=r
  exact call_range_1 (zeL I1 (by omega) (by omega) q1 q2 (by simpa using q))
theorem zdP {a b:Expr} {ta:TA} {p pos:Pos} (hg:Gl X "range") (hm:X.mg "range" = none) (ha:PA X [a,b] ta) (hs:starEach [a,b] X.env = [(false,eval a X.env),(false,eval b X.env)]:=by rfl) (hs2:starEach [b] X.env = [(false,eval b X.env)]:=by rfl) :
  PI X tg (.Call (.Name "range" p) [a,b] [] pos) (zib ta):=by
 intro pins s σ H R I h
 refine Call_ (zbY I hg hm boot_range (PyProof.Rows.callWith_type1 (thn (ha pos pins s σ H _ I h) fun us s1 ⟨vs,H1,I1,r1,q1⟩=>?_) (by rw [hs,hs2]) (by rw [hs2]; rfl)))
 obtain ⟨i,j,e,⟨q1,q2,q3,q4⟩,q⟩:=q1
 subst e
 cases r1 with
 | cons r rr =>
  cases rr with
  | cons r' rr =>
   cases rr
   obtain ⟨t,rfl⟩:=r
   obtain ⟨t',rfl⟩:=r'
   exact call_range_2 (zeL I1 q1 q2 q3 q4 q)
noncomputable def tFor (wi:TI) (g:TG) (tb:TS):TS:=fun D σ H=>wi σ H fun J H1=>∃ W:Nat->Nat->St->Hp->Prop,(∃ m,W 0 m σ H1)∧∀ i m σ H,W i m σ H ->
 (J.stop i H∧D.nx σ H) ∨ (J.go i H∧∃ N:St->Hp->Prop,(∀ σ' H',N σ' H'->∃ m',m' < m∧W (i + 1) m' σ' H')∧∀ x H',J.yld i H x H'->g x σ H' fun σ2 H2=>tb { D with nx:=N,ct:=N,bk:=D.nx } σ2 H2)
noncomputable def zd8 (fp:List Addr) (h:Heap):List (Addr × Obj):=fp.filterMap fun b=>(h.get? b).map fun o=>(b,o)
theorem zbz {fp:List Addr} {h:Heap} {b:Addr} {o:Obj} (hb:b ∈ fp) (e:h.get? b = some o):(b,o) ∈ zd8 fp h:=List.mem_filterMap.mpr ⟨b,hb,by rw [e]; rfl⟩
theorem zgA {fp:List Addr} {h:Heap} {p:Addr × Obj} (hp:p ∈ zd8 fp h):p.1 ∈ fp∧h.get? p.1 = some p.2:=by
 obtain ⟨b,hb,e⟩:=List.mem_filterMap.mp hp
 cases q:h.get? b with
 | none=>rw [q] at e; cases e
 | some o =>
  rw [q] at e
  have e':(b,o) = p:=Option.some.inj e
  subst e'
  exact ⟨hb,q⟩
theorem Inv.pinned {pins:List (Addr × Obj)} {σ:St} {H:Hp} {s:Shared} {fp:List Addr} (I:Inv X pins σ H s) (hf:∀ b ∈ fp,FpOk X pins H b) (ho:∀ b ∈ fp,∃ o,s.heap.get? b = some o∧∀ v,o.data ≠ .cell v):Inv X (pins ++ zd8 fp s.heap) σ H s :=
 I.pins_of fun p hp=>(List.mem_append.mp hp).elim (fun z=>I.pin p (List.mem_append_right _ z)) fun z=>by
  obtain ⟨hb,e⟩:=zgA z
  obtain ⟨f0,f1,f2,_⟩:=hf p.1 hb
  obtain ⟨o,e',d⟩:=ho p.1 hb
  rw [e] at e'; cases e'
  exact ⟨e,f0,f1,f2,d⟩
theorem Inv.unpinned {pins pl:List (Addr × Obj)} {σ:St} {H:Hp} {s:Shared} (I:Inv X (pins ++ pl) σ H s):Inv X pins σ H s:=I.pins_of fun p hp=>I.pin p (List.mem_append_right _ (List.mem_append_left _ hp))
theorem za0 {iter:Expr} {body:List Stmt} {wi:TI} {g:TG} {tb:TS} {pos:Pos} (hp:PassesOwn (model X.prog X.w) X.A X.env X.xe) (hc:X.calm = true) (hi:PI X tg iter wi) (hg:PG X tg g) (hb:PSs X body tb)
  (hs:∀ x,foldedSetIterable iter X.env x = pure x:=by intro _; rfl):PS X (.For tg iter body [] pos) (tFor wi g tb):=by
 intro pins s σ H D I h
 refine wpAny_For (thn (hi pins s σ H _ I h) fun v s1 h1=>thn h1 fun itv s2 h2=>?_) hs
 obtain ⟨it,fp,tn,J,H2,e,I2,T,st2,f2,W,⟨m0,w0⟩,turn⟩:=h2
 subst e
 have stat:∀ {H':Hp},(∀ b ∈ fp,H' b = none)->∀ b ∈ fp,FpOk X pins H' b:=fun hn b hb=>⟨hn b hb,(f2 b hb).2⟩
 refine codeAny_forLoop_any (fun n s'=>∃ i σ' H',Inv X pins σ' H' s'∧tn i s'.heap∧(∀ b ∈ fp,H' b = none)∧W i n σ' H') ?_ m0 ⟨0,σ,H2,I2,st2,fun b hb=>(f2 b hb).1,w0⟩
 rintro n s3 ⟨i,σ3,H3,I3,st3,fr3,w3⟩
 rcases turn i n σ3 H3 w3 with ⟨stop,qn⟩ | ⟨go,N,hN,step⟩
 ·refine wpAny_passesOwn hp (thn (T.done X rfl rfl rfl hc i pins s3 σ3 H3 X.xe I3 (stat fr3) st3 stop) fun r s4 ⟨hr,I4⟩=>?_)
  subst hr
  exact wpAny_execs_nil ⟨σ3,H3,I4,qn⟩
 ·refine wpAny_passesOwn hp (thn (T.item X rfl rfl rfl hc i pins s3 σ3 H3 X.xe I3 (stat fr3) st3 go) fun r s4 ⟨u,hr,h4⟩=>?_)
  subst hr
  refine wpAny_passesOwn hp (thn h4 fun _ s5 ⟨x,H5,I5,r5,y5,st5,fr5⟩=>?_)
  have I5':=I5.pinned (stat fr5) (T.obj _ _ st5)
  refine wpAny_passesOwn hp (thn (hg _ s5 σ3 H5 x u _ I5' r5 (step x H5 y5)) fun _ s6 ⟨σ6,H6,I6,q6⟩=>?_)
  refine wpAny_passesOwn hp (thn (hb _ s6 σ6 H6 _ I6 q6) fun f s7 q7=>?_)
  have again:∀ {σ7:St} {H7:Hp},Inv X (pins ++ zd8 fp s5.heap) σ7 H7 s7->N σ7 H7->∃ m,m < n∧∃ i σ' H',Inv X pins σ' H' s7∧tn i s7.heap∧(∀ b ∈ fp,H' b = none)∧W i m σ' H':=fun {σ7 H7} I7 n7=>by
   obtain ⟨m',hm,w7⟩:=hN σ7 H7 n7
   refine ⟨m',hm,i + 1,σ7,H7,I7.unpinned,T.keep _ _ _ st5 fun b hb o e=>(I7.pin (b,o) (List.mem_append_right _ (List.mem_append_right _ (zbz hb e)))).1,fun b hb=>?_,w7⟩
   obtain ⟨o,e,d⟩:=T.obj _ _ st5 b hb
   exact (I7.pin (b,o) (List.mem_append_right _ (List.mem_append_right _ (zbz hb e)))).2.1
  cases f with
  | next=>obtain ⟨σ7,H7,I7,n7⟩:=q7; exact again I7 n7
  | cont=>obtain ⟨σ7,H7,I7,n7⟩:=q7; exact again I7 n7
  | brk=>obtain ⟨σ7,H7,I7,q7⟩:=q7; exact ⟨σ7,H7,I7.unpinned,q7⟩
  | ret v=>obtain ⟨x7,σ7,H7,I7,r7,q7⟩:=q7; exact ⟨x7,σ7,H7,I7.unpinned,r7,q7⟩
end
theorem zeX {K:PySem.W.Frag} {a:Addr} {xs:List V} {g:TG} {tb:TS} {D:Ends} {σ:St} {H:Hp} (Pv:Nat->St->Hp->Prop) (h0:Pv 0 σ H) (hl:∀ i σ H,i ≤ xs.length->Pv i σ H->SqL K H a xs)
  (hs:∀ i x σ H,xs[i]? = some x->Pv i σ H->g x σ H fun σ2 H2=>tb { D with nx:=Pv (i + 1),ct:=Pv (i + 1),bk:=D.nx } σ2 H2) (hd:∀ σ H,Pv xs.length σ H->D.nx σ H) :
  ∃ W:Nat->Nat->St->Hp->Prop,(∃ m,W 0 m σ H)∧∀ i m σ H,W i m σ H ->
   ((Itl K a).stop i H∧D.nx σ H) ∨ ((Itl K a).go i H∧∃ N:St->Hp->Prop,(∀ σ' H',N σ' H'->∃ m',m' < m∧W (i + 1) m' σ' H')∧∀ x H',(Itl K a).yld i H x H'->g x σ H' fun σ2 H2=>tb { D with nx:=N,ct:=N,bk:=D.nx } σ2 H2):=by
 refine ⟨fun i m σ H=>m = xs.length - i∧i ≤ xs.length∧Pv i σ H,⟨xs.length,by simp,Nat.zero_le _,h0⟩,?_⟩
 rintro i m σ H ⟨rfl,hi,p⟩
 have q:=hl i σ H hi p
 by_cases hlt:i < xs.length
 ·refine .inr ⟨⟨xs,xs[i],q,by simp [hlt]⟩,Pv (i + 1),fun σ' H' p'=>⟨xs.length - (i + 1),by omega,rfl,hlt,p'⟩,fun x H' y=>?_⟩
  obtain ⟨e,y⟩:=y
  subst e
  exact hs i x σ _ (y xs q) p
 ·have e:i = xs.length:=by omega
  subst e
  exact .inl ⟨⟨xs,q,Nat.le_refl _⟩,hd σ H p⟩
theorem zd9 {lo:Int} {n:Nat} {g:TG} {tb:TS} {D:Ends} {σ:St} {H:Hp} (Pv:Nat->St->Hp->Prop) (h0:Pv 0 σ H)
  (hs:∀ i σ H,i < n->Pv i σ H->g (.int (lo + i)) σ H fun σ2 H2=>tb { D with nx:=Pv (i + 1),ct:=Pv (i + 1),bk:=D.nx } σ2 H2) (hd:∀ σ H,Pv n σ H->D.nx σ H) :
  ∃ W:Nat->Nat->St->Hp->Prop,(∃ m,W 0 m σ H)∧∀ i m σ H,W i m σ H ->
   ((Itr lo n).stop i H∧D.nx σ H) ∨ ((Itr lo n).go i H∧∃ N:St->Hp->Prop,(∀ σ' H',N σ' H'->∃ m',m' < m∧W (i + 1) m' σ' H')∧∀ x H',(Itr lo n).yld i H x H'->g x σ H' fun σ2 H2=>tb { D with nx:=N,ct:=N,bk:=D.nx } σ2 H2):=by
 refine ⟨fun i m σ H=>m = n - i∧i ≤ n∧Pv i σ H,⟨n,by simp,Nat.zero_le _,h0⟩,?_⟩
 rintro i m σ H ⟨rfl,hi,p⟩
 by_cases hlt:i < n
 ·refine .inr ⟨hlt,Pv (i + 1),fun σ' H' p'=>⟨n - (i + 1),by omega,rfl,hlt,p'⟩,fun x H' y=>?_⟩
  obtain ⟨e,y⟩:=y
  subst e y
  exact hs i σ _ hlt p
 ·have e:i = n:=by omega
  subst e
  exact .inl ⟨Nat.le_refl _,hd σ H p⟩
end L2
namespace L2
open PySem PySem.Spec PyProof.Rows
abbrev R2:=V->V->Hp->VK->Prop
noncomputable def OpR (X:Cx) (f:Value->Value->Sem Value) (r:R2):Prop :=
 ∀ (pins:List (Addr × Obj)) (s:Shared) (σ:St) (H:Hp) (x y:V) (v u:Value) (Q:VK),Inv X pins σ H s->RelV x v->RelV y u->r x y H Q ->
  wpAny (model X.prog X.w) X.A (f v u) (EP X pins σ Q) X.xe s
noncomputable def UnR (X:Cx) (f:Value->Sem Value) (r:V->Hp->VK->Prop):Prop :=
 ∀ (pins:List (Addr × Obj)) (s:Shared) (σ:St) (H:Hp) (x:V) (v:Value) (Q:VK),Inv X pins σ H s->RelV x v->r x H Q ->
  wpAny (model X.prog X.w) X.A (f v) (EP X pins σ Q) X.xe s
noncomputable def zbt (X:Cx) (f:Value) (r:List V->Hp->VK->Prop):Prop :=
 ∀ (pins:List (Addr × Obj)) (s:Shared) (σ:St) (H:Hp) (xs:List V) (us:List Value) (Q:VK),Inv X pins σ H s->Vals xs us->r xs H Q ->
  wpAny (model X.prog X.w) X.A (call f us) (EP X pins σ Q) X.xe s
noncomputable def TruR (X:Cx) (r:V->Hp->(Bool->Hp->Prop)->Prop):Prop :=
 ∀ (pins:List (Addr × Obj)) (s:Shared) (σ:St) (H:Hp) (x:V) (v:Value) (Q:Bool->Hp->Prop),Inv X pins σ H s->RelV x v->r x H Q ->
  wpAny (model X.prog X.w) X.A (truthy v) (TP X pins σ Q) X.xe s
noncomputable def tOp (r:R2) (ta tb:TE):TE:=fun σ H Q=>ta σ H fun x H1=>tb σ H1 fun y H2=>r x y H2 Q
noncomputable def tUn (r:V->Hp->VK->Prop) (ta:TE):TE:=fun σ H Q=>ta σ H fun x H1=>r x H1 Q
noncomputable def rI (C:Int->Int->Prop) (g:Int->Int->V):R2:=fun x y H Q=>∃ i j,x = .int i∧y = .int j∧C i j∧Q (g i j) H
noncomputable def rI0 (g:Int->Int->V):R2:=fun x y H Q=>∃ i j,x = .int i∧y = .int j∧Q (g i j) H
noncomputable def rU (g:Int->V):V->Hp->VK->Prop:=fun x H Q=>∃ i,x = .int i∧Q (g i) H
section
variable {X:Cx} {a b c:Expr} {ta tb tc:TE} {pos:Pos}
theorem binT (ha:PE X a ta) (hb:PE X b tb) {pins:List (Addr × Obj)} {s:Shared} {σ:St} {H:Hp} {R:V->V->Hp->Prop} (I:Inv X pins σ H s)
  (h:ta σ H fun x H1=>tb σ H1 fun y H2=>R x y H2) {Q:Value->Shared->Prop} {f:Value->Value->Sem Value}
  (hf:∀ v u s2 x y H2,Inv X pins σ H2 s2->RelV x v->RelV y u->R x y H2->wpAny (model X.prog X.w) X.A (f v u) Q X.xe s2) :
  wpAny (model X.prog X.w) X.A (eval a X.env) (fun v s₁=>wpAny (model X.prog X.w) X.A (eval b X.env) (fun u s₂=>wpAny (model X.prog X.w) X.A (f v u) Q X.xe s₂) X.xe s₁) X.xe s:=by
 refine thn (ha pins s σ H _ I h) fun v s1 ⟨x,H1,I1,r1,q1⟩=>?_
 refine thn (hb pins s1 σ H1 _ I1 q1) fun u s2 ⟨y,H2,I2,r2,q2⟩=>?_
 exact hf v u s2 x y H2 I2 r1 r2 q2
theorem zaK {op:Operator} {r:R2} (ho:OpR X (binaryOp op) r) (ha:PE X a ta) (hb:PE X b tb):PE X (.BinOp a op b pos) (tOp r ta tb):=by
 intro pins s σ H Q I h
 exact wpAny_BinOp (binT ha hb I h fun v u s2 x y H2 I2 rx ry q=>ho pins s2 σ H2 x y v u Q I2 rx ry q)
theorem zgV {op:UnaryOp} {r:V->Hp->VK->Prop} (ho:UnR X (unaryOp op) r) (ha:PE X a ta):PE X (.UnaryOp op a pos) (tUn r ta):=by
 intro pins s σ H Q I h
 exact UnaryOp_ (thn (ha pins s σ H _ I h) fun v s1 ⟨x,H1,I1,r1,q1⟩=>ho pins s1 σ H1 x v Q I1 r1 q1)
theorem opI {f:Value->Value->Sem Value} {C:Int->Int->Prop} {g:Int->Int->Int}
  (rule:∀ (i j:Int) (t u:Tok) (s:Shared) (Q:Value->Shared->Prop) (E:Value->Shared->Prop),C i j->Q (.int (g i j) s.toks) { s with toks:=s.toks + 1 }->wpAny (model X.prog X.w) X.A (f (.int i t) (.int j u)) Q E s) :
  OpR X f (rI C fun i j=>.int (g i j)):=by
 intro pins s σ H x y v u Q I rx ry h
 obtain ⟨i,j,rfl,rfl,hc,q⟩:=h
 obtain ⟨t,rfl⟩:=rx
 obtain ⟨t',rfl⟩:=ry
 exact rule i j t t' s _ _ hc ⟨.int (g i j),H,I.tok _,⟨_,rfl⟩,q⟩
theorem opI0 {f:Value->Value->Sem Value} {g:Int->Int->Int}
  (rule:∀ (i j:Int) (t u:Tok) (s:Shared) (Q:Value->Shared->Prop) (E:Value->Shared->Prop),Q (.int (g i j) s.toks) { s with toks:=s.toks + 1 }->wpAny (model X.prog X.w) X.A (f (.int i t) (.int j u)) Q E s) :
  OpR X f (rI0 fun i j=>.int (g i j)):=by
 intro pins s σ H x y v u Q I rx ry h
 obtain ⟨i,j,rfl,rfl,q⟩:=h
 obtain ⟨t,rfl⟩:=rx
 obtain ⟨t',rfl⟩:=ry
 exact rule i j t t' s _ _ ⟨.int (g i j),H,I.tok _,⟨_,rfl⟩,q⟩
theorem opB0 {f:Value->Value->Sem Value} {g:Int->Int->Bool}
  (rule:∀ (i j:Int) (t u:Tok) (s:Shared) (Q:Value->Shared->Prop) (E:Value->Shared->Prop),Q (.bool (g i j)) s->wpAny (model X.prog X.w) X.A (f (.int i t) (.int j u)) Q E s) :
  OpR X f (rI0 fun i j=>.bl (g i j)):=by
 intro pins s σ H x y v u Q I rx ry h
 obtain ⟨i,j,rfl,rfl,q⟩:=h
 obtain ⟨t,rfl⟩:=rx
 obtain ⟨t',rfl⟩:=ry
 exact rule i j t t' s _ _ ⟨.bl (g i j),H,I,rfl,q⟩
noncomputable def CPow (i j:Int):Prop:=0 ≤ j∧j ≤ 1000000∧i.natAbs < 2 ^ 64
noncomputable def CMul (i j:Int):Prop:=(-(2 ^ 64) < i∧i < 2 ^ 64) ∨ (-(2 ^ 64) < j∧j < 2 ^ 64)
theorem CMul.ok {i j:Int} (h:CMul i j):IntMulOk i j:=by
 rcases h with ⟨h1,h2⟩ | ⟨h1,h2⟩
 ·exact .of_left (intBits_le_64 h1 h2)
 ·exact .of_right (intBits_le_64 h1 h2)
theorem op_add:OpR X (binaryOp .Add) (rI0 fun i j=>.int (i + j)):=opI0 fun _ _ _ _ _ _ _ q=>add_int q
theorem op_sub:OpR X (binaryOp .Sub) (rI0 fun i j=>.int (i - j)):=opI0 fun _ _ _ _ _ _ _ q=>sub_int q
theorem op_mul:OpR X (binaryOp .Mult) (rI CMul fun i j=>.int (i * j)):=opI fun _ _ _ _ _ _ _ hc q=>mul_int q hc.ok
theorem op_mod:OpR X (binaryOp .Mod) (rI (fun _ j=>0 < j) fun i j=>.int (i % j)):=opI fun i j _ _ _ _ _ hc q=>by
 have h1:(0:Int) < j:=hc
 exact mod_int' (by omega) (by rw [Int.fmod_eq_emod_of_nonneg i (by omega)]; exact q)
theorem op_pow:OpR X (binaryOp .Pow) (rI CPow fun i j=>.int (i ^ j.toNat)):=opI fun _ _ _ _ _ _ _ hc q=>pow_int_small hc.1 hc.2.1 hc.2.2 q
theorem unI {f:Value->Sem Value} {g:Int->Int}
  (rule:∀ (i:Int) (t:Tok) (s:Shared) (Q:Value->Shared->Prop) (E:Value->Shared->Prop),Q (.int (g i) s.toks) { s with toks:=s.toks + 1 }->wpAny (model X.prog X.w) X.A (f (.int i t)) Q E s) :
  UnR X f (rU fun i=>.int (g i)):=by
 intro pins s σ H x v Q I rx h
 obtain ⟨i,rfl,q⟩:=h
 obtain ⟨t,rfl⟩:=rx
 exact rule i t s _ _ ⟨.int (g i),H,I.tok _,⟨_,rfl⟩,q⟩
theorem un_neg:UnR X (unaryOp .USub) (rU fun i=>.int (-i)):=unI fun _ _ _ _ _ q=>neg_int q
end
noncomputable def scal:V->V->Bool
 | .non,.non=>true | .non,.int _=>true | .int _,.non=>true | .non,.bl _=>true | .bl _,.non=>true | .non,.str _=>true | .str _,.non=>true
 | .int _,.int _=>true | .bl _,.bl _=>true | .str _,.str _=>true | .byt _,.byt _=>true
 | .int _,.str _=>true | .str _,.int _=>true | .bl _,.str _=>true | .str _,.bl _=>true
 | _,_=>false
noncomputable def rEq:R2:=fun x y H Q=>scal x y = true∧Q (.bl (decide (x = y))) H
noncomputable def rNe:R2:=fun x y H Q=>scal x y = true∧Q (.bl (!decide (x = y))) H
theorem zgt {i j:Int}:decide (V.int i = V.int j) = (i == j):=by
 rw [Bool.eq_iff_iff]
 simp
theorem zhy {i j:Bool}:decide (V.bl i = V.bl j) = (i == j):=by
 rw [Bool.eq_iff_iff]
 simp
theorem zfS {i j:Str}:decide (V.str i = V.str j) = (i == j):=by
 rw [Bool.eq_iff_iff]
 simp
theorem zfU {i j:Array UInt8}:decide (V.byt i = V.byt j) = (i.toList == j.toList):=by
 rw [Bool.eq_iff_iff]
 cases i
 cases j
 simp
section
variable {X:Cx} {a b c:Expr} {ta tb tc:TE} {pos:Pos}
theorem zaL {pins:List (Addr × Obj)} {σ:St} {H:Hp} {s:Shared} {Q:VK} {k k':Bool} (I:Inv X pins σ H s) (q:Q (.bl k) H) (e:k = k'):EP X pins σ Q (.bool k') s:=by
 subst e
 exact ⟨.bl k,H,I,rfl,q⟩
theorem op_eq:OpR X (compareOp .Eq) rEq:=by
 intro pins s σ H x y v u Q I rx ry h
 obtain ⟨hs,q⟩:=h
 cases x with
 | non =>
  cases rx
  cases y with
  | non=>cases ry; exact PySem.EqNone.eq_none_none (zaL I q (by simp))
  | bl j=>cases ry; exact PySem.EqNone.eq_none_bool (zaL I q (by simp))
  | int j=>obtain ⟨t',rfl⟩:=ry; exact PySem.EqNone.eq_none_int (zaL I q (by simp))
  | str j=>obtain ⟨t',rfl⟩:=ry; exact PySem.EqNone.eq_none_str (zaL I q (by simp))
  | _=>exact absurd (show false = true from hs) Bool.false_ne_true
 | bl i =>
  cases rx
  cases y with
  | non=>cases ry; exact PySem.EqNone.eq_bool_none (zaL I q (by simp))
  | bl j=>cases ry; exact eq_bool (zaL I q zhy)
  | str j=>obtain ⟨t',rfl⟩:=ry; exact PySem.EqMixed.eq_bool_str (zaL I q (by simp))
  | _=>exact absurd (show false = true from hs) Bool.false_ne_true
 | int i =>
  obtain ⟨t,rfl⟩:=rx
  cases y with
  | non=>cases ry; exact PySem.EqNone.eq_int_none (zaL I q (by simp))
  | int j=>obtain ⟨t',rfl⟩:=ry; exact eq_int (zaL I q zgt)
  | str j=>obtain ⟨t',rfl⟩:=ry; exact PySem.EqMixed.eq_int_str (zaL I q (by simp))
  | _=>exact absurd (show false = true from hs) Bool.false_ne_true
 | str i =>
  obtain ⟨t,rfl⟩:=rx
  cases y with
  | non=>cases ry; exact PySem.EqNone.eq_str_none (zaL I q (by simp))
  | bl j=>cases ry; exact PySem.EqMixed.eq_str_bool (zaL I q (by simp))
  | int j=>obtain ⟨t',rfl⟩:=ry; exact PySem.EqMixed.eq_str_int (zaL I q (by simp))
  | str j=>obtain ⟨t',rfl⟩:=ry; exact eq_str (zaL I q zfS)
  | _=>exact absurd (show false = true from hs) Bool.false_ne_true
 | byt i =>
  obtain ⟨t,rfl⟩:=rx
  cases y with
  | byt j=>obtain ⟨t',rfl⟩:=ry; exact PySem.W.eq_bytes (zaL I q zfU)
  | _=>exact absurd (show false = true from hs) Bool.false_ne_true
 | _=>cases y <;> exact absurd (show false = true from hs) Bool.false_ne_true
theorem op_ne:OpR X (compareOp .NotEq) rNe:=by
 intro pins s σ H x y v u Q I rx ry h
 obtain ⟨hs,q⟩:=h
 cases x with
 | non =>
  cases rx
  cases y with
  | non=>cases ry; exact PySem.EqNone.ne_none_none (zaL I q (by simp))
  | bl j=>cases ry; exact PySem.EqNone.ne_none_bool (zaL I q (by simp))
  | int j=>obtain ⟨t',rfl⟩:=ry; exact PySem.EqNone.ne_none_int (zaL I q (by simp))
  | str j=>obtain ⟨t',rfl⟩:=ry; exact PySem.EqNone.ne_none_str (zaL I q (by simp))
  | _=>exact absurd (show false = true from hs) Bool.false_ne_true
 | bl i =>
  cases rx
  cases y with
  | non=>cases ry; exact PySem.EqNone.ne_bool_none (zaL I q (by simp))
  | bl j=>cases ry; exact ne_bool (zaL I q (congrArg not zhy))
  | str j=>obtain ⟨t',rfl⟩:=ry; exact PySem.EqMixed.ne_bool_str (zaL I q (by simp))
  | _=>exact absurd (show false = true from hs) Bool.false_ne_true
 | int i =>
  obtain ⟨t,rfl⟩:=rx
  cases y with
  | non=>cases ry; exact PySem.EqNone.ne_int_none (zaL I q (by simp))
  | int j=>obtain ⟨t',rfl⟩:=ry; exact ne_int (zaL I q (congrArg not zgt))
  | str j=>obtain ⟨t',rfl⟩:=ry; exact PySem.EqMixed.ne_int_str (zaL I q (by simp))
  | _=>exact absurd (show false = true from hs) Bool.false_ne_true
 | str i =>
  obtain ⟨t,rfl⟩:=rx
  cases y with
  | non=>cases ry; exact PySem.EqNone.ne_str_none (zaL I q (by simp))
  | bl j=>cases ry; exact PySem.EqMixed.ne_str_bool (zaL I q (by simp))
  | int j=>obtain ⟨t',rfl⟩:=ry; exact PySem.EqMixed.ne_str_int (zaL I q (by simp))
  | str j=>obtain ⟨t',rfl⟩:=ry; exact ne_str (zaL I q (congrArg not zfS))
  | _=>exact absurd (show false = true from hs) Bool.false_ne_true
 | byt i =>
  obtain ⟨t,rfl⟩:=rx
  cases y with
  | byt j=>obtain ⟨t',rfl⟩:=ry; exact PySem.W.ne_bytes (zaL I q (congrArg not zfU))
  | _=>exact absurd (show false = true from hs) Bool.false_ne_true
 | _=>cases y <;> exact absurd (show false = true from hs) Bool.false_ne_true
theorem op_lt:OpR X (compareOp .Lt) (rI0 fun i j=>.bl (decide (i < j))):=opB0 fun _ _ _ _ _ _ _ q=>lt_int q
theorem op_gt:OpR X (compareOp .Gt) (rI0 fun i j=>.bl (decide (j < i))):=opB0 fun _ _ _ _ _ _ _ q=>gt_int q
theorem zat (b:Expr) {op:CmpOp} (h:op ≠ .In:=by decide) (h2:op ≠ .NotIn:=by decide):behindInMarks op b = false:=by
 have e1:(op == CmpOp.In) = false:=by cases op <;> first | rfl | exact absurd rfl h
 have e2:(op == CmpOp.NotIn) = false:=by cases op <;> first | rfl | exact absurd rfl h2
 cases b <;> simp [behindInMarks,e1,e2]
theorem za1 {op:CmpOp} {r:R2} (ho:OpR X (compareOp op) r) (ha:PE X a ta) (hb:PE X b tb) (hm:behindInMarks op b = false):PE X (.Compare a [op] [b] pos) (tOp r ta tb):=by
 intro pins s σ H Q I h
 exact wpAny_Compare1 (binT ha hb I h fun v u s2 x y H2 I2 rx ry q=>ho pins s2 σ H2 x y v u Q I2 rx ry q) hm
noncomputable def zgK (t:TE):TT:=fun σ H Q=>t σ H fun x H'=>∃ k,x = .bl k∧Q k H'
theorem zak {op:CmpOp} {r:R2} (ho:OpR X (compareOp op) r) (ha:PE X a ta) (hb:PE X b tb) (hm:behindInMarks op b = false):PT X (.Compare a [op] [b] pos) (zgK (tOp r ta tb)):=by
 intro pins s σ H Q I h
 refine wpAny_isTrue_Compare1 (thn (ha pins s σ H _ I h) fun v s1 ⟨x,H1,I1,r1,q1⟩=>thn (hb pins s1 σ H1 _ I1 q1) fun u s2 ⟨y,H2,I2,r2,q2⟩ =>
  thn (ho pins s2 σ H2 x y v u _ I2 r1 r2 q2) fun c s3 ⟨z,H3,I3,r3,k,e,q3⟩=>?_) hm
 subst e
 cases r3
 exact wpAny_truthy_bool ⟨H3,I3,q3⟩
noncomputable def zig (r r':R2) (ta tb tc:TE):TE:=fun σ H Q=>ta σ H fun x H1=>tb σ H1 fun y H2=>r x y H2 fun z H3=>∃ k,z = .bl k ∧
 (if k = true then tc σ H3 fun w' H4=>r' y w' H4 Q else Q (.bl false) H3)
noncomputable def TruV (K:PySem.W.Frag) (x:V) (H:Hp) (k:Bool):Prop :=
 match x with
 | .non=>k = false
 | .bl b=>k = b
 | .int i=>k = (i != 0)
 | .str y=>y.length ≤ sizeLine∧k = ((y.length:Int) != 0)
 | .byt y=>y.size ≤ sizeLine∧k = ((y.size:Int) != 0)
 | .ref p=>(∃ xs,SqL K H p xs∧k = !xs.isEmpty) ∨ (∃ xs,SqT K H p xs∧k = !xs.isEmpty) ∨ ∃ kvs,H p = some (.dK kvs)∧k = !kvs.isEmpty
 | _=>False
theorem ze4 {κ:Type} {kvs:List (κ × V)} {vs:List (κ × Value)} (r:KV kvs vs):(!vs.isEmpty) = !kvs.isEmpty:=by
 cases r <;> rfl
theorem zc1 {xs:List V} {its:List Value} (r:Vals xs its):(!its.toArray.isEmpty) = !xs.isEmpty:=by
 cases r <;> simp
theorem line63:(sizeLine:Nat) < 2 ^ 63:=by rw [sizeLine_eq]; decide
theorem tru_ok:TruR X (fun x H Q=>∃ k,TruV X.K x H k∧Q k H):=by
 intro pins s σ H x v Q I rx h
 obtain ⟨k,e,q⟩:=h
 have hl:=line63
 have hs:sizeLine = 16777216:=sizeLine_eq
 cases x with
 | non =>
  cases rx
  have e':k = false:=e
  subst e'
  exact truthy_none ⟨H,I,q⟩
 | bl b =>
  cases rx
  have e':k = b:=e
  subst e'
  exact wpAny_truthy_bool ⟨H,I,q⟩
 | int i =>
  obtain ⟨t,rfl⟩:=rx
  have e':k = (i != 0):=e
  subst e'
  exact PySem.P.truthy_int ⟨H,I,q⟩
 | str y =>
  obtain ⟨t,rfl⟩:=rx
  obtain ⟨hy,e'⟩:y.length ≤ sizeLine∧k = ((y.length:Int) != 0):=e
  subst e'
  exact PySem.P.truthy_str (by omega) ⟨H,I.tok _,q⟩
 | byt y =>
  obtain ⟨t,rfl⟩:=rx
  obtain ⟨hy,e'⟩:y.size ≤ sizeLine∧k = ((y.size:Int) != 0):=e
  subst e'
  exact PySem.W.truthy_bytes (by omega) ⟨H,I.tok _,q⟩
 | ref p =>
  cases rx
  have e':(∃ xs,SqL X.K H p xs∧k = !xs.isEmpty) ∨ (∃ xs,SqT X.K H p xs∧k = !xs.isEmpty) ∨ ∃ kvs,H p = some (.dK kvs)∧k = !kvs.isEmpty:=e
  rcases e' with ⟨xs,hx,e'⟩ | ⟨xs,hx,e'⟩ | ⟨kvs,hx,e'⟩
  ·subst e'
   obtain ⟨its,r,pl,hz⟩:=I.list hx
   have hlen:=r.length
   exact wpAny_truthy_list pl.isList (by simp only [List.size_toArray]; omega) ⟨H,I.tok _,by rw [zc1 r]; exact q⟩
  ·subst e'
   obtain ⟨its,r,pl,hz⟩:=I.tuple hx
   have hlen:=r.length
   exact truthy_tuple pl (by simp only [List.size_toArray]; omega) ⟨H,I.tok _,by rw [zc1 r]; exact q⟩
  ·subst e'
   obtain ⟨hz,hS,vs,r,m⟩:kvs.length ≤ sizeLine∧(p == sysModules) = false∧∃ vs,KV kvs vs∧s.heap.DictOf (zaM X.prog X.w) p vs:=I.hok p _ hx
   have hlen:kvs.length = vs.length:=Paired.length r
   exact wpAny_truthy_dict hS m (by omega) ⟨H,I.tok _,by rw [ze4 r]; exact q⟩
 | _=>exact (show False from e).elim
theorem zdE (ha:PE X a ta) (he:∀ whole,isTrue a X.env whole = (do let v ← whole; standAt a.pos; holding [v] (truthy v))) :
  PT X a (fun σ H Q=>ta σ H fun x H'=>∃ k,TruV X.K x H' k∧Q k H'):=by
 intro pins s σ H Q I h
 exact isTrue_plain (thn (ha pins s σ H _ I h) fun v s1 ⟨x,H1,I1,r1,q1⟩=>tru_ok pins s1 σ H1 x v Q I1 r1 q1) (he _)
theorem zcn {x:V} {us:List Value} (r:Vals [x] us):∃ u,us = [u]∧RelV x u:=by
 cases r with
 | cons r1 r2=>cases r2; exact ⟨_,rfl,r1⟩
theorem zif {x y:V} {us:List Value} (r:Vals [x,y] us):∃ u w',us = [u,w']∧RelV x u∧RelV y w':=by
 cases r with
 | cons r1 r2 =>
  cases r2 with
  | cons r3 r4=>cases r4; exact ⟨_,_,rfl,r1,r3⟩
theorem call_abs:zbt X (.builtin "abs") (fun xs H Q=>∃ i,xs = [.int i]∧Q (.int (if i < 0 then -i else i)) H):=by
 intro pins s σ H xs us Q I r h
 obtain ⟨i,rfl,q⟩:=h
 obtain ⟨u,rfl,t,rfl⟩:=zcn r
 exact call_abs_int fun u tk=>⟨.int (if i < 0 then -i else i),H,I.tok _,⟨_,rfl⟩,q⟩
theorem call_int1:zbt X (.type "int") (fun xs H Q=>(∃ i,xs = [.int i]∧Q (.int i) H) ∨ ∃ k,xs = [.bl k]∧Q (.int (if k then 1 else 0)) H):=by
 intro pins s σ H xs us Q I r h
 rcases h with ⟨i,rfl,q⟩ | ⟨k,rfl,q⟩
 ·obtain ⟨u,rfl,t,rfl⟩:=zcn r
  exact call_int_int ⟨.int i,H,I,⟨_,rfl⟩,q⟩
 ·obtain ⟨u,rfl,r1⟩:=zcn r
  cases r1
  exact call_int_bool ⟨.int (if k then 1 else 0),H,I.tok _,⟨_,rfl⟩,q⟩
noncomputable def LenV (K:PySem.W.Frag) (x:V) (H:Hp) (n:Nat):Prop :=
 match x with
 | .str y=>y.length ≤ sizeLine∧n = y.length
 | .byt y=>y.size ≤ sizeLine∧n = y.size
 | .ref p=>(∃ xs,SqL K H p xs∧n = xs.length) ∨ ∃ xs,SqT K H p xs∧n = xs.length
 | _=>False
theorem call_len:zbt X (.builtin "len") (fun xs H Q=>∃ x n,xs = [x]∧LenV X.K x H n∧Q (.int n) H):=by
 intro pins s σ H xs us Q I r h
 obtain ⟨x,n,rfl,e,q⟩:=h
 obtain ⟨u,rfl,rx⟩:=zcn r
 have hl:=line63
 have hs:sizeLine = 16777216:=sizeLine_eq
 cases x with
 | str y =>
  obtain ⟨t,rfl⟩:=rx
  obtain ⟨hy,e'⟩:y.length ≤ sizeLine∧n = y.length:=e
  subst e'
  exact len_str (by omega) ⟨.int _,H,I.tok _,⟨_,rfl⟩,q⟩
 | byt y =>
  obtain ⟨t,rfl⟩:=rx
  obtain ⟨hy,e'⟩:y.size ≤ sizeLine∧n = y.size:=e
  subst e'
  exact PySem.W.len_bytes (by omega) ⟨.int _,H,I.tok _,⟨_,rfl⟩,q⟩
 | ref p =>
  cases rx
  have e':(∃ xs,SqL X.K H p xs∧n = xs.length) ∨ ∃ xs,SqT X.K H p xs∧n = xs.length:=e
  rcases e' with ⟨xs,hx,e'⟩ | ⟨xs,hx,e'⟩
  ·subst e'
   obtain ⟨its,r',pl,hz⟩:=I.list hx
   have hlen:=r'.length
   exact Calls.call_len_list pl.isList (by simp only [List.size_toArray]; omega) ⟨.int xs.length,H,I.tok _,⟨_,by simp only [List.size_toArray]; rw [hlen]⟩,q⟩
  ·subst e'
   obtain ⟨its,r',pl,hz⟩:=I.tuple hx
   have hlen:=r'.length
   exact len_tuple pl (by simp only [List.size_toArray]; omega) ⟨.int xs.length,H,I.tok _,⟨_,by simp only [List.size_toArray]; rw [hlen]⟩,q⟩
 | _=>exact (show False from e).elim
end
end L2
namespace L2
open PySem PySem.Spec PyProof.Rows
structure ObjM (h:Heap) (x dx C:Addr) (mA:Str->Option Value):Prop where
 obj:h.get? x = some (PySem.W.instObj C dx)
 ns:h.Ns1 dx mA
 ne:dx ≠ x
theorem zgr {h:Heap} {dx:Addr} {mA:Str->Option Value} (n:h.Ns1 dx mA):∃ od,h.get? dx = some od∧∀ name,PySem.W.lookIn name od = some (mA name):=by
 obtain ⟨o,es,ep,ho,hd,hk,_,hm⟩:=n
 refine ⟨o,ho,fun name=>?_⟩
 have e:=hm name
 unfold nsFind findBy at e
 rw [← Array.find?_toList] at e
 unfold PySem.W.lookIn
 rw [hd]
 dsimp only
 split
 ·rename_i y q
  rw [q] at e
  exact congrArg some e
 ·rename_i q
  rw [q] at e
  have a:es.toList.any (·.refKey) = false:=by
   rw [List.any_eq_false]
   intro y hy
   obtain ⟨z,t,hkey⟩:=hk y (Array.mem_toList_iff.mp hy)
   simp [DictEntry.refKey,hkey]
  have a':¬ es.toList.any (·.refKey) = true:=by rw [a]; exact Bool.false_ne_true
  rw [if_neg a']
  exact congrArg some e
theorem ObjM.look {h:Heap} {x dx C:Addr} {mA:Str->Option Value} (I:ObjM h x dx C mA):∃ od,PySem.W.InstAt h x (PySem.W.instObj C dx) C (some od)∧∀ name,PySem.W.lookIn name od = some (mA name) :=
 let ⟨od,ho,hl⟩:=zgr I.ns
 ⟨od,⟨I.obj,rfl,rfl,ho⟩,hl⟩
section
variable {prog:Program} {w:World} {A:Around} {E:Value->Shared->Prop} {s:Shared} {K:PySem.W.Frag} {x dx C f:Addr} {mA:Str->Option Value} {name:Str} {v:Value}
end
noncomputable def putF (f:Str) (v:V):List (Str × V)->List (Str × V)
 | []=>[(f,v)]
 | (g,x) :: r=>if g = f then (g,v) :: r else (g,x) :: putF f v r
theorem RelO.some_of {v:V} {o:Option Value} (r:RelO (some v) o):∃ u,o = some u∧RelV v u:=by
 cases o with
 | none=>exact (show False from r).elim
 | some u=>exact ⟨u,rfl,r⟩
section
variable {P:Program} {w:World} {H H':Hp} {h h':Heap} {a C dx:Addr} {fs fs':List (Str × V)}
theorem zfQ (hok:HOk P w H h) (e:H a = some (.ins C dx fs)):∃ mA,ObjM h a dx C mA∧(∀ f,RelO (fs.lookup f) (mA f))∧PySem.Within mA (fs.map (·.1))∧fs.length ≤ 1000∧H dx = some (.own a):=by
 obtain ⟨d,z,ne,ob,mA,n,r,q⟩:=(show zaU P w H h a (.ins C dx fs) from hok a _ e)
 exact ⟨mA,⟨ob,n,ne⟩,r,q,z,d⟩
end
structure Cls (K:PySem.W.Frag) (C:Addr):Prop where
 pg:PySem.W.plainGet K C Str.empty = true
 hd:PySem.W.hasDictIn K C = true
 po:PySem.W.plainOver K C = true
 sa:PySem.W.findIn K (.ref C) "__setattr__" = some (some (.builtin "object.__setattr__"))
theorem Cls.get {K:PySem.W.Frag} {C:Addr} (c:Cls K C) (f:Str):PySem.W.plainGet K C f = true:=c.pg
noncomputable def zhw (K:PySem.W.Frag) (C:Addr) (f:Str):Prop:=PySem.W.findIn K (.ref C) f = some none
section
variable {X:Cx} {pins:List (Addr × Obj)} {σ:St} {H:Hp} {s:Shared} {a C dx:Addr} {fs:List (Str × V)} {f:Str} {v:V} {A:Around} {E:Value->Shared->Prop}
end
noncomputable def tFld (K:PySem.W.Frag) (ta:TE) (f:Str):TE:=fun σ H Q=>ta σ H fun x H1=>∃ a C dx fs v,x = .ref a∧H1 a = some (.ins C dx fs)∧Cls K C∧zhw K C f∧fs.lookup f = some v∧Q v H1
noncomputable def sFld (K:PySem.W.Frag) (ta tv:TE) (f:Str):TS:=fun D σ H=>tv σ H fun y H1=>ta σ H1 fun x H2=>∃ a C dx fs,x = .ref a∧H2 a = some (.ins C dx fs)∧Cls K C∧zhw K C f∧fs.length < 1000 ∧
 D.nx σ (upd H2 a (.ins C dx (putF f y fs)))
section
variable {X:Cx} {o e value:Expr} {f:Str} {pos pos' tpos:Pos} {ta tv:TE}
end
section
variable {X:Cx} {pins:List (Addr × Obj)} {σ:St} {H:Hp} {s:Shared} {A:Around} {E:Value->Shared->Prop} {Q:Value->Shared->Prop} {c:Value} {b:Bool}
inductive TyOf (K:PySem.W.Frag) (H:Hp):V->Value->Prop where
 | non:TyOf K H .non (.type "NoneType")
 | bl (x:Bool):TyOf K H (.bl x) (.type "bool")
 | int (i:Int):TyOf K H (.int i) (.type "int")
 | str (x:Str):TyOf K H (.str x) (.type "str")
 | flt (x:UInt64):TyOf K H (.flt x) (.type "float")
 | lst {a:Addr} {xs:List V} (e:H a = some (.lst xs)):TyOf K H (.ref a) (.type "list")
 | frz {a:Addr} {o:Obj} {xs:List V} (e:H a = some (.frz o (.lst xs))):TyOf K H (.ref a) (.type "list")
 | tup {a:Addr} {xs:List V} (e:H a = some (.tup xs)):TyOf K H (.ref a) (.type "tuple")
 | dK {a:Addr} {kvs:List (Key × V)} (e:H a = some (.dK kvs)):TyOf K H (.ref a) (.type "dict")
 | dT {a:Addr} {kvs:List (List KeyT × V)} (e:H a = some (.dT kvs)):TyOf K H (.ref a) (.type "dict")
 | ins {a C dx:Addr} {fs:List (Str × V)} (e:H a = some (.ins C dx fs)) (cl:Cls K C) (ha:PySem.W.findIn K (.ref C) "__class__" = some (some (.builtin "object.__class__")))
   (hn:PySem.W.specialIn K (.builtin "object.__class__") "__get__" = some (some (.builtin "getset_descriptor.__get__"))) (htk:PySem.W.takesIn K (.builtin "object.__class__") = some true)
   (hm:PySem.W.mroIn K C (.type "object") = some true):TyOf K H (.ref a) (.ref C)
theorem zfN {x:V} {u t:Value} (I:Inv X pins σ H s) (rx:RelV x u) (ty:TyOf X.K H x t) (e:PySem.W.kitOne X.K t c = some b) (h:∀ tk,Q (.bool b) { s with toks:=tk }) :
  wpAny (model X.prog X.w) A (call (.builtin "isinstance") [u,c]) Q E s:=by
 cases ty with
 | non=>cases (show u = Value.none from rx); exact PySem.W.kia_one PySem.W.kitx_none I.kIn True.intro e (fun z=>nomatch z) h
 | bl y=>cases (show u = Value.bool y from rx); exact PySem.W.kia_one PySem.W.kitx_bool I.kIn True.intro e (fun z=>nomatch z) h
 | int i=>obtain ⟨t,q⟩:=(show ∃ t,u = Value.int i t from rx); cases q; exact PySem.W.kia_one PySem.W.kitx_int I.kIn True.intro e (fun z=>nomatch z) h
 | str y=>obtain ⟨t,q⟩:=(show ∃ t,u = Value.str y t from rx); cases q; exact PySem.W.kia_one PySem.W.kitx_str I.kIn True.intro e (fun z=>nomatch z) h
 | flt y=>obtain ⟨t,q⟩:=(show ∃ t,u = Value.float y t from rx); cases q; exact PySem.W.kia_one PySem.W.kitx_float I.kIn True.intro e (fun z=>nomatch z) h
 | @lst a xs ea =>
  cases (show u = Value.ref a from rx)
  obtain ⟨_,_,n,_,h1⟩:=(show zaU X.prog X.w H s.heap a (.lst xs) from I.hok a _ ea)
  exact PySem.W.kia_one PySem.W.kitx_list I.kIn ⟨_,h1,rfl⟩ e (fun z=>nomatch z) h
 | @frz a ob xs ea =>
  cases (show u = Value.ref a from rx)
  obtain ⟨_,_,_,n,_,h1⟩:=(show zaU X.prog X.w H s.heap a (.frz ob (.lst xs)) from I.hok a _ ea)
  exact PySem.W.kia_one PySem.W.kitx_list I.kIn ⟨_,h1,rfl⟩ e (fun z=>nomatch z) h
 | @tup a xs ea =>
  cases (show u = Value.ref a from rx)
  obtain ⟨_,_,_,p⟩:=(show zaU X.prog X.w H s.heap a (.tup xs) from I.hok a _ ea)
  obtain ⟨o,h1,h2,_⟩:=p
  exact PySem.W.kia_one PySem.W.kitx_tuple I.kIn ⟨o,h1,h2⟩ e (fun z=>nomatch z) h
 | @dK a kvs ea =>
  cases (show u = Value.ref a from rx)
  obtain ⟨_,_,vs,_,p⟩:=(show zaU X.prog X.w H s.heap a (.dK kvs) from I.hok a _ ea)
  obtain ⟨o,es,ep,h1,h2,_⟩:=p
  exact PySem.W.kia_one PySem.W.kitx_dict I.kIn ⟨o,h1,h2.1⟩ e (fun z=>nomatch z) h
 | @dT a kvs ea =>
  cases (show u = Value.ref a from rx)
  obtain ⟨_,_,xs,_,o,es,ep,h1,h2,_⟩:=(show zaU X.prog X.w H s.heap a (.dT kvs) from I.hok a _ ea)
  exact PySem.W.kia_one PySem.W.kitx_dict I.kIn ⟨o,h1,h2.1⟩ e (fun z=>nomatch z) h
 | @ins a C dx fs ea cl ha hn htk hm =>
  cases (show u = Value.ref a from rx)
  obtain ⟨mA,O,_⟩:=zfQ I.hok ea
  obtain ⟨od,J,_⟩:=O.look
  exact PySem.W.kia_one (PySem.W.kitx_own (cl.get _) cl.hd ha hn htk hm) I.kIn J e (fun z=>nomatch z) h
end
end L2
namespace L2
open PySem PySem.Spec PyProof.Rows
structure Room (k:Nat) (A:Around):Prop where
 hd:A.handled = none
 dp:A.depth + 3 * k + 5 < recursionLimit
 un:A.units + 16 * k + 200 < cLine
theorem Room.mono {j k:Nat} {A:Around} (r:Room k A) (h:j ≤ k):Room j A:=⟨r.hd,by have:=r.dp; omega,by have:=r.un; omega⟩
theorem Room.deeper {k:Nat} {A:Around} (r:Room (k + 1) A) (env:Env):Room k (A.deeper env) :=
 ⟨r.hd,by have:=r.dp; show A.depth + 1 + 3 * k + 5 < _; omega,by have:=r.un; show A.units + 3 + 16 * k + 200 < _; omega⟩
theorem Room.depth {k:Nat} {A:Around} (r:Room k A):A.depth < recursionLimit:=by have:=r.dp; omega
theorem Room.units {k:Nat} {A:Around} (r:Room k A):A.units + 64 < cLine:=by have:=r.un; omega
noncomputable def tNil:TA:=fun _ H Q=>Q [] H
noncomputable def zcp (ta:TE) (tr:TA):TA:=fun σ H Q=>ta σ H fun x H1=>tr σ H1 fun xs H2=>Q (x :: xs) H2
section
variable {X:Cx} {e:Expr} {es:List Expr} {te:TE} {t:TA} {pos:Pos}
theorem pa_nil:PA X [] tNil:=fun _ _ _ _ H Q I h=>Calls.spliced_nil ⟨[],H,I,.nil,h⟩
theorem zae (ha:PE X e te) (hr:PA X es t) (hs:starEach (e :: es) X.env = (false,eval e X.env) :: starEach es X.env:=by rfl):PA X (e :: es) (zcp te t):=by
 intro pos pins s σ H Q I h
 rw [hs]
 show wpAny _ _ (spliced ((false,eval e X.env) :: backTo pos (starEach es X.env))) _ _ s
 refine Calls.spliced_cons (thn (ha pins s σ H _ I h) fun u s1 ⟨x,H1,I1,r1,q1⟩=>?_)
 exact thn (hr pos pins s1 σ H1 _ I1 q1) fun us s2 ⟨xs,H2,I2,r2,q2⟩=>⟨x :: xs,H2,I2,.cons r1 r2,q2⟩
noncomputable def tTup (t:TA):TE:=fun σ H Q=>t σ H fun xs H1=>xs.length ≤ sizeLine∧∀ p,H1 p = none->Q (.ref p) (upd H1 p (.tup xs))
noncomputable def tLst (t:TA):TE:=fun σ H Q=>t σ H fun xs H1=>xs.length ≤ sizeLine∧∀ p,H1 p = none->Q (.ref p) (upd H1 p (.lst xs))
theorem zas {x1} (h:PA X es t):PE X (.Tuple es x1 pos) (tTup t):=by
 intro pins s σ H Q I hq
 refine wpAny_Tuple_spliced (thn (h pos pins s σ H _ I hq) fun us s1 ⟨xs,H1,I1,r,z,q⟩=>⟨by rw [← r.length]; exact z,?_⟩)
 have hf:H1 s1.heap.objs.size = none:=I1.hok.fresh (Nat.le_refl _)
 refine ⟨.ref s1.heap.objs.size,upd H1 s1.heap.objs.size (.tup xs),I1.laid (t':=s1.toks) (fun b u e=>Heap.get?_push_of_some _ e) (Nat.le_refl _) ?_,rfl,q _ hf⟩
 exact ⟨z,us,r,⟨_,Heap.get?_push_size _ rfl,rfl,_,rfl⟩⟩
theorem zav (h:PA X es t):PE X (.List es pos) (tLst t):=by
 intro pins s σ H Q I hq
 refine wpAny_List_spliced (thn (h pos pins s σ H _ I hq) fun us s1 ⟨xs,H1,I1,r,z,q⟩=>⟨by rw [← r.length]; exact z,?_⟩)
 have hf:H1 s1.heap.objs.size = none:=I1.hok.fresh (Nat.le_refl _)
 refine ⟨.ref s1.heap.objs.size,upd H1 s1.heap.objs.size (.lst xs),I1.laid (t':=s1.toks) (fun b u e=>Heap.get?_push_of_some _ e) (Nat.le_refl _) ?_,rfl,q _ hf⟩
 exact ⟨z,us,0,r,Heap.get?_push_size _ rfl⟩
end
abbrev Sp:=List V->Hp->VK->XK->Prop
abbrev CXT:=List Env->Hp->Shared->XK->Value->Shared->Prop
structure Env0 (P:Program) (w:World) (K:PySem.W.Frag) (mg:Str->Option Value) (base:Heap) (A:Around) (outer:List Env) (s:Shared) (H:Hp):Prop where
 frames:A.frames = some outer
 mod:Mod K mg base
 bs:∀ b o,base.get? b = some o->s.heap.get? b = some o∧H b = none
 bsz:base.objs.size ≤ s.heap.objs.size
 funs:s.heap.FunFrames base outer
 frf:∀ b ∈ frs outer,H b = none
 hok:HOk P w H s.heap
 bare:AllBare s.gens
noncomputable def CE (outer:List Env) (P:Program) (w:World) (H:Hp) (s:Shared) (Q:VK) (u:Value) (s':Shared):Prop :=
 ∃ v H',s'.os = s.os∧AllBare s'.gens∧Un (frs outer) [] H H' s.heap s'.heap∧HOk P w H' s'.heap∧RelV v u∧Q v H'
noncomputable def CR (CX:CXT) (outer:List Env) (P:Program) (w:World) (H:Hp) (s:Shared) (Q:VK) (E:XK) (r:Result) (s':Shared):Prop :=
 match r with
 | .ok (.ret u)=>CE outer P w H s Q u s'
 | .ok _=>False
 | .error e=>CX outer H s E e s'
structure FnOk (P:Program) (w:World) (K:PySem.W.Frag) (mg:Str->Option Value) (base:Heap) (CX:CXT) (k:Nat) (f:Addr) (fd:FuncData) (ps:List Str) (sp:Sp):Prop where
 len:∀ vs H Q E,sp vs H Q E->vs.length = ps.length
 run:∀ (A:Around) (outer:List Env) (s:Shared) (H:Hp) (args:Args) (us:List Value) (vs:List V) (Q:VK) (E:XK),Room k A->Env0 P w K mg base A outer s H->BindsTo s fd args (ps.zip us)->Vals vs us->sp vs H Q E ->
  codeAny (model P w) A (.call (.ref f) args) (CR CX outer P w H s Q E) s
section
variable {X:Cx} {pins:List (Addr × Obj)} {σ:St} {H:Hp} {s s':Shared}
theorem Inv.env0 (I:Inv X pins σ H s):Env0 X.prog X.w X.K X.mg X.base X.A X.stack s H :=
 ⟨I.ok.frames,I.ok.mod,I.bs,Nat.le_trans I.ok.bsz I.sz,I.stack,I.stkFree,I.hok,I.bare⟩
theorem Inv.after {Q:VK} {u:Value} (I:Inv X pins σ H s) (h:CE X.stack X.prog X.w H s Q u s'):EP X pins σ Q u s':=by
 obtain ⟨v,H',os,bare,un,hok,r,q⟩:=h
 obtain ⟨hh,g,d,t,os'⟩:=s'
 obtain rfl:os' = s.os:=os
 exact ⟨v,H',I.call (h':=hh) (g':=g) (d':=d) (t':=t) (ch:=[]) un hok bare (fun b z=>absurd z (by simp)),r,q⟩
end
noncomputable def zgb (sp:Sp) (dvs:List V) (E:XK) (t:TA):TE:=fun σ H Q=>t σ H fun vs H1=>sp (vs ++ dvs) H1 Q E
noncomputable def tMeth (C:Addr) (m:Str) (sp:Sp) (dvs:List V) (E:XK) (ta:TE) (t:TA):TE:=fun σ H Q=>ta σ H fun x H1=>∃ a dx fs,x = .ref a∧H1 a = some (.ins C dx fs)∧fs.lookup m = none ∧
 t σ H1 fun vs H2=>sp (x :: (vs ++ dvs)) H2 Q E
noncomputable def tMake (C:Addr) (sp:Sp) (dvs:List V) (E:XK) (t:TA):TE:=fun σ H Q=>t σ H fun vs H1=>∀ x dx,H1 x = none->H1 dx = none->dx ≠ x ->
 sp (.ref x :: (vs ++ dvs)) (upd (upd H1 dx (.own x)) x (.ins C dx [])) (fun v H2=>v = .non∧Q (.ref x) H2) E
noncomputable def zaP (K:PySem.W.Frag) (fd:FuncData) (ps:List Str) (ds:List Value):Prop :=
 ∀ (s:Shared) (us:List Value),K.In s.heap->(us ++ ds).length = ps.length->BindsTo s fd ⟨us,[]⟩ (ps.zip (us ++ ds))
theorem zaP.all {K:PySem.W.Frag} {fd:FuncData} {ps:List Str} (h:∀ us:List Value,us.length = ps.length->bindArgs fd ⟨us,[]⟩ = pure (ps.zip us)):zaP K fd ps []:=fun s us _ hl=>by
 rw [List.append_nil] at hl ⊢
 exact .of_eq (h us hl)
noncomputable def zfB (CX:CXT) (X:Cx) (E:XK):Prop:=∀ (pins:List (Addr × Obj)) (σ:St) (H:Hp) (s:Shared) (e:Value) (s':Shared),Inv X pins σ H s->CX X.stack H s E e s'->X.xe e s'
section
variable {X:Cx} {CX:CXT} {k:Nat} {f C:Addr} {fd:FuncData} {ps:List Str} {sp:Sp} {dvs:List V} {ds:List Value} {E:XK} {x m:Str} {p pos apos:Pos} {e o:Expr} {es:List Expr} {ta:TE} {t:TA}
theorem ziM {pins:List (Addr × Obj)} {σ:St} {H:Hp} {s:Shared} {Q:VK} {us:List Value} {vs:List V} (F:FnOk X.prog X.w X.K X.mg X.base CX k f fd ps sp) (hr:Room k X.A) (hb:zaP X.K fd ps ds) (hd:Vals dvs ds) (hx:zfB CX X E)
  (I:Inv X pins σ H s) (r:Vals vs us) (h:sp (vs ++ dvs) H Q E):wpAny (model X.prog X.w) X.A (call (.ref f) us) (EP X pins σ Q) X.xe s:=by
 have r2:Vals (vs ++ dvs) (us ++ ds):=r.append hd
 have hl:(us ++ ds).length = ps.length:=by rw [← r2.length]; exact F.len _ _ _ _ h
 refine wpAny_call (codeAny_mono (F.run X.A X.stack s H ⟨us,[]⟩ (us ++ ds) (vs ++ dvs) Q E hr I.env0 (hb s us I.kIn hl) r2 h) fun r s' hq=>?_)
 cases r with
 | error e=>exact hx pins σ H s e s' I hq
 | ok fl =>
  cases fl with
  | ret u=>exact I.after hq
  | next=>exact False.elim hq
  | brk=>exact False.elim hq
  | cont=>exact False.elim hq
theorem zal (F:FnOk X.prog X.w X.K X.mg X.base CX k f fd ps sp) (hr:Room k X.A) (hg:Gl X x) (hm:X.mg x = some (.ref f)) (hk:PySem.W.keepIn X.K (.ref f) = true) (hb:zaP X.K fd ps ds) (hd:Vals dvs ds) (hx:zfB CX X E)
  (ha:PA X (e :: es) t) (hdb:(x == ("__debug__":Str)) = false:=by decide) (he:starEach (e :: es) X.env = (false,eval e X.env) :: starEach es X.env:=by rfl) (hpl:(backTo pos (starEach es X.env)).any (·.1) = false:=by rfl) :
  PE X (.Call (.Name x p) (e :: es) [] pos) (zgb sp dvs E t):=by
 intro pins s σ H Q I h
 refine wpAny_Call_Name_kw (zfT I hg hm ?_ hdb)
 refine PySem.W.callWith_K (h₀:=X.base) I.ok.mod.kin hk (thn (ha pos pins s σ H _ I h) fun us s1 ⟨vs,H1,I1,r,q⟩=>⟨I1.kIn,?_⟩) he hpl
 exact ziM F hr hb hd hx I1 r q
end
noncomputable def PK (X:Cx) (kws:List Keyword) (t:TA):Prop :=
 ∀ (pos:Pos) (pins:List (Addr × Obj)) (s:Shared) (σ:St) (H:Hp) (Q:List V->Hp->Prop),Inv X pins σ H s->t σ H Q->wpAny (model X.prog X.w) X.A (evalAll ((backToKw pos (keywordEach kws X.env)).map (·.2))) (AP X pins σ Q) X.xe s
section
variable {X:Cx} {CX:CXT} {k:Nat} {f C:Addr} {fd:FuncData} {ps ks:List Str} {sp:Sp} {E:XK} {x m:Str} {p pos apos kpos:Pos} {e o:Expr} {es:List Expr} {kws:List Keyword} {te ta:TE} {t tk:TA} {nm:Option Str}
variable {g:List Value->List Value->List Value} {gV:List V->List V->List V}
end
structure FnScope (N P:List Str) (sc:Scope):Prop where
 kind:sc.kind = .function
 co:sc.isCoroutine = false
 gen:sc.isGenerator = false
 nd:N.Nodup
 pre:N.take P.length = P
 par:∀ x ∈ P,sc.names.lookup x = some .local ∨ sc.names.lookup x = some .cell
 nofree:∀ y ∈ sc.names,y.2 ≠ .free
theorem zdS {kindOf:Str->Option NameKind} {x:Str}:∀ {binds:List (Str × Value)} {m:Str->Option Value},(∀ v,(x,v) ∉ binds)->bindL kindOf binds m x = m x
 | [],_,_=>rfl
 | (n,v) :: r,m,h=>by
  unfold bindL
  rw [zdS fun w hw=>h w (List.mem_cons_of_mem _ hw)]
  split
  ·have:x ≠ n:=by rintro rfl; exact h v List.mem_cons_self
   simp [this]
  ·rfl
theorem zd0 {kindOf:Str->Option NameKind} {x:Str}:∀ {binds:List (Str × Value)} {m:Str->Option Value},(∀ v,(x,v) ∉ binds)->bindC kindOf binds m x = m x
 | [],_,_=>rfl
 | (n,v) :: r,m,h=>by
  unfold bindC
  rw [zd0 fun w hw=>h w (List.mem_cons_of_mem _ hw)]
  split
  ·rfl
  ·have:x ≠ n:=by rintro rfl; exact h v List.mem_cons_self
   simp [this]
theorem zdX {kindOf:Str->Option NameKind} {x:Str} {v:Value}:∀ {P:List Str} {vs:List Value} {i:Nat} {m:Str->Option Value},P.Nodup->P[i]? = some x->vs[i]? = some v->kindOf x = some .local ->
  bindL kindOf (P.zip vs) m x = some v
 | [],_,_,_,_,h,_,_=>by simp at h
 | _ :: _,[],_,_,_,_,h,_=>by simp at h
 | p :: P,w :: vs,0,m,nd,h1,h2,hk=>by
  simp at h1 h2; subst h1; subst h2
  show bindL kindOf ((p,w) :: P.zip vs) m p = _
  unfold bindL
  rw [zdS fun v hv=>(List.nodup_cons.mp nd).1 (List.of_mem_zip hv).1,if_pos hk]
  simp
 | p :: P,w :: vs,i + 1,m,nd,h1,h2,hk=>by
  show bindL kindOf ((p,w) :: P.zip vs) m x = _
  unfold bindL
  exact zdX (i:=i) (List.nodup_cons.mp nd).2 (by simpa using h1) (by simpa using h2) hk
theorem zdW {kindOf:Str->Option NameKind} {x:Str} {v:Value}:∀ {P:List Str} {vs:List Value} {i:Nat} {m:Str->Option Value},P.Nodup->P[i]? = some x->vs[i]? = some v->kindOf x ≠ some .local ->
  bindC kindOf (P.zip vs) m x = some v
 | [],_,_,_,_,h,_,_=>by simp at h
 | _ :: _,[],_,_,_,_,h,_=>by simp at h
 | p :: P,w :: vs,0,m,nd,h1,h2,hk=>by
  simp at h1 h2; subst h1; subst h2
  show bindC kindOf ((p,w) :: P.zip vs) m p = _
  unfold bindC
  rw [zd0 fun v hv=>(List.nodup_cons.mp nd).1 (List.of_mem_zip hv).1,if_neg hk]
  simp
 | p :: P,w :: vs,i + 1,m,nd,h1,h2,hk=>by
  show bindC kindOf ((p,w) :: P.zip vs) m x = _
  unfold bindC
  exact zdW (i:=i) (List.nodup_cons.mp nd).2 (by simpa using h1) (by simpa using h2) hk
noncomputable def start (N:List Str) (vs:List V):St:=vs.map some ++ List.replicate (N.length - vs.length) none
noncomputable def cxOf (CX:CXT) (P:Program) (w:World) (K:PySem.W.Frag) (mg:Str->Option Value) (base:Heap) (N:List Str) (qual:Str) (scope:Scope) (f:Addr) (cd:Value) (A:Around) (outer:List Env) (s:Shared) (H:Hp) (E:XK):Cx where
 prog:=P
 w:=w
 K:=K
 mg:=mg
 base:=base
 A:=A.deeper (envOfC qual scope s.heap.objs.size f cd)
 N:=N
 s₀:=s
 H₀:=H
 env:=envOfC qual scope s.heap.objs.size f cd
 outer:=outer
 stack:=envOfC qual scope s.heap.objs.size f cd :: outer
 ex:=[]
 calm:=true
 fn:=fun _=>true
 pn:=[]
 xe:=fun e s'=>wpAny (model P w) (A.deeper (envOfC qual scope s.heap.objs.size f cd)) (leaving (envOfC qual scope s.heap.objs.size f cd) e) (fun _ s''=>CX outer H s E e s'') (fun e' s''=>CX outer H s E e' s'') s'
theorem zeZ {sc:Scope} {n:Nat} {x:Str} (h:sc.names.lookup x = some .cell):∃ c,(cellsFrom n sc.names []).lookup x = some c:=by
 have q:=PySem.W.cellsFrom_some sc.names n [] (.inl h)
 exact Option.isSome_iff_exists.mp q
theorem zgq {CX:CXT} {P:Program} {w:World} {K:PySem.W.Frag} {mg:Str->Option Value} {base:Heap} {N ps:List Str} {qual:Str} {scope:Scope} {f:Addr} {cd:Value} {A:Around} {outer:List Env} {s s1:Shared} {H:Hp} {E:XK} {us:List Value} {vs:List V}
  (S:FnScope N ps scope) (hd:A.handled = none) (e0:Env0 P w K mg base A outer s H) (hl:vs.length = ps.length) (r:Vals vs us)
  (x:InCallC s s.heap.objs.size (bindL (envOfC qual scope s.heap.objs.size f cd).kindOf (ps.zip us) fun _=>none) (cellsFrom (s.heap.objs.size + 1) scope.names []) (bindC (envOfC qual scope s.heap.objs.size f cd).kindOf (ps.zip us) fun _=>none) s1) :
  Inv (cxOf CX P w K mg base N qual scope f cd A outer s H E) [] (start N vs) H s1:=by
 have hpl:ps.length ≤ N.length:=by have:=congrArg List.length S.pre; rw [List.length_take] at this; omega
 obtain ⟨h1,tk,rfl,hk⟩:=x.done
 have noA:∀ b:Addr,b ∉ (cxOf CX P w K mg base N qual scope f cd A outer s H E).ex:=fun b z=>absurd (show b ∈ ([]:List Addr) from z) (by simp)
 refine ⟨⟨e0.mod,S.kind,rfl,rfl,Nat.le_refl _,fun y z c h1 h2=>?_,fun y hy=>?_,fun y c _ h=>?_,fun _=>hd,Around.frames_deeper e0.frames,.inr ⟨rfl,rfl⟩,fun b z=>absurd z (noA b),e0.bs,e0.bsz,fun b _ _=>noA b,fun b z=>absurd z (noA b),e0.funs,e0.frf⟩,
  rfl,e0.bare,Un.kept hk,⟨_,x.toInCall.ns,fun i y v h1 h2 h3=>?_⟩,fun y c h=>⟨_,x.cell y c h⟩,e0.hok.fresh (Nat.le_refl _),fun y c h=>?_,fun p hp=>absurd (show p ∈ ([]:List (Addr × Obj)) from hp) (by simp),e0.hok.kept hk,?_⟩
 ·exact name_of_addr x.apart (PySem.mem_of_lookup h1) (PySem.mem_of_lookup h2)
 ·have hy:scope.names.lookup y = some .cell ∨ scope.names.lookup y = some .free:=hy
  rcases hy with hy | hy
  ·exact zeZ hy
  ·exact absurd rfl (S.nofree _ (PySem.mem_of_lookup hy))
 ·exact Nat.le_of_lt (x.above y c (PySem.mem_of_lookup h))
 ·have hi:i < vs.length:=by
   unfold start at h2
   by_cases hi:i < vs.length
   ·exact hi
   ·rw [List.getElem?_append_right (by simpa using hi)] at h2
    rw [List.getElem?_replicate] at h2
    split at h2 <;> cases h2
  have ha:vs[i]? = some v:=by
   unfold start at h2
   rw [List.getElem?_append_left (by simpa using hi),List.getElem?_map] at h2
   cases e:vs[i]? with
   | none=>rw [e] at h2; cases h2
   | some a=>rw [e] at h2; cases h2; rfl
  obtain ⟨u,hu,rv⟩:=r.get ha
  have hp:ps[i]? = some y:=by
   rw [← S.pre,List.getElem?_take_of_lt (by omega)]; exact h1
  have ndP:ps.Nodup:=by rw [← S.pre]; exact S.nd.sublist (List.take_sublist _ _)
  refine ⟨u,rv,?_⟩
  rcases S.par y (List.mem_of_getElem? hp) with k | k
  ·exact .inl ⟨k,zdX ndP hp hu k⟩
  ·obtain ⟨c,e⟩:=zeZ (n:=s.heap.objs.size + 1) k
   refine .inr ⟨.inl k,c,e,?_⟩
   have q:=x.cell y c e
   rw [zdW ndP hp hu (by show scope.names.lookup y ≠ _; rw [k]; decide)] at q
   exact q
 ·exact e0.hok.fresh (Nat.le_of_lt (x.above y c (PySem.mem_of_lookup h)))
 ·unfold start
  show _ = N.length
  rw [List.length_append,List.length_map,List.length_replicate]
  omega
theorem fn_of {CX:CXT} {P:Program} {w:World} {K:PySem.W.Frag} {mg:Str->Option Value} {base:Heap} {k:Nat} {f:Addr} {name qual:Str} {params:Arguments} {body:List Stmt} {scope:Scope} {dV kV doc pm cdv ct oc:Value} {an od:Option Addr}
  {osl:Array (Option Value)} {N ps:List Str} {sp:Sp} (lk:K.lookup f = some ⟨oc,od,.func (PySem.W.fnOf name qual params body scope dV kV doc pm an cdv ct),osl⟩) (hcd:PySem.W.codeIn K cdv qual = true) (S:FnScope N ps scope)
  (len:∀ vs H Q E,sp vs H Q E->vs.length = ps.length)
  (hbody:∀ (A:Around) (outer:List Env) (s:Shared) (H:Hp) (vs:List V) (Q:VK) (E:XK),Room k (A.deeper (envOfC qual scope s.heap.objs.size f cdv))->sp vs H Q E ->
   ∃ t,PSs (cxOf CX P w K mg base N qual scope f cdv A outer s H E) body t∧t { nx:=fun _ H'=>Q .non H',rt:=Q } (start N vs) H) :
  FnOk P w K mg base CX (k + 1) f (PySem.W.fnOf name qual params body scope dV kV doc pm an cdv ct) ps sp:=by
 refine ⟨len,fun A outer s H args us vs Q E hr e0 hb r hsp=>?_⟩
 have hl:=len _ _ _ _ hsp
 have KX:K.In s.heap:=e0.mod.kin.keeps fun b o e=>(e0.bs b o e).1
 have lim:s.heap.NoLimit:=e0.mod.nolimit.keeps fun b o e=>(e0.bs b o e).1
 have hkind:∀ y ∈ ps.zip us,scope.names.lookup y.1 = some .local ∨ (scope.names.lookup y.1 = some .cell∧((cellsFrom (s.heap.objs.size + 1) scope.names []).lookup y.1).isSome = true):=fun ⟨n,v⟩ hy=>by
  rcases S.par n (List.of_mem_zip hy).1 with q | q
  ·exact .inl q
  ·exact .inr ⟨q,PySem.W.cellsFrom_some _ _ _ (.inl q)⟩
 refine codeAny_call_function hr.depth (KX _ _ lk) rfl S.co S.gen rfl (PySem.W.codeRec_of KX hcd) (hb _ _ _ _ ?_)
 refine wpAny_newFunctionEnv_cells S.kind hkind fun env he s1 x=>?_
 subst he
 refine ⟨lim.keeps x.toInCall.keep,codeAny_func ?_⟩
 obtain ⟨t,ht,hq⟩:=hbody A outer s H vs Q E (hr.deeper _) hsp
 have I:Inv (cxOf CX P w K mg base N qual scope f cdv A outer s H E) [] (start N vs) H s1:=zgq S hr.hd e0 hl r x
 refine wpAny_mono (ht [] s1 (start N vs) H _ I hq) (fun fl s' hs=>?_) fun e s' hs=>hs
 have fin:∀ {σ':St} {H':Hp} {v:V} {u:Value},Inv (cxOf CX P w K mg base N qual scope f cdv A outer s H E) [] σ' H' s'->RelV v u->Q v H'->CE outer P w H s Q u s' :=
  fun {σ' H' v u} J rv q=>⟨v,H',J.os,J.bare,J.base,J.hok,rv,q⟩
 cases fl with
 | ret u =>
  obtain ⟨v,σ',H',J,rv,q⟩:=hs
  exact fin J rv q
 | next =>
  obtain ⟨σ',H',J,q⟩:=hs
  exact fin (v:=V.non) (u:=Value.none) J rfl q
 | brk =>
  obtain ⟨_,_,_,q⟩:=hs
  exact False.elim q
 | cont =>
  obtain ⟨_,_,_,q⟩:=hs
  exact False.elim q
end L2
namespace L2
open PySem PySem.Spec PyProof.Rows
section
variable {X:Cx} {x:Str} {p pos:Pos} {e:Expr} {es:List Expr} {t:TA} {id T:String} {r:List V->Hp->VK->Prop}
noncomputable def tCB (r:List V->Hp->VK->Prop) (t:TA):TE:=fun σ H Q=>t σ H fun vs H1=>r vs H1 Q
theorem zax (hc:zbt X (.builtin id) r) (hg:Gl X x) (hm:X.mg x = none) (hv:bootBuiltins x = some (.builtin id)) (ha:PA X (e :: es) t) (hn:x ≠ "__name__":=by decide) (hdb:(x == ("__debug__":Str)) = false:=by decide)
  (he:starEach (e :: es) X.env = (false,eval e X.env) :: starEach es X.env:=by rfl) (hpl:(backTo pos (starEach es X.env)).any (·.1) = false:=by rfl):PE X (.Call (.Name x p) (e :: es) [] pos) (tCB r t):=by
 intro pins s σ H Q I h
 refine wpAny_Call_Name_kw (zbY I hg hm hv ?_ hn hdb)
 exact PyProof.Rows.callWith_builtin1 (thn (ha pos pins s σ H _ I h) fun us s1 ⟨vs,H1,I1,r1,q1⟩=>hc pins s1 σ H1 vs us Q I1 r1 q1) he hpl
theorem zaN (hc:zbt X (.type T) r) (hg:Gl X x) (hm:X.mg x = none) (hv:bootBuiltins x = some (.type T)) (ha:PA X (e :: es) t) (hn:x ≠ "__name__":=by decide) (hdb:(x == ("__debug__":Str)) = false:=by decide)
  (he:starEach (e :: es) X.env = (false,eval e X.env) :: starEach es X.env:=by rfl) (hpl:(backTo pos (starEach es X.env)).any (·.1) = false:=by rfl):PE X (.Call (.Name x p) (e :: es) [] pos) (tCB r t):=by
 intro pins s σ H Q I h
 refine wpAny_Call_Name_kw (zbY I hg hm hv ?_ hn hdb)
 exact PyProof.Rows.callWith_type1 (thn (ha pos pins s σ H _ I h) fun us s1 ⟨vs,H1,I1,r1,q1⟩=>hc pins s1 σ H1 vs us Q I1 r1 q1) he hpl
end
end L2
namespace HT
open PySem PyProof.Rows
section
open PySem.SeqAt
open PySem.AutoSeq1 (wpAny_loadPart')
open PySem.MeetsSeq PySem.MeetsSeq2 PySem.MeetsSeq3
end
section
variable {prog:Program} {w:World} {A:Around} {E:Value->Shared->Prop} {s:Shared}
noncomputable def sIx (n d:Nat):Option Int->Nat
 | none=>d
 | some v=>if v < 0 then (v + (n:Int)).toNat else min v.toNat n
theorem sIx_none (n d:Nat):sIx n d none = d:=rfl
theorem sIx_nat (n d k:Nat):sIx n d (some (k:Int)) = min k n:=by
 show (if (k:Int) < 0 then ((k:Int) + (n:Int)).toNat else min (k:Int).toNat n) = min k n
 rw [if_neg (by omega),Int.toNat_natCast]
theorem zix (n d:Nat) (hd:d ≤ n) (o:Option Int):sIx n d o ≤ n:=by
 cases o with
 | none=>exact hd
 | some v =>
  show (if v < 0 then (v + (n:Int)).toNat else min v.toNat n) ≤ n
  by_cases hv:v < 0
  ·rw [if_pos hv]; omega
  ·rw [if_neg hv]; exact Nat.min_le_right _ _
theorem zgd (v:Int) (n d:Nat):(if v < 0 then max (v + (n:Int)) 0 else min v (n:Int)) = ((sIx n d (some v):Nat):Int):=by
 show (if v < 0 then max (v + (n:Int)) 0 else min v (n:Int)) = (((if v < 0 then (v + (n:Int)).toNat else min v.toNat n):Nat):Int)
 by_cases hv:v < 0
 ·simp only [if_pos hv]; omega
 ·simp only [if_neg hv]; omega
theorem zft (lo hi:Option Int) (n:Nat):Builtin.Slice.sliceAdjust lo hi 1 (n:Int) = (((sIx n 0 lo:Nat):Int),((sIx n n hi:Nat):Int)):=by
 have h1:¬ ((1:Int) < 0):=by omega
 unfold Builtin.Slice.sliceAdjust
 simp only [h1,if_false]
 refine Prod.ext ?_ ?_
 ·cases lo with
  | none=>rfl
  | some v=>exact zgd v n 0
 ·cases hi with
  | none=>rfl
  | some v=>exact zgd v n n
theorem zfn (i j:Nat):Builtin.Slice.slicePlaces (i:Int) (j:Int) 1 = j - i:=by
 unfold Builtin.Slice.slicePlaces
 have h1:(1:Int) > 0:=by omega
 simp only [h1,if_true,Int.ediv_one]
 split <;> omega
theorem zc0 {v:Value} {o:Option Int} {Q:Option Int->Shared->Prop} (p:IsPart v o) (h:Q o s):wpAny (model prog w) A (Builtin.Slice.slicePartIndex v) Q E s:=by
 cases p with
 | none=>exact slicePart_none h
 | int i t=>exact slicePart_int h
theorem zcr {sl:Addr} {vl vu:Value} {lo hi:Option Int} {n:Nat} {Q:Int × Int × Nat->Shared->Prop} (hs:s.heap.IsSliceOf sl vl vu .none) (pl:IsPart vl lo) (pu:IsPart vu hi)
  (h:Q (((sIx n 0 lo:Nat):Int),1,sIx n n hi - sIx n 0 lo) s):wpAny (model prog w) A (Builtin.Slice.sliceApplied (.ref sl) (pure (n:Int))) Q E s:=by
 obtain ⟨os,hos,hcs,hds⟩:=id hs
 unfold Builtin.Slice.sliceApplied Builtin.Slice.sliceFields
 refine wpAny_bind (wpAny_bind (wpAny_field hos hds (x:=vl) rfl (wpAny_bind (wpAny_field hos hds (x:=vu) rfl (wpAny_bind (wpAny_field hos hds (x:=.none) rfl (wpAny_pure ?_)))))))
 refine wpAny_bind (slicePart_none ?_)
 show wpAny _ _ (if ((1:Int) == 0) = true then _ else _) _ _ s
 rw [if_neg (by decide)]
 refine wpAny_bind (zc0 pl (wpAny_bind (zc0 pu (wpAny_bind (wpAny_pure ?_)))))
 show wpAny _ _ (match Builtin.Slice.sliceAdjust lo hi 1 (n:Int) with | (lo,hi)=>pure (lo,(1:Int),Builtin.Slice.slicePlaces lo hi 1)) _ _ s
 rw [zft lo hi n]
 show wpAny _ _ (pure (((sIx n 0 lo:Nat):Int),(1:Int),Builtin.Slice.slicePlaces ((sIx n 0 lo:Nat):Int) ((sIx n n hi:Nat):Int) 1)) _ _ s
 rw [zfn]
 exact wpAny_pure h
theorem zgG (xs:Array Value) (i k:Nat):((List.range k).filterMap fun (m:Nat)=>xs[((i:Int) + (m:Int) * 1).toNat]?).toArray = ((xs.toList.drop i).take k).toArray:=by
 have e:(fun (m:Nat)=>xs[((i:Int) + (m:Int) * 1).toNat]?) = fun m=>xs[i + m]?:=by
  funext m
  have:((i:Int) + (m:Int) * 1).toNat = i + m:=by omega
  rw [this]
 rw [e]
 have:=pick_run xs i k
 rw [List.filterMap_map] at this
 have e2:((fun x=>xs[x]?) ∘ fun x=>i + x) = fun m=>xs[i + m]?:=rfl
 rw [e2] at this
 rw [this]
theorem getItem_tuple_cut {t sl:Addr} {items:Array Value} {vl vu:Value} {lo hi:Option Int} {Q:Value->Shared->Prop} (ht:IsTup s.heap t items) (hs:s.heap.IsSliceOf sl vl vu .none) (pl:IsPart vl lo) (pu:IsPart vu hi)
  (hw:¬ (sIx items.size 0 lo = 0∧sIx items.size items.size hi = items.size))
  (h:Q (.ref s.heap.objs.size) { s with heap:=s.heap.push { cls:=.type "tuple",data:=.seq ((items.toList.drop (sIx items.size 0 lo)).take (sIx items.size items.size hi - sIx items.size 0 lo)).toArray } })
  (hsz:items.size ≤ sizeLine):wpAny (model prog w) A (getItem (.ref t) (.ref sl)) Q E s:=by
 have htake:sizeOk (.seq ((items.toList.drop (sIx items.size 0 lo)).take (sIx items.size items.size hi - sIx items.size 0 lo)).toArray):=by
  show ((items.toList.drop (sIx items.size 0 lo)).take (sIx items.size items.size hi - sIx items.size 0 lo)).toArray.size ≤ sizeLine
  rw [List.size_toArray,List.length_take,List.length_drop,Array.length_toList]
  omega
 have hj:sIx items.size items.size hi ≤ items.size:=zix _ _ (Nat.le_refl _) hi
 obtain ⟨os,hos,hcs,hds⟩:=id hs
 have hTs:s.TypeIs (.ref sl) "slice":=⟨os,hos,hcs⟩
 unfold getItem
 try with_reducible refine wpAny_holding ?_
 first | refine wpAny_bind (wpAny_pure ?_) | skip
 refine wpAny_bind (wpAny_sequenceKey ht.typeIs (by decide) ?_)
 refine wpAny_bind (wpAny_callSpecial?_slot (name:=Str.ofString "__getitem__") ht.typeIs PyProof.Rows.slot_tuple_getitem
  (wpAny_call_entry PyProof.Rows.slot_tuple_getitem ht.typeIs entry_tuple_getitem ?_ (args_tuple_getitem _ _)))
 show wpAny _ _ (Builtin.Tuple.tupleItemsOf (.ref t) >>= _) _ _ s
 refine wpAny_bind (tupleItemsOf_ ht ?_)
 refine wpAny_bind (wpAny_typeOf hTs ?_)
 rw [if_pos (by decide)]
 refine wpAny_bind (zcr hs pl pu ?_)
 have hno:¬ ((((sIx items.size 0 lo:Nat):Int) == 0 && (1:Int) == 1 && (sIx items.size items.size hi - sIx items.size 0 lo) == items.size) = true):=by
  intro q
  rw [Bool.and_eq_true,Bool.and_eq_true] at q
  have q1:((sIx items.size 0 lo:Nat):Int) = 0:=eq_of_beq q.1.1
  have q2:sIx items.size items.size hi - sIx items.size 0 lo = items.size:=eq_of_beq q.2
  exact hw ⟨by omega,by omega⟩
 show wpAny _ _ (if (((sIx items.size 0 lo:Nat):Int) == 0 && (1:Int) == 1 && (sIx items.size items.size hi - sIx items.size 0 lo) == items.size) = true then _ else _) _ _ s
 rw [if_neg hno,zgG]
 first
  | exact wpAny_bind (m:=Builtin.Tuple.tupleExact _) (wpAny_newObj_type (wpAny_pure ⟨_,rfl,wpAny_pure h⟩) htake)
  | exact wpAny_bind (m:=Builtin.Tuple.tupleExact _) (wpAny_newObj_type (wpAny_bind (wpAny_pure (wpAny_pure ⟨_,rfl,wpAny_pure h⟩))) htake)
  | exact wpAny_bind (wpAny_bind (m:=Builtin.Tuple.tupleExact _) (wpAny_newObj_type (wpAny_pure (wpAny_pure ⟨_,rfl,wpAny_pure h⟩)) htake))
  | exact wpAny_bind (wpAny_bind (m:=Builtin.Tuple.tupleExact _) (wpAny_newObj_type (wpAny_pure ⟨_,rfl,wpAny_pure h⟩) htake))
end
end HT
namespace L2
open PySem PySem.Spec PyProof.Rows
abbrev TO:=St->Hp->(Option Int->Hp->Prop)->Prop
noncomputable def PO (X:Cx) (e:Option Expr) (t:TO):Prop :=
 ∀ (pins:List (Addr × Obj)) (s:Shared) (σ:St) (H:Hp) (Q:Option Int->Hp->Prop),Inv X pins σ H s->t σ H Q ->
  wpAny (model X.prog X.w) X.A (evalPart e X.env) (fun u s'=>∃ o H',Inv X pins σ H' s'∧IsPart u o∧Q o H') X.xe s
noncomputable def tNoPart:TO:=fun _ H Q=>Q none H
noncomputable def zhQ (t:TE):TO:=fun σ H Q=>t σ H fun x H1=>∃ i,x = .int i∧Q (some i) H1
theorem zfd {ns:List Int}:∀ {us:List Value},Vals (ns.map V.int) us->IntsAre us ns:=by
 induction ns with
 | nil=>intro us r; rw [List.map_nil] at r; cases r; exact .nil
 | cons n ns ih =>
  intro us r
  rw [List.map_cons] at r
  cases r with
  | cons r1 r2 =>
   obtain ⟨t,e⟩:=r1
   subst e
   exact .cons n t (ih r2)
section
variable {X:Cx} {e:Expr} {te:TE} {lo hi:Option Expr} {tl th:TO} {pos p2:Pos}
theorem po_none:PO X none tNoPart:=by
 intro pins s σ H Q I h
 rw [evalPart_none]
 exact wpAny_pure ⟨none,H,I,.none,h⟩
theorem zdw (h:PE X e te):PO X (some e) (zhQ te):=by
 intro pins s σ H Q I hw
 rw [evalPart_some]
 refine thn (h pins s σ H _ I hw) fun u s1 ⟨x,H1,I1,r1,q1⟩=>?_
 obtain ⟨i,rfl,q⟩:=q1
 obtain ⟨t,rfl⟩:=r1
 exact ⟨some i,H1,I1,.int i t,q⟩
noncomputable def SlR (X:Cx) (r:V->Option Int->Option Int->Hp->VK->Prop):Prop :=
 ∀ (pins:List (Addr × Obj)) (s:Shared) (σ:St) (H:Hp) (x:V) (v vl vu:Value) (lo hi:Option Int) (sl:Addr) (Q:VK),Inv X pins σ H s->RelV x v->s.heap.IsSliceOf sl vl vu .none->IsPart vl lo->IsPart vu hi->r x lo hi H Q ->
  ∃ T id,typeLookup (.type T) "__getitem__" = pure (some (.builtin id))∧s.TypeIs v T∧wpAny (model X.prog X.w) X.A (getItem v (.ref sl)) (EP X pins σ Q) X.xe s
noncomputable def tSl (r:V->Option Int->Option Int->Hp->VK->Prop) (te:TE) (tl th:TO):TE:=fun σ H Q=>te σ H fun x H1=>tl σ H1 fun l H2=>th σ H2 fun u H3=>r x l u H3 Q
theorem zcu {r:V->Option Int->Option Int->Hp->VK->Prop} (hr:SlR X r) (he:PE X e te) (hl:PO X lo tl) (hu:PO X hi th):PE X (.Subscript e (.Slice lo hi none p2) pos) (tSl r te tl th):=by
 intro pins s σ H Q I h
 refine Subscript_ (thn (he pins s σ H _ I h) fun v s1 ⟨x,H1,I1,r1,q1⟩=>?_)
 refine wpAny_Slice (thn (hl pins s1 σ H1 _ I1 q1) fun vl s2 ⟨l,H2,I2,pl,q2⟩=>thn (hu pins s2 σ H2 _ I2 q2) fun vu s3 ⟨u,H3,I3,pu,q3⟩=>?_)
 rw [evalPart_none]
 refine wpAny_pure ?_
 have I4:Inv X pins σ H3 { s3 with heap:=s3.heap.push { cls:=.type "slice",data:=.fields #[vl,vu,.none] } }:=I3.kept (t':=s3.toks) fun b ob q=>Heap.get?_push_of_some _ q
 obtain ⟨T,id,hT,ht,hg⟩:=hr pins { s3 with heap:=s3.heap.push { cls:=.type "slice",data:=.fields #[vl,vu,.none] } } σ H3 x v vl vu l u s3.heap.objs.size Q I4 r1 (Heap.IsSliceOf.new ..) pl pu q3
 show wpAny (model X.prog X.w) X.A (subscriptTail e (.Slice lo hi none p2) v (.ref s3.heap.objs.size)) (EP X pins σ Q) X.xe { s3 with heap:=s3.heap.push { cls:=.type "slice",data:=.fields #[vl,vu,.none] } }
 exact tail_any (ops:=[.ref s3.heap.objs.size,v]) ht hT hg (by with_unfolding_all rfl)
noncomputable def cutV (xs:List V) (lo hi:Option Int):List V:=(xs.drop (HT.sIx xs.length 0 lo)).take (HT.sIx xs.length xs.length hi - HT.sIx xs.length 0 lo)
theorem zcH (xs:List V) (lo hi:Option Int):(cutV xs lo hi).length ≤ xs.length:=by
 unfold cutV
 rw [List.length_take,List.length_drop]
 omega
noncomputable def rSlT (K:PySem.W.Frag):V->Option Int->Option Int->Hp->VK->Prop:=fun x lo hi H Q=>∃ a xs,x = .ref a∧SqT K H a xs ∧
 ¬ (HT.sIx xs.length 0 lo = 0∧HT.sIx xs.length xs.length hi = xs.length)∧∀ p,H p = none->Q (.ref p) (upd H p (.tup (cutV xs lo hi)))
theorem sl_tup:SlR X (rSlT X.K):=by
 intro pins s σ H x v vl vu lo hi sl Q I rx hs pl pu h
 obtain ⟨a,xs,rfl,hx,hw,q⟩:=h
 cases rx
 obtain ⟨its,r,ht,hz⟩:=I.tuple hx
 have hlen:its.toArray.size = xs.length:=by rw [List.size_toArray]; exact r.length.symm
 refine ⟨"tuple",_,PyProof.Rows.slot_tuple_getitem.lookup,ht.typeIs,?_⟩
 refine HT.getItem_tuple_cut ht hs pl pu (by rw [hlen]; exact hw) ?_ (by rw [hlen]; exact hz)
 rw [hlen]
 refine ⟨.ref s.heap.objs.size,_,I.laid (t':=s.toks) (o:=.tup (cutV xs lo hi)) (fun b ob q=>Heap.get?_push_of_some _ q) (Nat.le_refl _) ?_,rfl,q _ (I.hok.fresh (Nat.le_refl _))⟩
 exact ⟨Nat.le_trans (zcH xs lo hi) hz,_,(r.drop (HT.sIx xs.length 0 lo)).take (HT.sIx xs.length xs.length hi - HT.sIx xs.length 0 lo),IsTup.new _ _⟩
end
end L2
namespace L2
open PySem PySem.Spec PyProof.Rows
noncomputable def ixN (n:Nat) (i:Int):Option Nat:=if 0 ≤ i then (if i < n then some i.toNat else none) else if -(n:Int) ≤ i then some (i + n).toNat else none
noncomputable def atI {α:Type} (xs:List α) (i:Int):Option α:=(ixN xs.length i).bind fun j=>xs[j]?
theorem zf0 {n:Nat} {i:Int} {j:Nat} (h:ixN n i = some j):seqIndex? i n = some j∧j < n∧-(n:Int) ≤ i∧i < n:=by
 unfold ixN at h
 by_cases h0:0 ≤ i
 ·rw [if_pos h0] at h
  by_cases h1:i < n
  ·rw [if_pos h1] at h
   have e:i.toNat = j:=Option.some.inj h
   exact ⟨by rw [seqIndex_of h0 h1,e],by omega,by omega,h1⟩
  ·rw [if_neg h1] at h; cases h
 ·rw [if_neg h0] at h
  by_cases h1:-(n:Int) ≤ i
  ·rw [if_pos h1] at h
   have e:(i + n).toNat = j:=Option.some.inj h
   exact ⟨by rw [seqIndex_neg (by omega) h1,e],by omega,h1,by omega⟩
  ·rw [if_neg h1] at h; cases h
theorem zeq {α:Type} {xs:List α} {i:Int} {v:α} (h:atI xs i = some v):∃ j,seqIndex? i xs.length = some j∧xs[j]? = some v∧j < xs.length∧-(xs.length:Int) ≤ i∧i < xs.length:=by
 unfold atI at h
 cases e:ixN xs.length i with
 | none=>rw [e] at h; cases h
 | some j =>
  rw [e] at h
  obtain ⟨h1,h2,h3,h4⟩:=zf0 e
  exact ⟨j,h1,h,h2,h3,h4⟩
theorem zau {α:Type} {xs:List α} {j:Nat} {v:α} (h:xs[j]? = some v):atI xs (j:Int) = some v:=by
 have hj:j < xs.length:=(List.getElem?_eq_some_iff.mp h).1
 have e:ixN xs.length (j:Int) = some j:=by
  unfold ixN
  rw [if_pos (by omega),if_pos (by omega)]; simp
 unfold atI; rw [e]; exact h
theorem zcB {α:Type} (xs:List α) (v:α):atI (xs ++ [v]) (-1) = some v:=by
 have hl:(xs ++ [v]).length = xs.length + 1:=by simp
 have e:ixN (xs ++ [v]).length (-1) = some xs.length:=by
  unfold ixN
  rw [hl,if_neg (by decide),if_pos (by omega)]
  congr 1
  omega
 unfold atI
 rw [e]
 show (xs ++ [v])[xs.length]? = some v
 simp
noncomputable def zhY (b:Expr):Prop:=∀ o i,subscripted b false o i = operate [o,i] (getItem o i)
noncomputable def IxR (X:Cx) (r:R2):Prop :=
 ∀ (value slice:Expr) (pins:List (Addr × Obj)) (s:Shared) (σ:St) (H:Hp) (x y:V) (v u:Value) (Q:VK),Inv X pins σ H s->RelV x v->RelV y u->r x y H Q ->
  subscripted slice false v u = operate [v,u] (getItem v u)->wpAny (model X.prog X.w) X.A (subscriptTail value slice v u) (EP X pins σ Q) X.xe s
noncomputable def MtR (X:Cx) (id:String) (r:V->List V->Hp->VK->Prop):Prop :=
 ∀ (pins:List (Addr × Obj)) (s:Shared) (σ:St) (H:Hp) (x:V) (xs:List V) (v:Value) (us:List Value) (Q:VK),Inv X pins σ H s->RelV x v->Vals xs us->r x xs H Q ->
  wpAny (model X.prog X.w) X.A (call (.builtin id) (v :: us)) (EP X pins σ Q) X.xe s
section
variable {X:Cx} {a b:Expr} {ta tb:TE} {pos:Pos}
theorem zah {r:R2} (hr:IxR X r) (ha:PE X a ta) (hb:PE X b tb) (hs:zhY b):PE X (.Subscript a b pos) (tOp r ta tb):=by
 intro pins s σ H Q I h
 exact Subscript_ (binT ha hb I h fun v u s2 x y H2 I2 rx ry q=>hr a b pins s2 σ H2 x y v u Q I2 rx ry q (hs _ _))
noncomputable def rIxL (K:PySem.W.Frag):R2:=fun x y H Q=>∃ p xs i v,x = .ref p∧y = .int i∧SqL K H p xs∧atI xs i = some v∧Q v H
noncomputable def rIxT (K:PySem.W.Frag):R2:=fun x y H Q=>∃ p xs i v,x = .ref p∧y = .int i∧SqT K H p xs∧atI xs i = some v∧Q v H
noncomputable def rIxS:R2:=fun x y H Q=>∃ z i c,x = .str z∧y = .int i∧z.length ≤ sizeLine∧atI z.cps.toList i = some c∧Q (.str ⟨#[c]⟩) H
theorem ix_list:IxR X (rIxL X.K):=by
 intro value slice pins s σ H x y v u Q I rx ry h hs
 obtain ⟨p,xs,i,z,rfl,rfl,hq,he,q⟩:=h
 cases rx
 obtain ⟨t,rfl⟩:=ry
 obtain ⟨its,r,pl,hz⟩:=I.list hq
 obtain ⟨j,h1,h2,h3,h4,h5⟩:=zeq he
 obtain ⟨w,ew,rw'⟩:=r.get h2
 have hl:=r.length
 have hn:=line63
 have fin:EP X pins σ Q w s:=⟨z,H,I,rw',q⟩
 by_cases h0:0 ≤ i
 ·have hj:i.toNat = j:=by
   rw [seqIndex_of h0 h5] at h1
   exact Option.some.inj h1
  exact item_listR pl.isList h0 (by omega) (by rw [hj]; simpa using ew) fin hs
 ·have hj:(i + (its.toArray.size:Int)).toNat = j:=by
   rw [seqIndex_neg (by omega) h4] at h1
   rw [List.size_toArray,← hl]
   exact Option.some.inj h1
  exact subscriptTail_builtinR (x:=w) pl.isList.typeIs slot_list_getitem.lookup
   (wpAny_getItem_list_neg (Q:=fun r s'=>r = w∧EP X pins σ Q r s') pl.isList (by omega) (by rw [List.size_toArray] <;> omega) (by omega) (by rw [hj]; simpa using ew) ⟨rfl,fin⟩) hs
theorem ix_tup:IxR X (rIxT X.K):=by
 intro value slice pins s σ H x y v u Q I rx ry h hs
 obtain ⟨p,xs,i,z,rfl,rfl,hq,he,q⟩:=h
 cases rx
 obtain ⟨t,rfl⟩:=ry
 obtain ⟨its,r,pl,hz⟩:=I.tuple hq
 obtain ⟨j,h1,h2,h3,h4,h5⟩:=zeq he
 obtain ⟨w,ew,rw'⟩:=r.get h2
 have hl:=r.length
 have hn:=line63
 have fin:EP X pins σ Q w s:=⟨z,H,I,rw',q⟩
 exact subscriptTail_builtinR (x:=w) pl.typeIs slot_tuple_getitem.lookup
  (getItem_tuple (j:=j) (Q:=fun r s'=>r = w∧EP X pins σ Q r s') pl (by omega) (by omega) (by rw [List.size_toArray,← hl]; exact h1) (by simpa using ew) ⟨rfl,fin⟩) hs
theorem ix_str:IxR X rIxS:=by
 intro value slice pins s σ H x y v u Q I rx ry h hs
 obtain ⟨z,i,c,rfl,rfl,hz,he,q⟩:=h
 obtain ⟨t,rfl⟩:=rx
 obtain ⟨t',rfl⟩:=ry
 obtain ⟨j,h1,h2,h3,h4,h5⟩:=zeq he
 have hl:z.cps.toList.length = z.length:=by simp [Str.length]
 rw [hl] at h1 h4 h5
 have hn:=line63
 exact tail_any (typeIs_str s z t) slot_str_getitem.lookup (getItem_str (c:=c) (by
  have e1:decide (i < -(2 ^ 63:Int)) = false:=decide_eq_false (by omega)
  have e2:decide (i ≥ 2 ^ 63) = false:=decide_eq_false (by omega)
  rw [e1,e2,Bool.or_false]) (by rw [h1]; simpa using h2) ⟨.str ⟨#[c]⟩,H,I.tok _,⟨_,rfl⟩,q⟩) hs
theorem zfg (its:List Value) (n j:Nat) (u:Value):Obj.mapSeq (·.setIfInBounds j u) { cls:=.type "list",data:=.seq its.toArray n } = { cls:=.type "list",data:=.seq (its.set j u).toArray n }:=by
 simp [Obj.mapSeq]
theorem Inv.lst {pins:List (Addr × Obj)} {σ:St} {H:Hp} {s:Shared} {p:Addr} {xs:List V} (I:Inv X pins σ H s) (h:H p = some (.lst xs)) :
  ∃ (its:List Value) (n:Nat),Vals xs its∧s.heap.get? p = some { cls:=.type "list",data:=.seq its.toArray n }∧xs.length ≤ sizeLine:=by
 obtain ⟨z,its,n,r,e⟩:=I.hok p _ h
 exact ⟨its,n,r,e,z⟩
theorem Inv.lstUpd {pins:List (Addr × Obj)} {σ:St} {H:Hp} {s:Shared} {p:Addr} {xs ys:List V} {its its':List Value} {n n':Nat} {f:Obj->Obj} (I:Inv X pins σ H s) (h:H p = some (.lst xs))
  (ho:s.heap.get? p = some { cls:=.type "list",data:=.seq its.toArray n }) (hf:f { cls:=.type "list",data:=.seq its.toArray n } = { cls:=.type "list",data:=.seq its'.toArray n' }) (r:Vals ys its') (hz:ys.length ≤ sizeLine) (t:Nat) :
  Inv X pins σ (upd H p (.lst ys)) { s with heap:=s.heap.update p f,toks:=t }:=by
 have e:(s.heap.update p f).get? p = some { cls:=.type "list",data:=.seq its'.toArray n' }:=by
  rw [Heap.get?_update_self f ho (by rw [hf] <;> rfl),hf]
 refine I.write (x:=p) (e:=p) (by rw [h]; trivial) (.inl rfl) (fun b u hb q=>(Heap.get?_update_other _ _ (Ne.symm hb)).trans q) ⟨_,e⟩ ?_
 exact ⟨hz,its',n',r,e⟩
noncomputable def rSetL:V->V->V->Hp->(Hp->Prop)->Prop:=fun o i v H Q=>∃ p xs k j,o = .ref p∧i = .int k∧H p = some (.lst xs)∧ixN xs.length k = some j∧Q (upd H p (.lst (xs.set j v)))
theorem set_list:PSet X rSetL:=by
 intro pins s σ H o i v ov iv u Q I ro ri rv h
 obtain ⟨p,xs,k,j,rfl,rfl,hp,hj,q⟩:=h
 cases ro
 obtain ⟨t,rfl⟩:=ri
 obtain ⟨its,n,r,ho,hz⟩:=I.lst hp
 obtain ⟨h1,h2,h3,h4⟩:=zf0 hj
 have hl:=r.length
 have hn:=line63
 have I':Inv X pins σ (upd H p (.lst (xs.set j v))) { s with heap:=s.heap.update p (Obj.mapSeq (·.setIfInBounds j u)) } :=
  I.lstUpd hp ho (zfg its n j u) (r.set rv j) (by rw [List.length_set]; exact hz) s.toks
 by_cases h0:0 ≤ k
 ·have hk:k.toNat = j:=by
   rw [seqIndex_of h0 h4] at h1
   exact Option.some.inj h1
  exact PySem.W.ki_setAt ho h0 (by omega) (by rw [List.size_toArray,← hl]; exact h4) (by rw [hk]; exact ⟨_,I',q⟩)
 ·have hk:(k + (its.toArray.size:Int)).toNat = j:=by
   rw [seqIndex_neg (by omega) h3] at h1
   rw [List.size_toArray,← hl]
   exact Option.some.inj h1
  exact PySem.W.ki_setBack ho (by omega) (by rw [List.size_toArray,← hl]; exact h3) (by omega) (by rw [hk]; exact ⟨_,I',q⟩)
theorem zd7 (lo hi:Option Int) (n:Nat):(sliceBounds lo hi none n).1 = ((HT.sIx n 0 lo:Nat):Int)∧(sliceBounds lo hi none n).2.1 = ((HT.sIx n n hi:Nat):Int)∧(sliceBounds lo hi none n).2.2 = 1:=by
 refine ⟨?_,?_,rfl⟩
 ·cases lo with
  | none=>simp [sliceBounds,HT.sIx]
  | some i =>
   simp only [sliceBounds,HT.sIx,Option.getD_none,show (1:Int) > 0 by decide,if_true]
   by_cases h:i < 0
   ·simp only [h,if_true] <;> omega
   ·simp only [h,if_false] <;> omega
 ·cases hi with
  | none=>simp [sliceBounds,HT.sIx]
  | some i =>
   simp only [sliceBounds,HT.sIx,Option.getD_none,show (1:Int) > 0 by decide,if_true]
   by_cases h:i < 0
   ·simp only [h,if_true] <;> omega
   ·simp only [h,if_false] <;> omega
theorem zdF (its:List Value) (lo hi:Option Int):slicePick its.toArray lo hi none = ((its.drop (HT.sIx its.length 0 lo)).take (HT.sIx its.length its.length hi - HT.sIx its.length 0 lo)).toArray:=by
 obtain ⟨h1,h2,h3⟩:=zd7 lo hi its.toArray.size
 unfold slicePick
 rw [h1,h2,h3]
 simp only [sliceRange_one,pick_run,List.size_toArray] <;> rfl
noncomputable def rSlL (K:PySem.W.Frag):V->Option Int->Option Int->Hp->VK->Prop:=fun x lo hi H Q=>∃ a xs,x = .ref a∧SqL K H a xs∧∀ p,H p = none->Q (.ref p) (upd H p (.lst (cutV xs lo hi)))
theorem sl_list:SlR X (rSlL X.K):=by
 intro pins s σ H x v vl vu lo hi sl Q I rx hs pl pu h
 obtain ⟨a,xs,rfl,hx,q⟩:=h
 cases rx
 obtain ⟨its,r,ht,hz⟩:=I.list hx
 have hlen:=r.length
 refine ⟨"list",_,slot_list_getitem.lookup,ht.isList.typeIs,?_⟩
 refine wpAny_getItem_list_slice ht.isList hs pl pu .none (by simp) ?_ (by rw [List.size_toArray] <;> omega)
 rw [zdF,← hlen]
 refine ⟨.ref s.heap.objs.size,_,I.laid (t':=s.toks) (o:=.lst (cutV xs lo hi)) (fun b ob q=>Heap.get?_push_of_some _ q) (Nat.le_refl _) ?_,rfl,q _ (I.hok.fresh (Nat.le_refl _))⟩
 exact ⟨Nat.le_trans (zcH xs lo hi) hz,_,0,(r.drop (HT.sIx xs.length 0 lo)).take (HT.sIx xs.length xs.length hi - HT.sIx xs.length 0 lo),Heap.get?_push_size _ rfl⟩
noncomputable def flatV:V->Bool
 | .non=>true
 | .bl _=>true
 | .int _=>true
 | .str _=>true
 | _=>false
noncomputable def eqV:V->V->Bool
 | .non,.non=>true
 | .bl a,.bl b=>a == b
 | .bl a,.int b=>(if a then 1 else 0) == b
 | .int a,.bl b=>a == (if b then 1 else 0)
 | .int a,.int b=>a == b
 | .str a,.str b=>a == b
 | _,_=>false
theorem zhx {A:Around} {s:Shared} {y x:V} {u v:Value} (ry:RelV y u) (rx:RelV x v) (fy:flatV y = true) (fx:flatV x = true):SeqAt.EqAt A s u v (eqV y x):=by
 cases y with
 | non =>
  cases ry
  cases x with
  | non=>cases rx; exact SeqAt.EqAt.same _
  | bl b=>cases rx; exact SeqAt.EqAt.none_bool b
  | int b=>obtain ⟨t,rfl⟩:=rx; exact SeqAt.EqAt.none_int b t
  | str b=>obtain ⟨t,rfl⟩:=rx; exact SeqAt.EqAt.none_str b t
  | _=>exact absurd (show false = true from fx) Bool.false_ne_true
 | bl a =>
  cases ry
  cases x with
  | non=>cases rx; exact SeqAt.EqAt.bool_none a
  | bl b=>cases rx; exact SeqAt.EqAt.bool_bool a b
  | int b=>obtain ⟨t,rfl⟩:=rx; exact SeqAt.EqAt.bool_int a b t
  | str b=>obtain ⟨t,rfl⟩:=rx; exact SeqAt.EqAt.bool_str a b t
  | _=>exact absurd (show false = true from fx) Bool.false_ne_true
 | int a =>
  obtain ⟨t',rfl⟩:=ry
  cases x with
  | non=>cases rx; exact SeqAt.EqAt.int_none a t'
  | bl b=>cases rx; exact SeqAt.EqAt.int_bool a t' b
  | int b=>obtain ⟨t,rfl⟩:=rx; exact SeqAt.EqAt.int_int a t' b t
  | str b=>obtain ⟨t,rfl⟩:=rx; exact SeqAt.EqAt.int_str a t' b t
  | _=>exact absurd (show false = true from fx) Bool.false_ne_true
 | str a =>
  obtain ⟨t',rfl⟩:=ry
  cases x with
  | non=>cases rx; exact SeqAt.EqAt.str_none a t'
  | bl b=>cases rx; exact SeqAt.EqAt.str_bool a t' b
  | int b=>obtain ⟨t,rfl⟩:=rx; exact SeqAt.EqAt.str_int a t' b t
  | str b=>obtain ⟨t,rfl⟩:=rx; exact SeqAt.EqAt.str_str a t' b t
  | _=>exact absurd (show false = true from fx) Bool.false_ne_true
 | _=>exact absurd (show false = true from fy) Bool.false_ne_true
noncomputable def eqU (x:V) (u:Value):Bool:=match u with
 | .none=>eqV .non x
 | .bool b=>eqV (.bl b) x
 | .int i _=>eqV (.int i) x
 | .str z _=>eqV (.str z) x
 | _=>false
theorem zho {x y:V} {u:Value} (r:RelV y u) (f:flatV y = true):eqU x u = eqV y x:=by
 cases y with
 | non=>cases r; rfl
 | bl b=>cases r; rfl
 | int i=>obtain ⟨t,rfl⟩:=r; rfl
 | str z=>obtain ⟨t,rfl⟩:=r; rfl
 | _=>exact absurd (show false = true from f) Bool.false_ne_true
theorem zcL {x:V}:∀ {xs:List V} {us:List Value},Vals xs us->xs.all flatV = true->us.any (eqU x) = xs.any fun y=>eqV y x
 | _,_,.nil,_=>rfl
 | y :: xs,u :: us,.cons r t,f=>by
  rw [List.all_cons,Bool.and_eq_true] at f
  rw [List.any_cons,List.any_cons,zho r f.1,zcL t f.2]
theorem zbW {A:Around} {s:Shared} {x:V} {v:Value} (rx:RelV x v) (fx:flatV x = true):∀ {xs:List V} {us:List Value},Vals xs us->xs.all flatV = true->∀ u ∈ us,SeqAt.EqAt A s u v (eqU x u)
 | _,_,.nil,_=>fun u hu=>by cases hu
 | y :: xs,u :: us,.cons r t,f=>fun u' hu=>by
  rw [List.all_cons,Bool.and_eq_true] at f
  rcases List.mem_cons.mp hu with rfl | hu
  ·rw [zho r f.1]; exact zhx r rx f.1 fx
  ·exact zbW rx fx t f.2 u' hu
noncomputable def inV (x:V) (xs:List V):Bool:=xs.any fun y=>eqV y x
noncomputable def rIn (K:PySem.W.Frag) (neg:Bool):R2:=fun x y H Q=>∃ p xs,y = .ref p∧(SqL K H p xs ∨ SqT K H p xs)∧flatV x = true∧xs.all flatV = true∧Q (.bl (if neg then !inV x xs else inV x xs)) H
theorem op_in_seq:OpR X (compareOp .In) (rIn X.K false):=by
 intro pins s σ H x y v u Q I rx ry h
 obtain ⟨p,xs,rfl,hq,fx,fs,q⟩:=h
 cases ry
 rcases hq with hq | hq
 ·obtain ⟨its,r,pl,hz⟩:=I.list hq
  refine SeqAt.in_listAt (eqU x) pl.isList (fun w hw=>zbW rx fx r fs w (by simpa using hw)) ⟨.bl _,H,I,rfl,?_⟩
  rw [show its.toArray.any (eqU x) = its.any (eqU x) by simp,zcL r fs]
  exact q
 ·obtain ⟨its,r,pl,hz⟩:=I.tuple hq
  refine SeqAt.in_tupleAt (eqU x) pl (fun w hw=>zbW rx fx r fs w (by simpa using hw)) ⟨.bl _,H,I,rfl,?_⟩
  rw [show its.toArray.any (eqU x) = its.any (eqU x) by simp,zcL r fs]
  exact q
theorem op_notIn_seq:OpR X (compareOp .NotIn) (rIn X.K true):=by
 intro pins s σ H x y v u Q I rx ry h
 obtain ⟨p,xs,rfl,hq,fx,fs,q⟩:=h
 cases ry
 rcases hq with hq | hq
 ·obtain ⟨its,r,pl,hz⟩:=I.list hq
  refine SeqAt.notIn_listAt (eqU x) pl.isList (fun w hw=>zbW rx fx r fs w (by simpa using hw)) ⟨.bl _,H,I,rfl,?_⟩
  rw [show its.toArray.any (eqU x) = its.any (eqU x) by simp,zcL r fs]
  exact q
 ·obtain ⟨its,r,pl,hz⟩:=I.tuple hq
  refine SeqAt.notIn_tupleAt (eqU x) pl (fun w hw=>zbW rx fx r fs w (by simpa using hw)) ⟨.bl _,H,I,rfl,?_⟩
  rw [show its.toArray.any (eqU x) = its.any (eqU x) by simp,zcL r fs]
  exact q
theorem call_list_of:zbt X (.type "list") (fun xs H Q=>∃ p ys,xs = [.ref p]∧(SqL X.K H p ys ∨ SqT X.K H p ys)∧∀ l,H l = none->Q (.ref l) (upd H l (.lst ys))):=by
 intro pins s σ H xs us Q I r h
 obtain ⟨p,ys,rfl,hq,q⟩:=h
 obtain ⟨u,rfl,rx⟩:=zcn r
 cases rx
 have fin:∀ (its:List Value),Vals ys its->ys.length ≤ sizeLine->∀ (h':Heap) (c':Nat),(∀ b o',s.heap.get? b = some o'->h'.get? b = some o') ->
   h'.get? s.heap.objs.size = some { cls:=.type "list",dict:=none,data:=.seq its.toArray c',slots:=#[] }->EP X pins σ Q (.ref s.heap.objs.size) { s with heap:=h' }:=fun its r' hz h' c' kp e =>
  ⟨.ref s.heap.objs.size,_,I.laid (t':=s.toks) kp (Nat.le_refl _) (show zaU X.prog X.w _ h' _ (.lst ys) from ⟨hz,its,c',r',e⟩),rfl,q _ (I.hok.fresh (Nat.le_refl _))⟩
 rcases hq with hq | hq
 ·obtain ⟨its,r',pl,hz⟩:=I.list hq
  have hlen:=r'.length
  obtain ⟨o,ho,hc,n,hd⟩:=pl.isList
  exact call_list_seq p (.inl rfl) ho hc hd (fun h' c' kp e=>fin its r' hz h' c' kp e) (by simp only [List.size_toArray] <;> omega)
 ·obtain ⟨its,r',pl,hz⟩:=I.tuple hq
  have hlen:=r'.length
  obtain ⟨o,ho,hc,n,hd⟩:=pl
  exact call_list_seq p (.inr rfl) ho hc hd (fun h' c' kp e=>fin its r' hz h' c' kp e) (by simp only [List.size_toArray] <;> omega)
theorem call_tuple_of:zbt X (.type "tuple") (fun xs H Q=>∃ p ys,xs = [.ref p]∧((SqL X.K H p ys∧∀ l,H l = none->Q (.ref l) (upd H l (.tup ys))) ∨ (SqT X.K H p ys∧Q (.ref p) H))):=by
 intro pins s σ H xs us Q I r h
 obtain ⟨p,ys,rfl,h⟩:=h
 obtain ⟨u,rfl,rx⟩:=zcn r
 cases rx
 rcases h with ⟨hq,q⟩ | ⟨hq,q⟩
 ·obtain ⟨its,r',pl,hz⟩:=I.list hq
  have hlen:=r'.length
  refine call_tuple_list pl.isList (fun h' kp=>?_) (by simp only [List.size_toArray] <;> omega)
  have I1:Inv X pins σ H { s with heap:=h' }:=I.kept (t':=s.toks) kp
  have I2:Inv X pins σ (upd H h'.objs.size (.tup ys)) { s with heap:=h'.push { cls:=.type "tuple",data:=.seq its.toArray } } :=
   I1.laid (t':=s.toks) (fun b o e=>Heap.get?_push_of_some _ e) (Nat.le_refl _) (show zaU X.prog X.w _ _ _ (.tup ys) from ⟨hz,its,r',IsTup.new _ _⟩)
  exact ⟨.ref h'.objs.size,_,I2,rfl,q _ (I1.hok.fresh (Nat.le_refl _))⟩
 ·obtain ⟨its,r',pl,hz⟩:=I.tuple hq
  exact call_tuple_same pl ⟨.ref p,H,I,rfl,q⟩
noncomputable def tyV (K:PySem.W.Frag) (T:String) (x:V) (H:Hp):Prop:=match x with
 | .str _=>T = "str"
 | .int _=>T = "int"
 | .ref p=>(T = "list"∧∃ xs,SqL K H p xs) ∨ (T = "tuple"∧∃ o,K.lookup p = some o∧o.cls = .type "tuple"∧o.dict = none) ∨
   (T = "dict"∧((∃ kvs,H p = some (.dK kvs)) ∨ ∃ kvs,H p = some (.dT kvs))) ∨ (T = "set"∧∃ S n,H p = some (.set S n))
 | _=>False
theorem zht {pins:List (Addr × Obj)} {σ:St} {H:Hp} {s:Shared} {T:String} {x:V} {v:Value} (I:Inv X pins σ H s) (r:RelV x v) (ty:tyV X.K T x H) :
  s.TypeIs v T∧∀ a,v = .ref a->∃ ob,s.heap.get? a = some ob∧ob.dict = none:=by
 cases x with
 | str z =>
  obtain ⟨t,rfl⟩:=r
  cases (show T = "str" from ty)
  exact ⟨typeIs_str s z t,fun _ e=>nomatch e⟩
 | int i =>
  obtain ⟨t,rfl⟩:=r
  cases (show T = "int" from ty)
  exact ⟨typeIs_int s i t,fun _ e=>nomatch e⟩
 | ref p =>
  cases r
  rcases ty with ⟨rfl,xs,hq⟩ | ⟨rfl,o,hk,hc,hd⟩ | ⟨rfl,hk⟩ | ⟨rfl,S,n,hk⟩
  ·obtain ⟨its,_,pl,_⟩:=I.list hq
   refine ⟨pl.isList.typeIs,fun a e=>?_⟩
   cases e
   obtain ⟨o,n,e,c,hd,_⟩:=pl
   exact ⟨o,e,hd⟩
  ·refine ⟨⟨o,I.kIn p o hk,hc⟩,fun a e=>?_⟩
   cases e
   exact ⟨o,I.kIn _ o hk,hd⟩
  ·have z:∃ o,s.heap.get? p = some o∧o.ExactDict:=by
    rcases hk with ⟨kvs,hk⟩ | ⟨kvs,hk⟩
    ·obtain ⟨_,_,_,_,o,_,_,e,ex,_⟩:=I.hok p _ hk
     exact ⟨o,e,ex⟩
    ·obtain ⟨_,_,_,_,o,_,_,e,ex,_⟩:=I.hok p _ hk
     exact ⟨o,e,ex⟩
   obtain ⟨o,e,ex⟩:=z
   refine ⟨⟨o,e,ex.1⟩,fun a e2=>?_⟩
   cases e2
   exact ⟨o,e,ex.2.1⟩
  ·obtain ⟨o,_,_,_,e,ex,_⟩:=I.hok p _ hk
   refine ⟨⟨o,e,ex.1⟩,fun a e2=>?_⟩
   cases e2
   exact ⟨o,e,ex.2.1⟩
 | _=>exact False.elim ty
noncomputable def tBM0 (K:PySem.W.Frag) (T:String) (r:V->List V->Hp->VK->Prop) (to:TE):TE:=fun σ H Q=>to σ H fun x H1=>tyV K T x H1∧r x [] H1 Q
noncomputable def tBM (K:PySem.W.Frag) (T:String) (r:V->List V->Hp->VK->Prop) (to:TE) (t:TA):TE:=fun σ H Q=>to σ H fun x H1=>tyV K T x H1∧t σ H1 fun xs H2=>r x xs H2 Q
variable {o e:Expr} {es:List Expr} {to:TE} {t:TA} {name:Str} {apos cpos:Pos} {T id:String} {r:V->List V->Hp->VK->Prop}
theorem zf1 (pa:PlainAttrs T) (slot:Slot T name id) (hty:typeOf (.builtin id) = pure (.type "method_descriptor")) (hm:MtR X id r) (ho:PE X o to)
  (hbase:attributeBase o name X.env (eval o X.env) = eval o X.env:=by rfl) (hline:(apos.endLine == cpos.line) = true:=by rfl):PE X (.Call (.Attribute o name apos) [] [] cpos) (tBM0 X.K T r to):=by
 intro pins s σ H Q I h
 refine wpAny_Call_method0_late hbase hline (thn (ho pins s σ H _ I h) fun v s1 ⟨x,H1,I1,r1,ty,q1⟩=>?_)
 obtain ⟨h1,h2⟩:=zht I1 r1 ty
 exact ⟨T,id,pa,slot,hty,h1,h2,Calls.callWith_builtin rfl (PySem.evalArgs_none (hm pins s1 σ H1 x [] v [] Q I1 r1 .nil q1))⟩
theorem zct (pa:PlainAttrs T) (slot:Slot T name id) (hty:typeOf (.builtin id) = pure (.type "method_descriptor")) (hm:MtR X id r) (ho:PE X o to) (ha:PA X (e :: es) t)
  (hbase:attributeBase o name X.env (eval o X.env) = eval o X.env:=by rfl)
  (hfew:((backTo cpos (starEach (e :: es) X.env)).all (fun x=>!x.1) && (backToKw cpos (keywordEach [] X.env)).all (fun x=>x.1.isSome)
   && decide ((e :: es).length + ([]:List Keyword).length + (if ([]:List Keyword).isEmpty then 0 else 1) < 30)) = true:=by rfl)
  (hline:(apos.endLine == cpos.line) = true:=by rfl) (hs:starEach (e :: es) X.env = (false,eval e X.env) :: starEach es X.env:=by rfl) (hplain:(backTo cpos (starEach es X.env)).any (·.1) = false:=by rfl) :
  PE X (.Call (.Attribute o name apos) (e :: es) [] cpos) (tBM X.K T r to t):=by
 intro pins s σ H Q I h
 refine wpAny_Call_method_late hbase hfew hline rfl (thn (ho pins s σ H _ I h) fun v s1 ⟨x,H1,I1,r1,ty,q1⟩=>?_)
 obtain ⟨h1,h2⟩:=zht I1 r1 ty
 refine ⟨T,id,pa,slot,hty,h1,h2,?_⟩
 have hA:=ha cpos pins s1 σ H1 _ I1 q1
 rw [hs] at hA ⊢
 refine Calls.callWith_builtin (by show (false || (backTo cpos (starEach es X.env)).any (·.1)) = false; rw [hplain] <;> rfl) (Calls.evalArgs_plain ?_)
 exact thn hA fun us s2 ⟨vs,H2,I2,r2,q2⟩=>hm pins s2 σ H2 x vs v us Q I2 r1 r2 q2
/- xs.append(e),list.index on a module's tuple .. are MtR facts of 06m -/
end
end L2
namespace L2
open PySem PySem.Spec PyProof.Rows
noncomputable def MtM (X:Cx) (id:String) (r:V->List V->Hp->VK->Prop):Prop :=
 ∀ (pins:List (Addr × Obj)) (s:Shared) (σ:St) (H:Hp) (x:V) (xs:List V) (v:Value) (us:List Value) (Q:VK),Inv X pins σ H s->RelV x v->Vals xs us->r x xs H Q ->
  wpAny (model X.prog X.w) X.A (call (.builtin id) (v :: us)) (EP X pins σ Q) X.xe s
theorem Vals.one:∀ {x:V} {us:List Value},Vals [x] us->∃ u,us = [u]∧RelV x u
 | _,_,.cons r .nil=>⟨_,rfl,r⟩
theorem Vals.two:∀ {x y:V} {us:List Value},Vals [x,y] us->∃ u v,us = [u,v]∧RelV x u∧RelV y v
 | _,_,_,.cons r (.cons q .nil)=>⟨_,_,rfl,r,q⟩
theorem Vals.zero:∀ {us:List Value},Vals [] us->us = []
 | _,.nil=>rfl
theorem Vals.dropLast {xs:List V} {us:List Value} (h:Vals xs us):Vals xs.dropLast us.dropLast:=by
 induction h with
 | nil=>exact .nil
 | cons r t ih =>
  cases t with
  | nil=>exact .nil
  | cons q t'=>exact .cons r ih
theorem Vals.rep {xs:List V} {us:List Value} (h:Vals xs us):∀ k:Nat,Vals (List.replicate k xs).flatten (List.replicate k us).flatten
 | 0=>.nil
 | k + 1=>by
  rw [List.replicate_succ,List.replicate_succ,List.flatten_cons,List.flatten_cons]
  exact Vals.append h (Vals.rep h k)
theorem zfw {α:Type} (l:List α):l.eraseIdx (l.length - 1) = l.dropLast:=by
 induction l with
 | nil=>rfl
 | cons a r ih =>
  cases r with
  | nil=>rfl
  | cons b r =>
   have e:(a :: b :: r).length - 1 = ((b :: r).length - 1) + 1:=by
    have h1:(a :: b :: r).length = r.length + 2:=rfl
    have h2:(b :: r).length = r.length + 1:=rfl
    omega
   rw [e,List.eraseIdx_cons_succ,ih]
   all_goals rfl
theorem zdZ (its:List Value):∀ (k:Nat) (acc:List Value),
  List.foldl (fun x1 x2=>x1 ++ x2) acc.toArray (List.replicate k its.toArray) = (acc ++ (List.replicate k its).flatten).toArray
 | 0,acc=>by simp
 | k + 1,acc=>by
  have e:acc.toArray ++ its.toArray = (acc ++ its).toArray:=by simp
  have e2:(acc ++ its) ++ (List.replicate k its).flatten = acc ++ (List.replicate (k + 1) its).flatten:=by
   rw [List.replicate_succ,List.flatten_cons,List.append_assoc]
  rw [← e2,← zdZ its k (acc ++ its),← e,List.replicate_succ,List.foldl_cons]
section
variable {X:Cx} {pins:List (Addr × Obj)} {σ:St} {H:Hp} {s:Shared} {l b:Addr} {xs ys zs:List V}
theorem Inv.lset {its its':List Value} {n:Nat} {f:Array Value->Array Value} {t':Nat} (I:Inv X pins σ H s) (hH:H l = some (.lst xs))
  (e:s.heap.get? l = some { cls:=.type "list",data:=.seq its.toArray n }) (hf:f its.toArray = its'.toArray) (hv:Vals ys its') (hz:ys.length ≤ sizeLine) :
  Inv X pins σ (upd H l (.lst ys)) { s with heap:=s.heap.update l (Obj.mapSeq f),toks:=t' }:=by
 have q:=PySem.IsL.update e f
 rw [hf] at q
 refine I.write (x:=l) (e:=l) (by rw [hH]; exact trivial) (.inl rfl) (fun b' u hb hu=>(Heap.get?_update_other s.heap (Obj.mapSeq f) (Ne.symm hb)).trans hu) ⟨_,q⟩ ?_
 exact ⟨hz,its',_,hv,q⟩
theorem Inv.lnew {its:List Value} {t':Nat} (I:Inv X pins σ H s) (hv:Vals ys its) (hz:ys.length ≤ sizeLine) :
  Inv X pins σ (upd H s.heap.objs.size (.lst ys)) { s with heap:=s.heap.push { cls:=.type "list",data:=.seq its.toArray },toks:=t' } :=
 I.laid (fun _ _ q=>Heap.get?_push_of_some _ q) (Nat.le_refl _) ⟨hz,its,0,hv,Heap.get?_push_size _ rfl⟩
theorem Inv.fresh (I:Inv X pins σ H s):H s.heap.objs.size = none:=I.hok.fresh (Nat.le_refl _)
theorem Inv.lstM (I:Inv X pins σ H s) (hH:H l = some (.lst xs)):xs.length ≤ sizeLine∧∃ (its:List Value) (n:Nat),Vals xs its∧xs.length = its.length∧s.heap.get? l = some { cls:=.type "list",data:=.seq its.toArray n }:=by
 obtain ⟨z,its,n,r,e⟩:=I.hok l _ hH
 exact ⟨z,its,n,r,r.length,e⟩
theorem ze1 {n:Nat} (h:n ≤ sizeLine):Builtin.List.listTooLong n = false:=by
 unfold Builtin.List.listTooLong
 exact decide_eq_false (by omega)
end
section
variable {X:Cx}
noncomputable def rAppend:V->List V->Hp->VK->Prop:=fun x vs H Q=>∃ l xs y,x = .ref l∧vs = [y]∧H l = some (.lst xs)∧xs.length < sizeLine∧Q .non (upd H l (.lst (xs ++ [y])))
theorem mt_append:MtM X "list.append" rAppend:=by
 intro pins s σ H x vs v us Q I rx rv h
 obtain ⟨l,xs,y,rfl,rfl,hH,hz,q⟩:=h
 cases rx
 obtain ⟨u,rfl,ru⟩:=rv.one
 obtain ⟨z,its,n,r,hl,e⟩:=I.lstM hH
 refine call_meets F.slot_list_append ⟨_,e,rfl⟩ F.entry_list_append (F.args_list_append_2 _ _) (PySem.list_append l its.toArray n u (by rw [List.size_toArray]; omega)) ⟨e,?_⟩
 refine ⟨.non,_,I.lset (its':=its ++ [u]) hH e (by simp) (r.append (.cons ru .nil)) ?_,rfl,q⟩
 rw [List.length_append,List.length_singleton]
 omega
noncomputable def rExtend:V->List V->Hp->VK->Prop:=fun x vs H Q=>∃ l b xs zs,x = .ref l∧vs = [.ref b]∧H l = some (.lst xs)∧H b = some (.lst zs)∧xs.length + zs.length ≤ sizeLine∧Q .non (upd H l (.lst (xs ++ zs)))
theorem mt_extend:MtM X "list.extend" rExtend:=by
 intro pins s σ H x vs v us Q I rx rv h
 obtain ⟨l,b,xs,zs,rfl,rfl,hH,hB,hz,q⟩:=h
 cases rx
 obtain ⟨u,rfl,ru⟩:=rv.one
 cases ru
 obtain ⟨z,its,n,r,hl,e⟩:=I.lstM hH
 obtain ⟨z2,its2,n2,r2,hl2,e2⟩:=I.lstM hB
 have hsz:its.toArray.size + its2.toArray.size ≤ sizeLine:=by rw [List.size_toArray,List.size_toArray]; omega
 have hlong:¬ (!its.toArray.isEmpty && Builtin.List.listTooLong (its.toArray.size + its2.toArray.size)) = true:=by
  rw [ze1 hsz,Bool.and_false]
  exact Bool.false_ne_true
 refine call_meets F.slot_list_extend ⟨_,e,rfl⟩ F.entry_list_extend (F.args_list_extend_2 _ _)
  (AutoSeq1.list_extend_list_list_0 l its.toArray n b its2.toArray n2 hlong (by rw [List.size_toArray]; omega) (by omega)) ⟨e,e2,?_⟩
 refine ⟨.non,_,I.lset (its':=its ++ its2) hH e (by simp) (r.append r2) ?_,rfl,q⟩
 rw [List.length_append]
 omega
noncomputable def rPop:V->List V->Hp->VK->Prop:=fun x vs H Q=>∃ l xs y,x = .ref l∧vs = []∧H l = some (.lst xs)∧xs[xs.length - 1]? = some y∧Q y (upd H l (.lst xs.dropLast))
theorem mt_pop:MtM X "list.pop" rPop:=by
 intro pins s σ H x vs v us Q I rx rv h
 obtain ⟨l,xs,y,rfl,rfl,hH,hy,q⟩:=h
 cases rx
 have hus:=rv.zero
 subst hus
 obtain ⟨z,its,n,r,hl,e⟩:=I.lstM hH
 obtain ⟨u,hu,ru⟩:=r.get hy
 have hy':its.toArray[its.toArray.size - 1]? = some u:=by
  show its.toArray[its.length - 1]? = some u
  rw [← Array.getElem?_toList,← hl]
  exact hu
 refine call_meets F.slot_list_pop ⟨_,e,rfl⟩ F.entry_list_pop (F.args_list_pop_1 _) (MeetsSeq.list_pop_last l its.toArray n u hy' (by rw [List.size_toArray]; omega)) ⟨e,?_⟩
 refine ⟨y,_,I.lset (its':=its.dropLast) hH e ?_ r.dropLast ?_,ru,q⟩
 ·show its.toArray.eraseIdxIfInBounds (its.toArray.size - 1) = its.dropLast.toArray
  rw [List.size_toArray,List.eraseIdxIfInBounds_toArray,zfw]
 ·rw [List.length_dropLast]
  omega
noncomputable def rCat:R2:=fun x y H Q=>∃ l b xs zs,x = .ref l∧y = .ref b∧H l = some (.lst xs)∧H b = some (.lst zs)∧xs.length + zs.length ≤ sizeLine∧∀ p,H p = none->Q (.ref p) (upd H p (.lst (xs ++ zs)))
theorem op_cat:OpR X (binaryOp .Add) rCat:=by
 intro pins s σ H x y v u Q I rx ry h
 obtain ⟨l,b,xs,zs,rfl,rfl,hH,hB,hz,q⟩:=h
 cases rx
 cases ry
 obtain ⟨z,its,n,r,hl,e⟩:=I.lstM hH
 obtain ⟨z2,its2,n2,r2,hl2,e2⟩:=I.lstM hB
 refine PySem.P.add_list e e2 ?_ (by rw [List.size_toArray,List.size_toArray]; omega)
 have ea:its.toArray ++ its2.toArray = (its ++ its2).toArray:=by simp
 rw [ea]
 exact ⟨.ref _,_,I.lnew (t':=s.toks) (r.append r2) (by rw [List.length_append]; omega),rfl,q _ I.fresh⟩
noncomputable def rRep:R2:=fun x y H Q=>∃ l k xs,x = .ref l∧y = .int k∧H l = some (.lst xs)∧-(2 ^ 63) ≤ k∧k < 2 ^ 63∧xs.length * k.toNat ≤ sizeLine ∧
 ∀ p,H p = none->Q (.ref p) (upd H p (.lst (List.replicate k.toNat xs).flatten))
theorem zhS {α:Type} (xs:List α) (k:Nat):(List.replicate k xs).flatten.length = k * xs.length:=by
 induction k with
 | zero=>simp
 | succ k ih=>rw [List.replicate_succ,List.flatten_cons,List.length_append,ih,Nat.succ_mul,Nat.add_comm]
theorem op_rep:OpR X (binaryOp .Mult) rRep:=by
 intro pins s σ H x y v u Q I rx ry h
 obtain ⟨l,k,xs,rfl,rfl,hH,h1,h2,hz,q⟩:=h
 cases rx
 obtain ⟨t,rfl⟩:=ry
 obtain ⟨z,its,n,r,hl,e⟩:=I.lstM hH
 have hlen:its.toArray.size * k.toNat ≤ sizeLine:=by rw [List.size_toArray,← hl]; exact hz
 have hcap:¬ its.toArray.size * k.toNat > (2 ^ 63 - 1) / 8:=by
  have:(sizeLine:Nat) ≤ (2 ^ 63 - 1) / 8:=by decide
  omega
 have hfit:¬ (!Builtin.List.listFitsIndex k) = true:=by
  rw [fitsIndex_both h1 h2]
  exact Bool.false_ne_true
 have hlong:¬ Builtin.List.listTooLong (its.toArray.size * k.toNat) = true:=by
  rw [ze1 hlen]
  exact Bool.false_ne_true
 have hnew:List.foldl (fun x1 x2=>x1 ++ x2) #[] (List.replicate (if its.toArray.isEmpty = true then 0 else k.toNat) its.toArray) = (List.replicate k.toNat its).flatten.toArray:=by
  have f0:∀ m:Nat,List.foldl (fun x1 x2=>x1 ++ x2) #[] (List.replicate m its.toArray) = (List.replicate m its).flatten.toArray:=fun m=>by
   have:=zdZ its m []
   rw [List.nil_append] at this
   exact this
  rw [f0]
  cases its with
  | nil=>simp
  | cons a r'=>rw [if_neg (by simp)]
 refine wpAny_binaryOp_repeat_ref (T:="list") (U:="int") (by decide) ⟨_,e,rfl⟩ (fun s'=>typeIs_int s' k t) noFill_list_mul F.fills_int_mul F.slot_int_rmul repeat_list F.slot_int_index.lookup
  (call_meets F.slot_int_rmul (typeIs_int s k t) F.entry_int_rmul (F.args_int_rmul_2 _ _) (int___rmul___int_list k t l its.toArray n)
   ⟨e,rfl,⟨_,e,rfl⟩,call_meets F.slot_list_mul ⟨_,e,rfl⟩ F.entry_list_mul (F.args_list_mul_2 _ _) (AutoListH.list___mul___list_int_3 l its.toArray n k t hfit hcap hlong) ⟨e,?_⟩⟩)
 rw [hnew]
 exact ⟨.ref _,_,I.lnew (t':=s.toks) (r.rep k.toNat) (by rw [zhS,Nat.mul_comm]; exact hz),rfl,q _ I.fresh⟩
end
section
variable {prog:Program} {w:World} {A:Around} {E:Value->Shared->Prop} {s:Shared}
end
section
variable {X:Cx}
end
end L2
namespace L2
open PySem PySem.Spec PyProof.Rows
section
variable {κ:Type} [DecidableEq κ]
noncomputable def valV (kvs:List (κ × V)) (k:κ):Option V:=(kvs.find? fun kv=>decide (kv.1 = k)).map (·.2)
noncomputable def putK (kvs:List (κ × V)) (k:κ) (v:V):List (κ × V) :=
 if (kvs.any fun kv=>decide (kv.1 = k)) = true then kvs.map (fun kv=>if kv.1 = k then (kv.1,v) else kv) else kvs ++ [(k,v)]
theorem zaX {p:κ × V} {r:List (κ × V)} {k:κ} (e:p.1 = k):valV (p :: r) k = some p.2:=by simp [valV,List.find?_cons,e]
theorem zaY {p:κ × V} {r:List (κ × V)} {k:κ} (e:¬ p.1 = k):valV (p :: r) k = valV r k:=by simp [valV,List.find?_cons,e]
theorem zbB (k:κ):∀ kvs:List (κ × V),(kvs.any fun kv=>decide (kv.1 = k)) = (valV kvs k).isSome
 | []=>rfl
 | p :: r=>by
  rw [List.any_cons]
  by_cases e:p.1 = k
  ·simp only [zaX e,decide_eq_true e,Bool.true_or,Option.isSome_some]
  ·rw [zaY e,decide_eq_false e,Bool.false_or]; exact zbB k r
theorem zeH (k j:κ) (y:V):∀ kvs:List (κ × V),valV (kvs.map fun kv=>if kv.1 = k then (kv.1,y) else kv) j = (valV kvs j).map fun x=>if j = k then y else x
 | []=>rfl
 | p :: r=>by
  have ih:=zeH k j y r
  rw [List.map_cons]
  by_cases h:p.1 = k
  ·rw [if_pos h]
   by_cases e:p.1 = j
   ·rw [zaX (p:=(p.1,y)) e,zaX e,Option.map_some,if_pos (e.symm.trans h)]
   ·rw [zaY (p:=(p.1,y)) e,zaY e,ih]
  ·rw [if_neg h]
   by_cases e:p.1 = j
   ·rw [zaX (p:=p) e,zaX e,Option.map_some,if_neg (fun z=>h (e.trans z))]
   ·rw [zaY (p:=p) e,zaY e,ih]
theorem zeb (k j:κ) (y:V):∀ kvs:List (κ × V),valV kvs k = none->valV (kvs ++ [(k,y)]) j = if j = k then some y else valV kvs j
 | [],_=>by
  by_cases e:k = j
  ·rw [if_pos e.symm]; exact zaX (p:=(k,y)) e
  ·rw [if_neg (fun z=>e z.symm)]; exact zaY (p:=(k,y)) e
 | p :: r,hn=>by
  rw [List.cons_append]
  have hk:¬ p.1 = k:=fun z=>by rw [zaX z] at hn; cases hn
  rw [zaY hk] at hn
  have ih:=zeb k j y r hn
  by_cases e:p.1 = j
  ·rw [zaX e,zaX e,if_neg (fun z=>hk (e.trans z))]
  ·rw [zaY e,zaY e,ih]
theorem zeS (kvs:List (κ × V)) (k j:κ) (y:V):valV (putK kvs k y) j = if j = k then some y else valV kvs j:=by
 unfold putK
 by_cases a:(kvs.any fun kv=>decide (kv.1 = k)) = true
 ·rw [if_pos a,zeH]
  rw [zbB] at a
  by_cases e:j = k
  ·obtain ⟨x,hx⟩:=Option.isSome_iff_exists.mp a
   rw [if_pos e,e,hx,Option.map_some,if_pos rfl]
  ·rw [if_neg e]
   cases valV kvs j with
   | none=>rfl
   | some x=>rw [Option.map_some,if_neg e]
 ·rw [if_neg a]
  refine zeb k j y kvs ?_
  rw [zbB] at a
  cases q:valV kvs k with
  | none=>rfl
  | some x=>rw [q] at a; exact (a rfl).elim
theorem zbj (kvs:List (κ × V)) (k:κ) (v:V):(putK kvs k v).length ≤ kvs.length + 1:=by
 unfold putK
 split
 ·rw [List.length_map]; omega
 ·rw [List.length_append,List.length_cons,List.length_nil]; omega
theorem zeJ {kvs:List (κ × V)} {k:κ} (v:V) (h:valV kvs k = none):putK kvs k v = kvs ++ [(k,v)]:=by
 unfold putK
 rw [zbB,h]
 exact if_neg (by decide)
theorem RelO.isSome_eq {o:Option V} {u:Option Value} (r:RelO o u):o.isSome = u.isSome:=by
 cases o with
 | none=>cases u with
  | none=>rfl
  | some _=>exact (show False from r).elim
 | some _=>cases u with
  | none=>exact (show False from r).elim
  | some _=>rfl
theorem RelO.getD {o:Option V} {u:Option Value} {d:V} {d':Value} (r:RelO o u) (rd:RelV d d'):RelV (o.getD d) (u.getD d'):=by
 cases o with
 | none=>cases u with
  | none=>exact rd
  | some _=>exact (show False from r).elim
 | some _=>cases u with
  | none=>exact (show False from r).elim
  | some _=>exact r
theorem KV.val {kvs:List (κ × V)} {vs:List (κ × Value)} (r:KV kvs vs) (k:κ):RelO (valV kvs k) (valueAt vs k):=by
 unfold KV at r
 induction r with
 | nil=>exact True.intro
 | @cons p q ps qs h t ih =>
  obtain ⟨h1,h2⟩:=h
  by_cases e:p.1 = k
  ·have e':q.1 = k:=h1.symm.trans e
   have b:valueAt (q :: qs) k = some q.2:=by simp [valueAt,List.find?_cons,e']
   rw [zaX e,b]; exact h2
  ·have e':¬ q.1 = k:=fun z=>e (h1.trans z)
   have b:valueAt (q :: qs) k = valueAt qs k:=by simp [valueAt,List.find?_cons,e']
   rw [zaY e,b]; exact ih
theorem KV.any {kvs:List (κ × V)} {vs:List (κ × Value)} (r:KV kvs vs) (k:κ):(kvs.any fun kv=>decide (kv.1 = k)) = vs.any fun kv=>decide (kv.1 = k):=by
 unfold KV at r
 induction r with
 | nil=>rfl
 | cons h t ih=>rw [List.any_cons,List.any_cons,ih,h.1]
theorem KV.repl {kvs:List (κ × V)} {vs:List (κ × Value)} (r:KV kvs vs) (k:κ) {y:V} {u:Value} (ry:RelV y u) :
  KV (kvs.map fun kv=>if kv.1 = k then (kv.1,y) else kv) (vs.map fun kv=>if kv.1 = k then (kv.1,u) else kv):=by
 unfold KV at r ⊢
 induction r with
 | nil=>exact .nil
 | @cons p q ps qs h t ih =>
  rw [List.map_cons,List.map_cons]
  refine .cons ?_ ih
  obtain ⟨h1,h2⟩:=h
  by_cases e:p.1 = k
  ·rw [if_pos e,if_pos (h1.symm.trans e)]; exact ⟨h1,ry⟩
  ·rw [if_neg e,if_neg (fun z=>e (h1.trans z))]; exact ⟨h1,h2⟩
theorem KV.put {kvs:List (κ × V)} {vs:List (κ × Value)} (r:KV kvs vs) (k:κ) {y:V} {u:Value} (ry:RelV y u):KV (putK kvs k y) (stored vs k u):=by
 unfold putK stored
 rw [r.any k]
 by_cases e:(vs.any fun kv=>decide (kv.1 = k)) = true
 ·rw [if_pos e,if_pos e]; exact r.repl k ry
 ·rw [if_neg e,if_neg e]; exact Paired.snoc r ⟨rfl,ry⟩
theorem KV.length {kvs:List (κ × V)} {vs:List (κ × Value)} (r:KV kvs vs):kvs.length = vs.length:=Paired.length r
end
theorem zel {P:Program} {w:World} {k:Key} {u:Value} (r:RelV (kV k) u):(zaM P w).is k u = true:=by
 cases k with
 | inl i=>obtain ⟨t,e⟩:=(show ∃ t,u = Value.int i t from r); subst e; exact zew P w i t
 | inr x=>obtain ⟨t,e⟩:=(show ∃ t,u = Value.str x t from r); subst e; exact zek P w x t
theorem kT_is {P:Program} {w:World} {k:KeyT} {u:Value} (r:RelV (kT k) u):(zdz P w).is k u = true:=by
 cases k with
 | some q=>exact zel (P:=P) (w:=w) r
 | none=>obtain rfl:u = Value.none:=r; rfl
theorem zd5 {P:Program} {w:World}:∀ {ks:List KeyT} {us:List Value},Vals (ks.map kT) us->ItemsAre (zdz P w) ks us
 | [],_,r=>by rw [List.map_nil] at r; cases r; exact .nil
 | k :: ks,_,r=>by
  rw [List.map_cons] at r
  cases r with
  | cons h t=>exact .cons (kT_is h) (zd5 t)
abbrev KT (H:Hp):List (List KeyT × V)->List (List KeyT × Addr × Value)->Prop:=Paired fun p q=>p.1 = q.1∧H q.2.1 = some (.tup (p.1.map kT))∧RelV p.2 q.2.2
theorem KT.val {H:Hp} {kvs:List (List KeyT × V)} {xs:List (List KeyT × Addr × Value)} (r:KT H kvs xs) (k:List KeyT):RelO (valV kvs k) ((atKey xs k).map (·.2)):=by
 induction r with
 | nil=>exact True.intro
 | @cons p q ps qs h t ih =>
  obtain ⟨h1,_,h2⟩:=h
  by_cases e:p.1 = k
  ·have e':q.1 = k:=h1.symm.trans e
   have b:atKey (q :: qs) k = some q.2:=by simp [atKey,List.find?_cons,e']
   rw [zaX e,b]; exact h2
  ·have e':¬ q.1 = k:=fun z=>e (h1.trans z)
   have b:atKey (q :: qs) k = atKey qs k:=by simp [atKey,List.find?_cons,e']
   rw [zaY e,b]; exact ih
theorem KT.repl {H:Hp} {kvs:List (List KeyT × V)} {xs:List (List KeyT × Addr × Value)} (r:KT H kvs xs) (k:List KeyT) {y:V} {u:Value} (ry:RelV y u) :
  KT H (kvs.map fun kv=>if kv.1 = k then (kv.1,y) else kv) (xs.map (putAt k u)):=by
 induction r with
 | nil=>exact .nil
 | @cons p q ps qs h t ih =>
  rw [List.map_cons,List.map_cons]
  refine .cons ?_ ih
  obtain ⟨h1,h2,h3⟩:=h
  unfold putAt
  by_cases e:p.1 = k
  ·rw [if_pos e,if_pos (h1.symm.trans e)]; exact ⟨h1,h2,ry⟩
  ·rw [if_neg e,if_neg (fun z=>e (h1.trans z))]; exact ⟨h1,h2,h3⟩
theorem KT.put {H:Hp} {kvs:List (List KeyT × V)} {xs:List (List KeyT × Addr × Value)} (r:KT H kvs xs) (k:List KeyT) {b:Addr} {y:V} {u:Value} (hb:H b = some (.tup (k.map kT))) (ry:RelV y u) :
  KT H (putK kvs k y) (storedH xs k b u):=by
 have e:(kvs.any fun kv=>decide (kv.1 = k)) = (atKey xs k).isSome:=by
  rw [zbB,(r.val k).isSome_eq,Option.isSome_map]
 unfold putK storedH
 rw [e]
 by_cases q:(atKey xs k).isSome = true
 ·rw [if_pos q,if_pos q]; exact r.repl k ry
 ·rw [if_neg q,if_neg q]; exact Paired.snoc r ⟨rfl,hb,ry⟩
theorem KT.keeps {H H':Hp} {kvs:List (List KeyT × V)} {xs:List (List KeyT × Addr × Value)} (r:KT H kvs xs) (ht:∀ b ys,H b = some (.tup ys)->H' b = some (.tup ys)):KT H' kvs xs :=
 Paired.mapP r fun _ _ z=>⟨z.1,ht _ _ z.2.1,z.2.2⟩
section
variable {P:Program} {w:World} {H:Hp} {h:Heap} {a:Addr}
theorem ziT {u:HO} (ok:HOk P w H h) (e:Rd H a u):zaU P w H h a u:=e.ok ok
theorem zef {kvs:List (Key × V)} (ok:HOk P w H h) (e:Rd H a (.dK kvs)):kvs.length ≤ sizeLine∧(a == sysModules) = false∧∃ vs,KV kvs vs∧h.DictOf (zaM P w) a vs :=
 show zaU P w H h a (.dK kvs) from ziT ok e
theorem zg9 {kvs:List (Key × V)} (ok:HOk P w H h) (e:H a = some (.dK kvs)):kvs.length ≤ sizeLine∧(a == sysModules) = false∧∃ vs,KV kvs vs∧h.DictOf (zaM P w) a vs:=zef ok (.inl e)
theorem zc3 {ks:List KeyT} (ok:HOk P w H h) (e:H a = some (.tup (ks.map kT))):(tupleKind (zdz P w)).is h ks a:=by
 obtain ⟨_,its,r,o,h1,h2,n,h3⟩:=(show zaU P w H h a (.tup (ks.map kT)) from ok a _ e)
 exact ⟨o,its.toArray,n,h1,h2,h3,by simpa using zd5 r⟩
theorem zej {kvs:List (List KeyT × V)} (ok:HOk P w H h) (e:Rd H a (.dT kvs)):kvs.length ≤ sizeLine∧(a == sysModules) = false ∧
  ∃ xs,KT H kvs xs∧h.DictOfH (tupleKind (zdz P w)) a xs:=by
 obtain ⟨z,y,xs,r,o,es,ep,h1,h2,h3,h4,h5⟩:=(show zaU P w H h a (.dT kvs) from ziT ok e)
 refine ⟨z,y,xs,r,o,es,ep,h1,h2,h3,h4,fun x hx=>?_,h5⟩
 have all:∀ {l:List (List KeyT × V)} {m:List (List KeyT × Addr × Value)},KT H l m->∀ x ∈ m,(tupleKind (zdz P w)).is h x.1 x.2.1:=by
  intro l m q
  induction q with
  | nil=>intro x hx; exact nomatch hx
  | @cons p q ps qs hq t ih =>
   intro x hx
   rcases List.mem_cons.mp hx with e | hx
   ·subst e
    exact zc3 ok (by rw [← hq.1]; exact hq.2.1)
   ·exact ih x hx
 exact all r x hx
theorem dt_of {kvs:List (List KeyT × V)} (ok:HOk P w H h) (e:H a = some (.dT kvs)):kvs.length ≤ sizeLine∧(a == sysModules) = false ∧
  ∃ xs,KT H kvs xs∧h.DictOfH (tupleKind (zdz P w)) a xs:=zej ok (.inl e)
end
noncomputable def DGet (H:Hp) (a:Addr) (y:V) (r:Option V):Prop :=
 (∃ kvs k,Rd H a (.dK kvs)∧y = kV k∧r = valV kvs k) ∨ ∃ kvs k b,Rd H a (.dT kvs)∧y = .ref b∧H b = some (.tup (k.map kT))∧r = valV kvs k
noncomputable def DPut (H:Hp) (a:Addr) (y v:V) (H':Hp):Prop :=
 (∃ kvs k,H a = some (.dK kvs)∧y = kV k∧kvs.length < sizeLine∧H' = upd H a (.dK (putK kvs k v))) ∨
 ∃ kvs k b,H a = some (.dT kvs)∧y = .ref b∧H b = some (.tup (k.map kT))∧kvs.length < sizeLine∧H' = upd H a (.dT (putK kvs k v))
theorem DGet.k {H:Hp} {a:Addr} {kvs:List (Key × V)} {k:Key} (e:H a = some (.dK kvs)):DGet H a (kV k) (valV kvs k):=.inl ⟨kvs,k,.inl e,rfl,rfl⟩
theorem DGet.t {H:Hp} {a b:Addr} {kvs:List (List KeyT × V)} {k:List KeyT} (e:H a = some (.dT kvs)) (eb:H b = some (.tup (k.map kT))):DGet H a (.ref b) (valV kvs k):=.inr ⟨kvs,k,b,.inl e,rfl,eb,rfl⟩
theorem DPut.k {H:Hp} {a:Addr} {kvs:List (Key × V)} {k:Key} {v:V} (e:H a = some (.dK kvs)) (hl:kvs.length < sizeLine):DPut H a (kV k) v (upd H a (.dK (putK kvs k v))):=.inl ⟨kvs,k,e,rfl,hl,rfl⟩
theorem DPut.t {H:Hp} {a b:Addr} {kvs:List (List KeyT × V)} {k:List KeyT} {v:V} (e:H a = some (.dT kvs)) (eb:H b = some (.tup (k.map kT))) (hl:kvs.length < sizeLine) :
  DPut H a (.ref b) v (upd H a (.dT (putK kvs k v))):=.inr ⟨kvs,k,b,e,rfl,eb,hl,rfl⟩
section
variable {X:Cx} {pins:List (Addr × Obj)} {σ:St} {H:Hp} {s:Shared} {a:Addr} {y v:V} {u r:Value} {o:Option V} {A:Around} {E:Value->Shared->Prop}
theorem Inv.big (I:Inv X pins σ H s):sysModules < s.heap.objs.size:=by
 have h:mainGlobals < s.heap.objs.size:=(I.mod.glob.keeps I.bk).lt
 exact Nat.lt_trans (by decide) h
theorem zfC {Q:Value->Shared->Prop} (hu:A.units + 1 < cLine) (I:Inv X pins σ H s) (g:DGet H a y (some v)) (ry:RelV y u) (h:∀ w' s',Inv X pins σ H s'->RelV v w'->Q w' s') :
  wpAny (model X.prog X.w) A (getItem (.ref a) u) Q E s:=by
 rcases g with ⟨kvs,k,e,ey,l⟩ | ⟨kvs,k,b,e,ey,eb,l⟩
 ·subst ey
  obtain ⟨z,hd,vs,rel,dd⟩:=zef I.hok e
  obtain ⟨w',hw,rw'⟩:=RelO.some_of (v:=v) (o:=valueAt vs k) (by rw [l]; exact rel.val k)
  exact wpAny_getItem_of (zel ry) dd.mapOf hw (h w' _ (I.tok _) rw')
 ·subst ey
  cases (show u = Value.ref b from ry)
  obtain ⟨z,hd,xs,rel,dd⟩:=zej I.hok e
  obtain ⟨w',hw,rw'⟩:=RelO.some_of (v:=v) (o:=(atKey xs k).map (·.2)) (by rw [l]; exact rel.val k)
  obtain ⟨p,hp,hp2⟩:=Option.map_eq_some_iff.mp hw
  refine wpAny_getItem_heap (tupleKind_room_in1 hu) (zc3 I.hok eb) dd hp ?_
  rw [hp2]
  exact h w' _ (I.tok _) rw'
theorem zfE {Q:Value->Shared->Prop} (hu:A.units + 1 < cLine) (I:Inv X pins σ H s) (g:DGet H a y o) (ry:RelV y u) (h:∀ s',Inv X pins σ H s'->Q (.bool (!o.isSome)) s') :
  wpAny (model X.prog X.w) A (compareOp .NotIn u (.ref a)) Q E s:=by
 rcases g with ⟨kvs,k,e,ey,l⟩ | ⟨kvs,k,b,e,ey,eb,l⟩
 ·subst ey
  obtain ⟨z,hd,vs,rel,dd⟩:=zef I.hok e
  refine wpAny_notIn_of (zel ry) hd dd.mapOf ?_
  rw [← (rel.val k).isSome_eq,← l]
  exact h _ (I.tok _)
 ·subst ey
  cases (show u = Value.ref b from ry)
  obtain ⟨z,hd,xs,rel,dd⟩:=zej I.hok e
  refine wpAny_notIn_heap (tupleKind_room_in1 hu) (zc3 I.hok eb) hd dd ?_
  have q:=(rel.val k).isSome_eq
  rw [Option.isSome_map] at q
  rw [← q,← l]
  exact h _ (I.tok _)
theorem zdx {h':Heap} {t':Nat} {ob:HO} (I:Inv X pins σ H s) (mu:Mut (H a)) (hs:Heap.SameBut a s.heap h') (he:∃ q,h'.get? a = some q) (new:zaU X.prog X.w (upd H a ob) h' a ob) :
  Inv X pins σ (upd H a ob) { s with heap:=h',toks:=t' } :=
 I.write (x:=a) (e:=a) mu (.inl rfl) (fun b q hb z=>(hs.2 b hb).trans z) he new
theorem zgm {P:Program} {w:World} {H':Hp} {h':Heap} {kvs:List (Key × V)} {vs:List (Key × Value)} (z:kvs.length ≤ sizeLine) (hd:(a == sysModules) = false) (rel:KV kvs vs) (dd:h'.DictOf (zaM P w) a vs) :
  zaU P w H' h' a (.dK kvs):=⟨z,hd,vs,rel,dd⟩
theorem zea {H':Hp} {Q:Unit->Shared->Prop} (hu:A.units + 1 < cLine) (I:Inv X pins σ H s) (g:DPut H a y v H') (ry:RelV y u) (rv:RelV v r) (h:∀ s',Inv X pins σ H' s'->Q () s') :
  wpAny (model X.prog X.w) A (setItem (.ref a) u r) Q E s:=by
 rcases g with ⟨kvs,k,e,ey,l,eH⟩ | ⟨kvs,k,b,e,ey,eb,l,eH⟩
 ·subst ey eH
  obtain ⟨z,hd,vs,rel,dd⟩:=zg9 I.hok e
  have hz:vs.length ≤ sizeLine:=by rw [← rel.length]; exact z
  have hl:(putK kvs k v).length ≤ sizeLine:=by have:=zbj kvs k v; omega
  refine wpAny_setItem_pairs (hsz:=hz) (zel ry) dd fun h' dd' hs=>h _ ?_
  have he:∃ q,h'.get? a = some q:=let ⟨q,_,_,hq,_⟩:=dd'; ⟨q,hq⟩
  exact zdx I (by rw [e]; exact True.intro) hs he (zgm hl hd (rel.put k rv) dd')
 ·subst ey eH
  cases (show u = Value.ref b from ry)
  obtain ⟨z,hd,xs,rel,dd⟩:=dt_of I.hok e
  have hz:xs.length ≤ sizeLine:=by rw [← Paired.length rel]; exact z
  have hl:(putK kvs k v).length ≤ sizeLine:=by have:=zbj kvs k v; omega
  refine wpAny_setItem_heap (hsz:=hz) (tupleKind_room_in1 hu) (zc3 I.hok eb) dd fun h' dd' hs=>h _ ?_
  obtain ⟨q,es,ep,hq,h2,h3,h4,_,h5⟩:=dd'
  refine zdx I (by rw [e]; exact True.intro) hs ⟨q,hq⟩ ⟨hl,hd,_,(rel.put k eb rv).keeps fun c ys ec=>?_,q,es,ep,hq,h2,h3,h4,h5⟩
  rw [zaj (zhV ec e (fun z=>nomatch z))]
  exact ec
end
section
variable {X:Cx} {pins:List (Addr × Obj)} {σ:St} {H:Hp} {s:Shared} {a:Addr} {kvs:List (Key × V)} {k:Key} {u:Value} {A:Around} {E:Value->Shared->Prop}
end
noncomputable def NoSl (i:Expr):Prop:=∀ ov iv,subscripted i false ov iv = operate [ov,iv] (getItem ov iv)
theorem zgk {prog:Program} {w:World} {A:Around} {E:Value->Shared->Prop} {s:Shared} {env:Env} {value slice:Expr} {pos:Pos} {T id:String} {Q:Value->Shared->Prop}
  (hl:typeLookup (.type T) "__getitem__" = pure (some (.builtin id))) (hs:NoSl slice)
  (h:wpAny (model prog w) A (eval value env) (fun o s₁=>wpAny (model prog w) A (eval slice env) (fun i s₂=>s₂.TypeIs o T∧wpAny (model prog w) A (getItem o i) Q E s₂) E s₁) E s) :
  wpAny (model prog w) A (eval (.Subscript value slice pos) env) Q E s:=by
 refine Subscript_ (wpAny_mono h (fun o s₁ h₁=>wpAny_mono h₁ (fun i s₂ h₂=>?_) fun _ _ x=>x) fun _ _ x=>x)
 obtain ⟨hT,h₂⟩:=h₂
 unfold subscriptTail
 refine wpAny_bind ?_
 rw [getitemInPython_of_ne hT.not_modules]
 refine wpAny_bind (wpAny_specialOf hT hl ?_)
 have fin:wpAny (model prog w) A (subscripted slice false o i) (fun r s₃=>wpAny (model prog w) A (letTemporaryGo value o r >>= fun _=>pure r) Q E s₃) E s₂:=by
  rw [hs o i]
  exact wpAny_operating (wpAny_mono h₂ (fun r s₃ h₃=>wpAny_bind (wpAny_letTemporaryGo (wpAny_pure h₃))) fun _ _ x=>x)
 first
  | exact wpAny_pure (wpAny_bind fin)
  | exact wpAny_bind (wpAny_pure (wpAny_bind fin))
  | exact wpAny_bind fin
theorem zez {X:Cx} {pins:List (Addr × Obj)} {σ:St} {H:Hp} {s:Shared} {a:Addr} {y:V} {o:Option V} (I:Inv X pins σ H s) (g:DGet H a y o):s.TypeIs (.ref a) "dict":=by
 rcases g with ⟨kvs,k,e,_,_⟩ | ⟨kvs,k,b,e,_,_,_⟩
 ·obtain ⟨_,_,vs,_,dd⟩:=zef I.hok e
  exact dd.typeIs
 ·obtain ⟨_,_,xs,_,dd⟩:=zej I.hok e
  exact dd.typeIs
noncomputable def zfW (ty td:TE):TE:=fun σ H Q=>ty σ H fun y H1=>td σ H1 fun x H2=>∃ a o,x = .ref a∧DGet H2 a y o∧Q (.bl (!o.isSome)) H2
noncomputable def ziD (td ty tv:TE):TS:=fun D σ H=>tv σ H fun v H1=>td σ H1 fun x H2=>ty σ H2 fun y H3=>∃ a H4,x = .ref a∧DPut H3 a y v H4∧D.nx σ H4
section
variable {X:Cx} {o i e value:Expr} {pos pos' tpos:Pos} {td ty tv:TE}
theorem zfJ (hu:X.A.units + 1 < cLine) (hi:PE X i ty) (ho:PE X o td):PC X .NotIn i o (zfW ty td):=by
 intro pins s σ H Q I h
 refine thn (hi pins s σ H _ I h) fun iv s1 ⟨y,H1,I1,ry,q1⟩=>thn (ho pins s1 σ H1 _ I1 q1) fun u s2 ⟨x,H2,I2,rx,a,ov,ex,g,q2⟩=>?_
 subst ex
 obtain rfl:u = Value.ref a:=rx
 exact zfE hu I2 g ry fun s3 I3=>⟨.bl (!ov.isSome),H2,I3,rfl,q2⟩
theorem zhO (hu:X.A.units + 1 < cLine) (ho:PE X o td) (hi:PE X i ty) (hv:PE X value tv) (hs:swapsWith value (some (.Subscript o i pos')) pos.line X.env = pure false) :
  PS X (.Assign [.Subscript o i pos'] value pos) (ziD td ty tv):=by
 intro pins s σ H D I h
 refine wpAny_Assign_Subscript (thn (hv pins s σ H _ I h) fun r s1 ⟨v,H1,I1,rv,q1⟩=>thn (ho pins s1 σ H1 _ I1 q1) fun u s2 ⟨x,H2,I2,rx,q2⟩=>thn (hi pins s2 σ H2 _ I2 q2) fun iv s3 ⟨y,H3,I3,ry,a,H4,ex,g,q3⟩=>?_) hs
 subst ex
 obtain rfl:u = Value.ref a:=rx
 exact zea hu I3 g ry rv fun s4 I4=>⟨σ,H4,I4,q3⟩
end
theorem zeU {P:Program} {w:World} {H:Hp} (h:Heap) (hb:sysModules < h.objs.size):zaU P w H (h.push { cls:=.type "dict",data:=.dict #[] }) h.objs.size (.dK []) :=
 ⟨Nat.zero_le _,beq_eq_false_iff_ne.mpr (Ne.symm (Nat.ne_of_lt hb)),[],.nil,Heap.DictOf.new h⟩
theorem zgX {P:Program} {w:World} {H:Hp} (h:Heap) (hb:sysModules < h.objs.size):zaU P w H (h.push { cls:=.type "dict",data:=.dict #[] }) h.objs.size (.dT []) :=
 ⟨Nat.zero_le _,beq_eq_false_iff_ne.mpr (Ne.symm (Nat.ne_of_lt hb)),[],.nil,_,#[],0,Heap.get?_push_size _ rfl,⟨rfl,rfl,rfl⟩,rfl,rfl,List.nodup_nil⟩
noncomputable def tDNewK:TE:=fun _ H Q=>∀ p,H p = none->Q (.ref p) (upd H p (.dK []))
noncomputable def tDNewT:TE:=fun _ H Q=>∀ p,H p = none->Q (.ref p) (upd H p (.dT []))
section
variable {X:Cx} {pos:Pos}
theorem pe_dnewK:PE X (.Dict [] [] pos) tDNewK:=fun pins s σ H Q I h =>
 wpAny_Dict_empty ⟨.ref s.heap.objs.size,_,I.laid (a:=s.heap.objs.size) (o:=.dK []) (t':=s.toks) (fun _ _ q=>Heap.get?_push_of_some _ q) (Nat.le_refl _) (zeU s.heap I.big),rfl,h _ (I.hok.fresh (Nat.le_refl _))⟩
theorem pe_dnewT:PE X (.Dict [] [] pos) tDNewT:=fun pins s σ H Q I h =>
 wpAny_Dict_empty ⟨.ref s.heap.objs.size,_,I.laid (a:=s.heap.objs.size) (o:=.dT []) (t':=s.toks) (fun _ _ q=>Heap.get?_push_of_some _ q) (Nat.le_refl _) (zgX s.heap I.big),rfl,h _ (I.hok.fresh (Nat.le_refl _))⟩
end
noncomputable def tPairs:List (TE × TE)->St->Hp->(List (V × V)->Hp->Prop)->Prop
 | [],_,H,Q=>Q [] H
 | (tk,tv) :: r,σ,H,Q=>tk σ H fun x H1=>tv σ H1 fun y H2=>tPairs r σ H2 fun ps H3=>Q ((x,y) :: ps) H3
abbrev VV:List (V × V)->List (Value × Value)->Prop:=Paired fun p q=>RelV p.1 q.1∧RelV p.2 q.2
noncomputable def PPs (X:Cx) (pos:Pos) (keys:List (Option Expr)) (values:List Expr) (trs:List (TE × TE)):Prop :=
 ∀ (pins:List (Addr × Obj)) (s:Shared) (σ:St) (H:Hp) (Q:List (V × V)->Hp->Prop),Inv X pins σ H s->tPairs trs σ H Q ->
  wpAny (model X.prog X.w) X.A (evalPairs (pairTrees keys values X.env pos)) (fun vs s'=>∃ ps H',Inv X pins σ H' s'∧VV ps vs∧Q ps H') X.xe s
theorem zbI {X:Cx} {pos:Pos}:PPs X pos [] [] []:=fun pins s σ H Q I h=>pairTrees_nil_walk ⟨[],H,I,.nil,h⟩
theorem zaQ {X:Cx} {pos:Pos} {k v:Expr} {ks:List (Option Expr)} {vs:List Expr} {tk tv:TE} {trs:List (TE × TE)} (hk:PE X k tk) (hv:PE X v tv) (hr:PPs X pos ks vs trs) :
  PPs X pos (some k :: ks) (v :: vs) ((tk,tv) :: trs):=fun pins s σ H Q I h =>
 pairTrees_cons_walk (thn (hk pins s σ H _ I h) fun u s1 ⟨x,H1,I1,rx,q1⟩=>thn (hv pins s1 σ H1 _ I1 q1) fun w2 s2 ⟨y,H2,I2,ry,q2⟩ =>
  thn (hr pins s2 σ H2 _ I2 q2) fun ws s3 ⟨ps,H3,I3,rel,q3⟩=>⟨(x,y) :: ps,H3,I3,.cons ⟨rx,ry⟩ rel,q3⟩)
noncomputable def zbb (kvs more:List (Key × V)):List (Key × V):=more.foldl (fun acc kv=>putK acc kv.1 kv.2) kvs
theorem KV.merge:∀ {more:List (Key × V)} {rs:List (Key × Value)} {kvs:List (Key × V)} {vs:List (Key × Value)},KV more rs->KV kvs vs->KV (zbb kvs more) (merged vs rs):=by
 intro more rs kvs vs r
 unfold KV at r
 induction r generalizing kvs vs with
 | nil=>intro q; exact q
 | @cons p q ps qs h t ih =>
  intro r0
  have e:KV (putK kvs p.1 p.2) (stored vs q.1 q.2):=by
   have:=r0.put p.1 h.2
   rw [← h.1]; exact this
  exact ih e
theorem length_mergeK:∀ (more kvs:List (Key × V)),(zbb kvs more).length ≤ kvs.length + more.length
 | [],kvs=>by show kvs.length ≤ kvs.length + 0; omega
 | p :: r,kvs=>by
  have h1:=length_mergeK r (putK kvs p.1 p.2)
  have h2:=zbj kvs p.1 p.2
  show (zbb (putK kvs p.1 p.2) r).length ≤ _
  rw [List.length_cons]; omega
theorem zc6 {P:Program} {w:World}:∀ {kvs:List (Key × V)} {ws:List (Value × Value)},VV (kvs.map fun kv=>(kV kv.1,kv.2)) ws->∃ rs,Carries (zaM P w) ws rs∧KV kvs rs
 | [],_,r=>by rw [List.map_nil] at r; cases r; exact ⟨[],True.intro,.nil⟩
 | p :: kvs,_,r=>by
  rw [List.map_cons] at r
  cases r with
  | @cons a b as bs h t =>
   obtain ⟨rs,c,q⟩:=zc6 (P:=P) (w:=w) t
   obtain ⟨b1,b2⟩:=b
   exact ⟨(p.1,b2) :: rs,⟨zel h.1,rfl,c⟩,.cons ⟨rfl,h.2⟩ q⟩
noncomputable def zdf (trs:List (TE × TE)):TE:=fun σ H Q=>∀ p,H p = none->tPairs trs σ (upd H p (.dK [])) fun ps H2=>H2 p = some (.dK [])∧∃ kvs:List (Key × V),ps = kvs.map (fun kv=>(kV kv.1,kv.2))∧kvs.length ≤ 15∧Q (.ref p) (upd H2 p (.dK (zbb [] kvs)))
theorem zcR {X:Cx} {pos:Pos} {keys:List (Option Expr)} {values:List Expr} {trs:List (TE × TE)} (h:PPs X pos keys values trs) (hall:keys.all (·.isSome) = true) (hl:keys.length = values.length) (h0:keys ≠ [])
  (h15:keys.length ≤ 15):PE X (.Dict keys values pos) (zdf trs):=by
 intro pins s σ H Q I q
 have hn:=I.hok.fresh (Nat.le_refl s.heap.objs.size)
 have I1:=I.laid (a:=s.heap.objs.size) (o:=.dK []) (h':=s.heap.push { cls:=.type "dict",data:=.dict #[] }) (t':=s.toks) (fun _ _ q=>Heap.get?_push_of_some _ q) (Nat.le_refl _) (zeU s.heap I.big)
 refine wpAny_Dict_walk (knd:=zaM X.prog X.w) hall hl h0 h15 (thn (h pins _ σ _ _ I1 (q _ hn)) fun ws s2 ⟨ps,H2,I2,rel,e,kvs,ep,lk,q2⟩=>?_)
 subst ep
 obtain ⟨rs,c,rk⟩:=zc6 (P:=X.prog) (w:=X.w) rel
 obtain ⟨z,hd,vs0,r0,dd⟩:=zg9 I2.hok e
 cases r0
 refine ⟨rs,c,dd,fun h' dd' hs=>⟨.ref s.heap.objs.size,_,?_,rfl,q2⟩⟩
 have hz:(zbb [] kvs).length ≤ sizeLine:=by
  have h1:=length_mergeK kvs []
  rw [List.length_nil] at h1
  rw [sizeLine_eq]; omega
 have he:∃ q,h'.get? s.heap.objs.size = some q:=let ⟨q,_,_,hq,_⟩:=dd'; ⟨q,hq⟩
 exact zdx I2 (by rw [e]; exact True.intro) hs he (zgm hz hd (rk.merge .nil) dd')
structure M1 (X:Cx) (o:Expr) (m:Str) (apos:Pos) (e:Expr) (cpos:Pos):Prop where
 base:attributeBase o m X.env (eval o X.env) = eval o X.env
 few:((backTo cpos (starEach [e] X.env)).all (fun x=>!x.1) && (backToKw cpos (keywordEach [] X.env)).all (fun x=>x.1.isSome)
  && decide (([e]:List Expr).length + ([]:List Keyword).length + (if ([]:List Keyword).isEmpty then 0 else 1) < 30)) = true
 line:(apos.endLine == cpos.line) = true
 trees:backTo cpos (starEach [e] X.env) = [(false,eval e X.env)]
structure M2 (X:Cx) (o:Expr) (m:Str) (apos:Pos) (e f:Expr) (cpos:Pos):Prop where
 base:attributeBase o m X.env (eval o X.env) = eval o X.env
 few:((backTo cpos (starEach [e,f] X.env)).all (fun x=>!x.1) && (backToKw cpos (keywordEach [] X.env)).all (fun x=>x.1.isSome)
  && decide (([e,f]:List Expr).length + ([]:List Keyword).length + (if ([]:List Keyword).isEmpty then 0 else 1) < 30)) = true
 line:(apos.endLine == cpos.line) = true
 trees:backTo cpos (starEach [e,f] X.env) = [(false,eval e X.env),(false,eval f X.env)]
noncomputable def IsD (H:Hp) (a:Addr):Prop:=(∃ kvs,Rd H a (.dK kvs)) ∨ ∃ kvs,Rd H a (.dT kvs)
theorem zhv {X:Cx} {pins:List (Addr × Obj)} {σ:St} {H:Hp} {s:Shared} {a:Addr} (I:Inv X pins σ H s) (d:IsD H a) :
  s.TypeIs (.ref a) "dict"∧(∀ b,Value.ref a = .ref b->∃ ob,s.heap.get? b = some ob∧ob.dict = none)∧(a == sysModules) = false:=by
 rcases d with ⟨kvs,e⟩ | ⟨kvs,e⟩
 ·obtain ⟨_,hd,vs,_,dd⟩:=zef I.hok e
  refine ⟨dd.typeIs,fun b q=>?_,hd⟩
  cases q
  obtain ⟨ob,_,_,h1,h2,_⟩:=dd
  exact ⟨ob,h1,h2.2.1⟩
 ·obtain ⟨_,hd,xs,_,dd⟩:=zej I.hok e
  refine ⟨dd.typeIs,fun b q=>?_,hd⟩
  cases q
  obtain ⟨ob,_,_,h1,h2,_⟩:=dd
  exact ⟨ob,h1,h2.2.1⟩
section
variable {X:Cx} {pins:List (Addr × Obj)} {σ:St} {H:Hp} {s:Shared} {a:Addr} {y d:V} {u r:Value} {o:Option V} {A:Around} {E:Value->Shared->Prop}
theorem ziE {Q:Value->Shared->Prop} (hu:A.units + 1 < cLine) (I:Inv X pins σ H s) (g:DGet H a y o) (ry:RelV y u) (h:∀ w' s',Inv X pins σ H s'->RelV (o.getD .non) w'->Q w' s') :
  wpAny (model X.prog X.w) A (call (.builtin "dict.get") [.ref a,u]) Q E s:=by
 rcases g with ⟨kvs,k,e,ey,l⟩ | ⟨kvs,k,b,e,ey,eb,l⟩
 ·subst ey
  obtain ⟨z,hd,vs,rel,dd⟩:=zef I.hok e
  refine call_meetsIn PySem.F.slot_dict_get dd.typeIs PySem.F.entry_dict_get (PySem.F.args_dict_get_2 _ _) (meets_dict_get (zaM X.prog X.w) a (zel ry) hd) ⟨_,dd.mapOf,h _ _ (I.tok _) ?_⟩
  rw [l]
  exact (rel.val k).getD rfl
 ·subst ey
  cases (show u = Value.ref b from ry)
  obtain ⟨z,hd,xs,rel,dd⟩:=zej I.hok e
  refine call_meetsIn PySem.F.slot_dict_get dd.typeIs PySem.F.entry_dict_get (PySem.F.args_dict_get_2 _ _) (meetsH_dict_get (tupleKind (zdz X.prog X.w)) a b hd) ⟨tupleKind_room_in1 hu,k,xs,zc3 I.hok eb,dd,h _ _ (I.tok _) ?_⟩
  rw [l]
  exact (rel.val k).getD rfl
theorem ziu {Q:Value->Shared->Prop} (hu:A.units + 1 < cLine) (I:Inv X pins σ H s) (g:DGet H a y o) (ry:RelV y u) (rd:RelV d r) (h:∀ w' s',Inv X pins σ H s'->RelV (o.getD d) w'->Q w' s') :
  wpAny (model X.prog X.w) A (call (.builtin "dict.get") [.ref a,u,r]) Q E s:=by
 rcases g with ⟨kvs,k,e,ey,l⟩ | ⟨kvs,k,b,e,ey,eb,l⟩
 ·subst ey
  obtain ⟨z,hd,vs,rel,dd⟩:=zef I.hok e
  refine call_meetsIn PySem.F.slot_dict_get dd.typeIs PySem.F.entry_dict_get (PySem.F.args_dict_get_3 _ _ _) (meets_dict_get_default (zaM X.prog X.w) a (zel ry) hd r) ⟨_,dd.mapOf,h _ _ (I.tok _) ?_⟩
  rw [l]
  exact (rel.val k).getD rd
 ·subst ey
  cases (show u = Value.ref b from ry)
  obtain ⟨z,hd,xs,rel,dd⟩:=zej I.hok e
  refine call_meetsIn PySem.F.slot_dict_get dd.typeIs PySem.F.entry_dict_get (PySem.F.args_dict_get_3 _ _ _) (meetsH_dict_get_default (tupleKind (zdz X.prog X.w)) a b hd r) ⟨tupleKind_room_in1 hu,k,xs,zc3 I.hok eb,dd,h _ _ (I.tok _) ?_⟩
  rw [l]
  exact (rel.val k).getD rd
end
noncomputable def ze3 (td ty:TE):TE:=fun σ H Q=>td σ H fun x H1=>∃ a,x = .ref a∧IsD H1 a∧ty σ H1 fun y H2=>∃ o,DGet H2 a y o∧Q (o.getD .non) H2
noncomputable def zdO (td ty tx:TE):TE:=fun σ H Q=>td σ H fun x H1=>∃ a,x = .ref a∧IsD H1 a∧ty σ H1 fun y H2=>tx σ H2 fun z H3=>∃ o,DGet H3 a y o∧Q (o.getD z) H3
section
variable {X:Cx} {o e f:Expr} {apos cpos:Pos} {td ty tx:TE}
theorem zdi (hu:X.A.units + 1 < cLine) (ho:PE X o td) (he:PE X e ty) (m:M1 X o "get" apos e cpos):PE X (.Call (.Attribute o "get" apos) [e] [] cpos) (ze3 td ty):=by
 intro pins s σ H Q I h
 refine wpAny_Call_method m.base m.few m.line PySem.F.plainAttrs_dict PySem.F.slot_dict_get PySem.F.type_dict_get (thn (ho pins s σ H _ I h) fun u s1 ⟨x,H1,I1,rx,a,ex,d,q1⟩=>?_)
 subst ex
 obtain rfl:u = Value.ref a:=rx
 obtain ⟨t1,t2,_⟩:=zhv I1 d
 refine ⟨t1,t2,?_⟩
 rw [m.trees]
 refine Calls.callWith_builtin rfl (Calls.evalArgs_plain (Calls.spliced_cons (thn (he pins s1 σ H1 _ I1 q1) fun iv s2 ⟨y,H2,I2,ry,ov,g,q2⟩=>Calls.spliced_nil ?_)))
 exact ziE hu I2 g ry fun w' s3 I3 rw'=>⟨_,H2,I3,rw',q2⟩
theorem zdB (hu:X.A.units + 1 < cLine) (ho:PE X o td) (he:PE X e ty) (hf:PE X f tx) (m:M2 X o "get" apos e f cpos):PE X (.Call (.Attribute o "get" apos) [e,f] [] cpos) (zdO td ty tx):=by
 intro pins s σ H Q I h
 refine wpAny_Call_method m.base m.few m.line PySem.F.plainAttrs_dict PySem.F.slot_dict_get PySem.F.type_dict_get (thn (ho pins s σ H _ I h) fun u s1 ⟨x,H1,I1,rx,a,ex,d,q1⟩=>?_)
 subst ex
 obtain rfl:u = Value.ref a:=rx
 obtain ⟨t1,t2,_⟩:=zhv I1 d
 refine ⟨t1,t2,?_⟩
 rw [m.trees]
 refine Calls.callWith_builtin rfl (Calls.evalArgs_plain (Calls.spliced_cons (thn (he pins s1 σ H1 _ I1 q1) fun iv s2 ⟨y,H2,I2,ry,q2⟩ =>
  Calls.spliced_cons (thn (hf pins s2 σ H2 _ I2 q2) fun fv s3 ⟨z,H3,I3,rz,ov,g,q3⟩=>Calls.spliced_nil ?_))))
 exact ziu hu I3 g ry rz fun w' s4 I4 rw'=>⟨_,H3,I4,rw',q3⟩
end
section
variable {X:Cx} {pins:List (Addr × Obj)} {σ:St} {H:Hp} {s:Shared} {a:Addr} {kvs:List (Key × V)} {A:Around} {E:Value->Shared->Prop}
end
section
variable {X:Cx} {pins:List (Addr × Obj)} {σ:St} {H:Hp} {s:Shared} {a:Addr} {y:V} {u:Value} {A:Around} {E:Value->Shared->Prop}
end
end L2
namespace Att
open PySem PySem.W PySem.Calls PyProof.Rows
theorem zcM {P:Params} {h:Heap}:∀ (ns:List Int) (vs:List Value),WellAll P h vs (ns.map WData.int)->IntsAre vs ns:=by
 intro ns
 induction ns with
 | nil =>
  intro vs w
  rw [List.map_nil] at w
  cases w
  exact .nil
 | cons n ns ih =>
  intro vs w
  rw [List.map_cons] at w
  cases w with
  | cons a b =>
   cases a
   exact .cons _ _ (ih _ b)
theorem zf2 {l:OpenLaw} {n:Nat} (hn:l.most = some n) {P:Params} {h:Heap} {args:List WData} {vals:List Value}
  (hpre:l.row.toRowW.claim.pre args = true) (hwl:WellAll P h vals args) :
  ∃ a vs ns,vals = [Value.ref a]∧args = [WData.list (ns.map WData.int)]∧h.get? a = some { cls:=.type "list",data:=.seq vs.toArray }∧IntsAre vs ns∧ns.length ≤ n:=by
 have hsh:WShape.hasAll [] args [.list .int] = true:=(pre_splitW hpre).1
 have hc:l.pre.holds [] { args:=args } = true:=(pre_splitW hpre).2
 obtain ⟨d,r,rfl,h1,h2⟩:=hasAllW_cons hsh
 obtain rfl:=hasAllW_nil h2
 obtain ⟨xs,rfl,h3⟩:=hasW_list h1
 obtain ⟨ns,rfl⟩:=items_int h3
 have hlen:ns.length ≤ n:=by
  unfold OpenLaw.pre at hc
  have h4:(WTm.not (.lt (.lit (.int (n:Int))) (.len (.arg 0)))).holds [] { args:=[.list (ns.map .int)] } = true:=by
   have h4:=(holds_andW hc).1
   rw [hn] at h4
   exact h4
  have h5:=condW_of h4 (w_not (w_lt w_lit (w_len_list (w_arg rfl))))
  rw [List.length_map] at h5
  refine Nat.le_of_not_lt fun q=>?_
  have q':(n:Int) < ((ns.length:Nat):Int):=by omega
  first
   | (rw [decide_eq_true q'] at h5; exact absurd h5 (by decide))
   | (simp at h5; omega)
 cases hwl with
 | cons w1 w2 =>
  cases w2
  cases w1 with
  | list ho hall=>exact ⟨_,_,ns,rfl,rfl,ho,zcM ns _ hall,hlen⟩
theorem zgj (l:OpenLaw) (args:List WData):l.row.toRowW.claim.post args (.bool true) args = true :=
 postW_of (r:=l.row.toRowW) (X:=(true == true))
  (show WShape.has [] (.bool true) .bool = true by first | rfl | decide | simp [WShape.has,WShape.arms,WShape.armsAll])
  (show (WTm.eq .res (.lit (.bool true))).value [] { args:=args,res:=some (.bool true),after:=args } = some (.bool (true == true)) from w_eq_bool (w_res rfl) w_lit) rfl
theorem attach_call {l:OpenLaw} {n:Nat} {q:Program} {loose:List Str} {XP:(Str->Option Value)->Heap->Prop} {YP:World->Heap->Prop} {d:DefRec}
  (hn:l.most = some n) (hdf:d.params.defaults = [])
  (call:∀ (w:World) (s₀ s₁:Shared) (mg mb:Str->Option Value) (fa:Addr) (o:Obj) (pm cd doc:Value) (a:Addr) (vs:List Value) (ns:List Int),
   Ground q loose [] XP w s₀ mg mb s₁.heap->YP w s₁.heap ->
   s₁.heap.get? fa = some o->o.data = .func (docDef d.name d.params d.body d.scope pm cd doc)->s₁.heap.CodeRec cd d.name->mg d.name = some (.ref fa) ->
   s₁.heap.get? a = some { cls:=.type "list",data:=.seq vs.toArray }->IntsAre vs ns->ns.length ≤ n->s₁.gens = #[] ->
   codeAny (model l.prog w) callerA (.call (.ref fa) ⟨[.ref a],[]⟩) (fun r s'=>r = .ok (.ret (.bool true))∧OldK s₁.heap s'.heap∧s'.os = s₁.os∧AllBare s'.gens) s₁) :
  WalkO q loose XP YP l.row.toRowW d [] (fun f vs=>PySem.call f vs):=by
 intro w s₀ s₁ mg mb G Y fa o pm cd doc dV kV ho hd hcd hD hmg hg args vals as hpre hlay hrd hwl hlo
 obtain rfl:dV = .none:=Dflts.none hD hdf
 obtain rfl:kV = .none:=Dflts.noKw hD
 obtain ⟨a,vs,ns,rfl,rfl,hobj,hints,hlen⟩:=zf2 hn hpre hwl
 refine enter_call (codeAny_mono (call w s₀ s₁ mg mb fa o pm cd doc a vs ns G Y ho (fd_plain hd) hcd hmg hobj hints hlen hg) fun r s' hq=>?_)
 obtain ⟨rfl,h2,h3,h4⟩:=hq
 exact ⟨.inl ⟨.bool true,.bool true,[],rfl,fun _=>rfl,.bool true,zgj l _,fun _=>⟨List.Pairwise.nil,fun _ hm=>(nomatch hm)⟩⟩,h2,h3,h4⟩
section
variable {prog:Program} {w:World} {A:Around} {E:Value->Shared->Prop} {s:Shared} {K:Frag}
end
end Att
namespace L2
open PySem PySem.Spec PyProof.Rows
theorem vals_ints:∀ {vs:List Value} {ns:List Int},IntsAre vs ns->Vals (ns.map V.int) vs
 | _,_,.nil=>.nil
 | _,_,.cons n t h=>.cons ⟨t,rfl⟩ (vals_ints h)
noncomputable def Only (H:Hp):Prop:=∀ b,H b = none ∨ ∃ o xs,H b = some (.frz o (.lst xs))
theorem zhl {P:Program} {w:World} {K:PySem.W.Frag} {mg mb:Str->Option Value} {CX:CXT} {k:Nat} {fa a:Addr} {fd:FuncData} {x:Str} {sp:Sp} {s₁:Shared} {vs:List Value} {ns:List Int}
  (KX:K.In s₁.heap) (hns:s₁.heap.Ns mainGlobals mg) (hb:s₁.heap.Ns builtinsNs mb) (hbb:∀ x:Str,x ≠ "__name__"->mb x = bootBuiltins x) (hlim:s₁.heap.NoLimit) (hg:s₁.gens = #[])
  (ha:s₁.heap.get? a = some { cls:=.type "list",data:=.seq vs.toArray }) (hi:IntsAre vs ns) (hl:ns.length ≤ sizeLine) (hr:Room k callerA)
  (F:∀ base:Heap,K.In base->base.Ns mainGlobals mg->FnOk P w K mg base CX k fa fd [x] sp) (hbind:∀ (s:Shared) (u:Value),BindsTo s fd ⟨[u],[]⟩ [(x,u)])
  (hsp:∀ H:Hp,Only H->SqL K H a (ns.map V.int)->sp [.ref a] H (fun v _=>v = .bl true) fun _ _ _=>False)
  (hCX:∀ H e s',CX [] H s₁ (fun _ _ _=>False) e s'->False) :
  codeAny (model P w) callerA (.call (.ref fa) ⟨[.ref a],[]⟩) (fun r s'=>r = .ok (.ret (.bool true))∧OldK s₁.heap s'.heap∧s'.os = s₁.os∧AllBare s'.gens) s₁:=by
 have rv:=vals_ints hi
 have lenV:=hi.length
 have core:∀ H:Hp,Only H->SqL K H a (ns.map V.int)->HOk P w H s₁.heap->(∀ b,H b ≠ none->b = a)->(H a ≠ none->K.lookup a = none) ->
   codeAny (model P w) callerA (.call (.ref fa) ⟨[.ref a],[]⟩) (fun r s'=>r = .ok (.ret (.bool true))∧OldK s₁.heap s'.heap∧s'.os = s₁.os∧AllBare s'.gens) s₁:=by
  intro H hO hS hok hA hK
  have base_of:∀ {b:Addr} {o:Obj},s₁.heap.get? b = some o->H b = none->(hidT s₁.heap H).get? b = some o:=fun e n=>zgP e n
  have noA:∀ {b:Addr} {o:Obj} {es:Array DictEntry} {ep:Nat},s₁.heap.get? b = some o->o.data = .dict es ep->H b = none:=fun {b o es ep} e d=>by
   cases q:H b with
   | none=>rfl
   | some u =>
    have e':b = a:=hA b (by rw [q]; simp)
    subst e'
    rw [ha] at e; cases e
    have d':Data.seq vs.toArray _ = Data.dict es ep:=d
    cases d'
  have nsK:∀ {b:Addr} {m:Str->Option Value},s₁.heap.Ns b m->(hidT s₁.heap H).Ns b m:=fun {b m} ⟨o,es,ep,e,d,r⟩=>⟨o,es,ep,base_of e (noA e d),d,r⟩
  have hKb:K.In (hidT s₁.heap H):=fun b o e=>base_of (KX b o e) (by
   cases q:H b with
   | none=>rfl
   | some u =>
    have e':b = a:=hA b (by rw [q]; simp)
    subst e'
    rw [hK (by rw [q]; simp)] at e; cases e)
  have hM:Mod K mg (hidT s₁.heap H):=⟨hKb,nsK hns,⟨mb,nsK hb,hbb⟩,let ⟨mc,h1,h2⟩:=hlim; ⟨mc,nsK h1,h2⟩⟩
  have e0:Env0 P w K mg (hidT s₁.heap H) callerA [] s₁ H:=⟨rfl,hM,fun b o e=>zhU e,Nat.le_of_eq (zfA _ _),trivial,fun b hb=>absurd (show b ∈ ([]:List Addr) from hb) (by simp),hok,.of_eq hg⟩
  refine codeAny_mono ((F _ hKb (nsK hns)).run callerA [] s₁ H ⟨[.ref a],[]⟩ [.ref a] [.ref a] _ _ hr e0 (hbind s₁ (.ref a)) (.cons rfl .nil) (hsp H hO hS)) fun r s' h=>?_
  cases r with
  | error e=>exact (hCX H e s' h).elim
  | ok fl =>
   cases fl with
   | next=>exact False.elim h
   | brk=>exact False.elim h
   | cont=>exact False.elim h
   | ret u =>
    obtain ⟨v,H',os,bare,un,hok',r',q⟩:=h
    have q':v = .bl true:=q
    subst q'
    obtain rfl:u = Value.bool true:=r'
    refine ⟨rfl,OldK.of_keep fun b o e=>?_,os,bare⟩
    cases q:H b with
    | none=>exact un.keep b o e q (by intro z; exact absurd (show b ∈ ([]:List Addr) from z) (by simp)) (by simp)
    | some u =>
     rcases hO b with z | ⟨ob,xs,z⟩
     ·rw [q] at z; cases z
     ·have z2:=un.frzs b ob _ z
      obtain ⟨e1,_⟩:=hok b _ z
      obtain ⟨e2,_⟩:=hok' b _ z2
      rw [e] at e1; cases e1
      exact e2
 cases hk:K.lookup a with
 | some o =>
  have e:=KX a o hk
  rw [ha] at e
  cases e
  refine core (fun _=>none) (fun _=>.inl rfl) (.inr ⟨_,vs.toArray,_,hk,rfl,rfl,rfl,by rw [List.size_toArray,lenV]; exact hl,by simpa using rv⟩) (fun b u z=>by have z':(none:Option HO) = some u:=z; cases z') (fun b z=>absurd rfl z) fun z=>absurd rfl z
 | none =>
  refine core (fun b=>if b = a then some (.frz { cls:=.type "list",data:=.seq vs.toArray } (.lst (ns.map V.int))) else none) (fun b=>?_) (.inl (.inr ⟨{ cls:=.type "list",data:=.seq vs.toArray },if_pos rfl⟩)) (fun b u z=>?_) (fun b z=>?_) fun _=>hk
  ·by_cases hb:b = a
   ·exact .inr ⟨_,_,if_pos hb⟩
   ·exact .inl (if_neg hb)
  ·by_cases hb:b = a
   ·have z':=(if_pos hb).symm.trans z
    cases z'
    subst hb
    exact ⟨ha,by rw [List.length_map]; exact hl,vs,_,rv,ha⟩
   ·have z':=(if_neg hb).symm.trans z
    cases z'
  ·by_cases hb:b = a
   ·exact hb
   ·exact absurd (if_neg hb) z
end L2
namespace L2
open PySem PySem.Spec PyProof.Rows
abbrev KOf {K:PySem.W.Frag} {h:Heap} (_:K.In h):PySem.W.Frag:=K
theorem walk_of {l:PySem.W.OpenLaw} {n k:Nat} {q:Program} {loose:List Str} {XP:(Str->Option Value)->Heap->Prop} {YP:World->Heap->Prop} {d:DefRec} {K:Params->PySem.W.Frag} {CX:World->CXT} {sp:World->Sp} {x:Str}
  (hn:l.most = some n) (hn2:n ≤ sizeLine) (hdf:d.params.defaults = []) (hr:Room k callerA)
  (hY:∀ (w:World) (h:Heap),YP w h->(K w.params).In h)
  (F:∀ (w:World) (mg:Str->Option Value) (fa:Addr) (h:Heap),(K w.params).In h->h.Ns mainGlobals mg->mg d.name = some (.ref fa) ->
   ∃ fd:FuncData,(∀ (s:Shared) (u:Value),BindsTo s fd ⟨[u],[]⟩ [(x,u)]) ∧
    ∀ base:Heap,(K w.params).In base->base.Ns mainGlobals mg->FnOk l.prog w (K w.params) mg base (CX w) k fa fd [x] (sp w))
  (hsp:∀ (w:World) (H:Hp) (a:Addr) (ns:List Int),ns.length ≤ n->Only H->SqL (K w.params) H a (ns.map V.int)->sp w [.ref a] H (fun v _=>v = .bl true) fun _ _ _=>False)
  (hCX:∀ (w:World) (H:Hp) (s:Shared) (e:Value) (s':Shared),CX w [] H s (fun _ _ _=>False) e s'->False) :
  PySem.W.WalkO q loose XP YP l.row.toRowW d [] (fun f vs=>PySem.call f vs):=by
 refine Att.attach_call hn hdf fun w s₀ s₁ mg mb fa o pm cd doc a vs ns G Y ho hd hcd hmg hobj hints hlen hg=>?_
 have KX:=hY w _ Y
 obtain ⟨fd,hb,hF⟩:=F w mg fa _ KX G.T.g hmg
 exact zhl KX G.T.g G.T.b G.T.builtins G.T.nolimit hg hobj hints (Nat.le_trans hlen hn2) hr hF hb (fun H hO hS=>hsp w H a ns hlen hO hS) fun H e s'=>hCX w H s₁ e s'
end L2
/- THE LAST THEOREM (shape; LID,My.* are yours):
  My.Adr: a structure of the addresses that your layer names (classes,functions); My.Txt K t: a structure (Prop) of the equations over K;
  My.txt_mk:{K} {implicit addresses ..} (e1:nsIn K mainGlobals "law" = some (some (.ref f))) (e2:K.lookup f = some ⟨oc,od,.func (fnOf "law" "law" params body scope dV kV doc pm an cdv ct),sl⟩) (e3:codeIn K cdv "law" = true) ..:∃ t,My.Txt K t
set_option maxRecDepth 100000 in
set_option maxHeartbeats 0 in
theorem PySem.Challenge.cw_LID_holds : PySem.Challenge.rw_LID.Holds := by
 w_on; o_law; k_head; (case hw=>w_witness2)
 k_fill
 refine L2.walk_of (l := PySem.Challenge.rw_LID) (n := 63) (k := 40) (x := "script") (CX := fun w => ..) (sp := fun _ => My.sp_law) rfl (by decide) rfl ⟨rfl, by decide, by decide⟩ (fun w h Y => PySem.W.kIn_of Y) ?F ?S ?C
 case F =>
  intro w mg fa h KX G hmg
  have T:∃ t,My.Txt (L2.KOf KX) t:=by
   dsimp only [L2.KOf]                          -- K must stand as «<heap const> w.params» for k_is
   refine' My.txt_mk ?e1 ?e2 ?e3 ..
   (case e1=>PySem.W.k_is)                    -- in the order: a name -> its address -> its object -> its parts
   (case e2=>PySem.W.k_is)
   ..
  obtain ⟨t,T⟩:=T
  have e0:=hmg.symm.trans (PySem.W.mg_of KX G T.law)
  cases e0                                       -- fa is the law's own address
  exact ⟨_,fun s u=>.of_eq rfl,fun base kb nb=>My.law_fn T kb nb⟩     -- if «.of_eq rfl» comes too early: refine' ⟨_,?b,fun base kb nb=>My.law_fn T kb nb⟩; exact fun s u=>.of_eq rfl
 case S=>exact fun w H a ns hl hO hS=>..
 case C=>exact ..
(the tactic k_is has no namespace: write k_is) -/
namespace L2
open PySem PySem.Spec PyProof.Rows
noncomputable def zdn (s:Stmt):Arguments:=match s with
 | .FunctionDef _ a _ _ _ _ _ _ _ _=>a
 | _=>{ posonlyargs:=[],args:=[],vararg:=none,kwonlyargs:=[],kw_defaults:=[],kwarg:=none,defaults:=[] }
noncomputable def zcQ (s:Stmt):List Stmt:=match s with
 | .FunctionDef _ _ b _ _ _ _ _ _ _=>b
 | _=>[]
noncomputable def zar (s:Stmt):Scope:=match s with
 | .FunctionDef _ _ _ _ _ _ sc _ _ _=>sc
 | _=>{ kind:=.function,names:=[],isGenerator:=false,isCoroutine:=false }
abbrev CX0:CXT:=fun _ _ _ _ _ _=>False
abbrev E0:XK:=fun _ _ _=>False
theorem zaC {X:Cx}:zfB CX0 X E0:=fun _ _ _ _ _ _ _ h=>h.elim
structure Fun (K:PySem.W.Frag) (x qual:Str) (st:Stmt) (f:Addr) (fd:FuncData):Prop where
 ex:∃ (oc:Value) (od:Option Addr) (kV doc pm:Value) (an:Option Addr) (cdv ct:Value) (osl:Array (Option Value)),
  fd = PySem.W.fnOf x qual (zdn st) (zcQ st) (zar st) .none kV doc pm an cdv ct∧K.lookup f = some ⟨oc,od,.func fd,osl⟩∧PySem.W.codeIn K cdv qual = true
 kp:PySem.W.keepIn K (.ref f) = true
section
variable {P:Program} {w:World} {K:PySem.W.Frag} {mg:Str->Option Value} {base:Heap}
theorem Fun.binds {x qual:Str} {st:Stmt} {f:Addr} {fd:FuncData} {ps:List Str} (F:Fun K x qual st f fd)
  (h:∀ (kV doc pm:Value) (an:Option Addr) (cdv ct:Value) (us:List Value),us.length = ps.length->bindArgs (PySem.W.fnOf x qual (zdn st) (zcQ st) (zar st) .none kV doc pm an cdv ct) ⟨us,[]⟩ = pure (ps.zip us)):zaP K fd ps []:=by
 obtain ⟨oc,od,kV,doc,pm,an,cdv,ct,osl,rfl,lk,hcd⟩:=F.ex
 exact .all (h kV doc pm an cdv ct)
theorem fun_mk {x qual:Str} {st:Stmt} {f:Addr} {oc:Value} {od an:Option Addr} {osl:Array (Option Value)} {kV doc pm cdv ct:Value} (l:K.lookup f = some ⟨oc,od,.func (PySem.W.fnOf x qual (zdn st) (zcQ st) (zar st) .none kV doc pm an cdv ct),osl⟩)
  (c:PySem.W.codeIn K cdv qual = true) (k:PySem.W.keepIn K (.ref f) = true):Fun K x qual st f (PySem.W.fnOf x qual (zdn st) (zcQ st) (zar st) .none kV doc pm an cdv ct):=⟨⟨oc,od,kV,doc,pm,an,cdv,ct,osl,rfl,l,c⟩,k⟩
end
theorem zaT {A:Around} {k:Nat} (hr:Room k A):A.units + 1 < cLine:=Nat.lt_of_le_of_lt (Nat.add_le_add_left (by decide:1 ≤ 64) _) hr.units
section
variable {X:Cx}
theorem pv (i:Nat) {x:Str} {pos:Pos} (hN:X.N[i]? = some x:=by rfl) (hv:Vis X.env.scope x:=by first | exact Or.inl rfl | exact Or.inr (Or.inl rfl) | exact Or.inr (Or.inr rfl)) (hd:(x == ("__debug__":Str)) = false:=by decide)
  (hcd:(x == ("__classdict__":Str)) = false:=by decide):PE X (.Name x pos) (tVar i):=ziR hN hv hd hcd
end
theorem ite2 {c A B:Prop} [Decidable c] (h1:c->A) (h2:¬ c->B):if c then A else B:=by
 by_cases h:c
 ·rw [if_pos h]
  exact h1 h
 ·rw [if_neg h]
  exact h2 h
noncomputable def Same (H H':Hp):Prop:=∀ b o,H b = some o->H' b = some o
theorem Same.refl (H:Hp):Same H H:=fun _ _ h=>h
theorem Same.trans {H H1 H2:Hp} (a:Same H H1) (b:Same H1 H2):Same H H2:=fun c o h=>b c o (a c o h)
theorem Same.free {H H':Hp} (e:Same H H') {l:Addr} (h:H' l = Option.none):H l = Option.none:=by
 cases q:H l with
 | none=>rfl
 | some o =>
  rw [e l o q] at h
  cases h
theorem Same.seq {K:PySem.W.Frag} {H H':Hp} {a:Addr} {xs:List V} (e:Same H H') (h:SqL K H a xs):SqL K H' a xs:=by
 rcases h with (h | ⟨o,h⟩) | h
 ·exact .inl (.inl (e _ _ h))
 ·exact .inl (.inr ⟨o,e _ _ h⟩)
 ·exact .inr h
section
variable {κ:Type} [DecidableEq κ]
end
end L2
set_option Elab.async false
set_option linter.all false
set_option maxRecDepth 100000
namespace L2
open PySem PySem.Spec PyProof.Rows
noncomputable def clOf (env:Env) (names:List (Str × NameKind)) (cs:List (Str × Addr)):List (Str × Addr) :=
 names.foldl (fun cs y=>if y.2 == NameKind.free then (y.1,(env.cells.lookup y.1).getD 0) :: cs else cs) cs
theorem zcT {env:Env}:∀ (names:List (Str × NameKind)) (cs:List (Str × Addr)),(∀ y ∈ names,y.2 = .free->∃ c,env.cells.lookup y.1 = some c) ->
  (forIn names cs fun (p:Str × NameKind) (cs:List (Str × Addr))=>(if (p.2 == NameKind.free) = true then do
   let a ← cellOf env p.1
   pure (ForInStep.yield ((p.1,a) :: cs))
   else pure (ForInStep.yield cs):Sem (ForInStep (List (Str × Addr))))) = pure (clOf env names cs)
 | [],cs,_=>rfl
 | (n,k) :: r,cs,h=>by
  have hr:∀ y ∈ r,y.2 = NameKind.free->∃ c,env.cells.lookup y.1 = some c:=fun y hy=>h y (List.mem_cons_of_mem _ hy)
  rw [List.forIn_cons]
  cases hk:(k == NameKind.free) with
  | true =>
   obtain ⟨c,hc⟩:=h (n,k) List.mem_cons_self (by simpa using hk)
   have e1:cellOf env n = pure c:=by
    have hc':env.cells.lookup n = some c:=hc
    unfold cellOf; rw [hc']
   have e2:=zcT r ((n,c) :: cs) hr
   have e3:clOf env ((n,k) :: r) cs = clOf env r ((n,c) :: cs):=by
    have hc':env.cells.lookup n = some c:=hc
    show List.foldl _ (if (k == NameKind.free) = true then (n,(env.cells.lookup n).getD 0) :: cs else cs) r = _
    rw [hk,hc']; rfl
   rw [e3,← e2]
   simp only [hk,if_true,e1]
   rfl
  | false =>
   have e2:=zcT r cs hr
   have e3:clOf env ((n,k) :: r) cs = clOf env r cs:=by
    show List.foldl _ (if (k == NameKind.free) = true then _ else cs) r = _
    rw [hk]; rfl
   rw [e3,← e2]
   simp only [hk,Bool.false_eq_true,if_false]
   rfl
theorem zbT {scope:Scope} {env:Env} (h:∀ y ∈ scope.names,y.2 = .free->∃ c,env.cells.lookup y.1 = some c):closureFor scope env = pure (clOf env scope.names []):=by
 have:=zcT scope.names [] h
 unfold closureFor
 simp only [bind_pure]
 exact this
theorem zeE {env:Env}:∀ (names:List (Str × NameKind)) (cs:List (Str × Addr)),(∀ y ∈ names,y.2 = .free->∃ c,env.cells.lookup y.1 = some c)->(∀ x c,cs.lookup x = some c->env.cells.lookup x = some c) ->
  ∀ x c,(clOf env names cs).lookup x = some c->env.cells.lookup x = some c
 | [],cs,_,hc=>hc
 | (n,k) :: r,cs,h,hc=>by
  refine zeE r _ (fun y hy=>h y (List.mem_cons_of_mem _ hy)) ?_
  intro x c e
  dsimp only at e
  split at e
  ·rename_i hk
   obtain ⟨c',hc'⟩:=h (n,k) List.mem_cons_self (by simpa using hk)
   have hc':env.cells.lookup n = some c':=hc'
   rw [List.lookup_cons] at e
   cases hx:(x == n) with
   | true =>
    rw [hx] at e
    have e':(env.cells.lookup n).getD 0 = c:=Option.some.inj e
    have hxn:x = n:=by simpa using hx
    rw [hxn,hc',← e',hc']; rfl
   | false =>
    rw [hx] at e
    exact hc x c e
  ·exact hc x c e
theorem zdj {env:Env} {x:Str}:∀ (names:List (Str × NameKind)) (cs:List (Str × Addr)),((x,NameKind.free) ∈ names ∨ ∃ c,cs.lookup x = some c)->∃ c,(clOf env names cs).lookup x = some c
 | [],cs,h=>by
  rcases h with h | h
  ·simp at h
  ·exact h
 | (n,k) :: r,cs,h=>by
  refine zdj r _ ?_
  rcases h with h | ⟨c,h⟩
  ·rcases List.mem_cons.mp h with e | h
   ·cases e
    refine .inr ⟨(env.cells.lookup x).getD 0,?_⟩
    simp
   ·exact .inl h
  ·refine .inr ?_
   dsimp only
   split
   ·rw [List.lookup_cons]
    cases (x == n) with
    | true=>exact ⟨_,rfl⟩
    | false=>exact ⟨c,h⟩
   ·exact ⟨c,h⟩
theorem zci {env:Env}:∀ {names:List (Str × NameKind)} {x:Str},names.lookup x = some .free ->
  (names.map fun (n,k)=>if (k == NameKind.free && env.scope.kind == .function && env.kindOf n == some .cell) then (n,NameKind.cell) else (n,k)).lookup x = some .cell ∨
  (names.map fun (n,k)=>if (k == NameKind.free && env.scope.kind == .function && env.kindOf n == some .cell) then (n,NameKind.cell) else (n,k)).lookup x = some .free
 | [],_,h=>by simp at h
 | (n,k) :: r,x,h=>by
  have ih:=@zci env r x
  rw [List.map_cons]
  cases hx:x == n with
  | true =>
   simp only [List.lookup_cons,hx] at h
   cases h
   by_cases hc:(NameKind.free == NameKind.free && env.scope.kind == .function && env.kindOf n == some .cell) = true
   ·left
    show List.lookup x ((if (NameKind.free == NameKind.free && env.scope.kind == .function && env.kindOf n == some .cell) = true then (n,NameKind.cell) else (n,NameKind.free)) :: _) = _
    rw [if_pos hc]; simp [List.lookup_cons,hx]
   ·right
    show List.lookup x ((if (NameKind.free == NameKind.free && env.scope.kind == .function && env.kindOf n == some .cell) = true then (n,NameKind.cell) else (n,NameKind.free)) :: _) = _
    rw [if_neg hc]; simp [List.lookup_cons,hx]
  | false =>
   simp only [List.lookup_cons,hx] at h
   have ih:=ih h
   have e:∀ l,List.lookup x ((if (k == NameKind.free && env.scope.kind == .function && env.kindOf n == some .cell) = true then (n,NameKind.cell) else (n,k)) :: l) = List.lookup x l:=fun l=>by
    split <;> simp [List.lookup_cons,hx]
   show List.lookup x ((if (k == NameKind.free && env.scope.kind == .function && env.kindOf n == some .cell) = true then (n,NameKind.cell) else (n,k)) :: _) = _ ∨ List.lookup x ((if (k == NameKind.free && env.scope.kind == .function && env.kindOf n == some .cell) = true then (n,NameKind.cell) else (n,k)) :: _) = _
   rw [e]
   exact ih
theorem zcf {env:Env}:∀ {names:List (Str × NameKind)} {x:Str},
  ((names.map fun (n,k)=>if (k == NameKind.free && env.scope.kind == .function && env.kindOf n == some .cell) then (n,NameKind.cell) else (n,k)).lookup x = some .cell ∨
  (names.map fun (n,k)=>if (k == NameKind.free && env.scope.kind == .function && env.kindOf n == some .cell) then (n,NameKind.cell) else (n,k)).lookup x = some .free) ->
  names.lookup x = some .free ∨ names.lookup x = some .cell
 | [],x,h=>by simp at h
 | (n,k) :: r,x,h=>by
  have ih:=@zcf env r x
  cases hx:x == n with
  | true =>
   rw [List.lookup_cons,hx]
   show some k = _ ∨ some k = _
   have e:∀ l,List.lookup x ((if (k == NameKind.free && env.scope.kind == .function && env.kindOf n == some .cell) = true then (n,NameKind.cell) else (n,k)) :: l) = if (k == NameKind.free && env.scope.kind == .function && env.kindOf n == some .cell) = true then some .cell else some k:=fun l=>by
    split <;> simp [List.lookup_cons,hx]
   rw [List.map_cons] at h
   have h:List.lookup x ((if (k == NameKind.free && env.scope.kind == .function && env.kindOf n == some .cell) = true then (n,NameKind.cell) else (n,k)) :: _) = some .cell ∨ List.lookup x ((if (k == NameKind.free && env.scope.kind == .function && env.kindOf n == some .cell) = true then (n,NameKind.cell) else (n,k)) :: _) = some .free:=h
   rw [e] at h
   by_cases hc:(k == NameKind.free && env.scope.kind == .function && env.kindOf n == some .cell) = true
   ·left
    simp at hc
    rw [hc.1.1]
   ·rw [if_neg hc] at h
    rcases h with h | h
    ·exact .inr h
    ·exact .inl h
  | false =>
   rw [List.lookup_cons,hx]
   have e:∀ l,List.lookup x ((if (k == NameKind.free && env.scope.kind == .function && env.kindOf n == some .cell) = true then (n,NameKind.cell) else (n,k)) :: l) = List.lookup x l:=fun l=>by
    split <;> simp [List.lookup_cons,hx]
   rw [List.map_cons] at h
   have h:List.lookup x ((if (k == NameKind.free && env.scope.kind == .function && env.kindOf n == some .cell) = true then (n,NameKind.cell) else (n,k)) :: _) = some .cell ∨ List.lookup x ((if (k == NameKind.free && env.scope.kind == .function && env.kindOf n == some .cell) = true then (n,NameKind.cell) else (n,k)) :: _) = some .free:=h
   rw [e] at h
   exact ih h
section
variable {prog:Program} {w:World} {A:Around} {E:Value->Shared->Prop} {R:Result->Shared->Prop} {s:Shared}
theorem zdL {elt target iter:Expr} {ifs:List Expr} {scope:Scope} {pos:Pos} {it acc:Value} {env:Env} (I:Nat->Shared->Prop)
  (turn:∀ n s,I n s->wpAny (model prog w) A (pyNext it) (fun r s₁=>match r with
   | none=>R (.ok .next) s₁
   | some v=>wpAny (model prog w) A (letOwnedTupleGo target it v) (fun _ s₁'=>wpAny (model prog w) A (assign target env v) (fun _ s₂ =>
     wpAny (model prog w) A (forIn ifs true fun c r=>if r = true then do let ok ← isTrue c env (eval c env); pure (ForInStep.yield ok) else pure (ForInStep.yield r)) (fun ok s₃ =>
      if ok = true then wpAny (model prog w) A (eval elt env) (fun x s₄ =>
       wpAny (model prog w) A (call (.builtin "list.append") [acc,x]) (fun _ s₅=>∃ m,m < n∧I m s₅) (notedBy (model prog w) A env fun e s'=>R (.error e) s') s₄) (notedBy (model prog w) A env fun e s'=>R (.error e) s') s₃
      else ∃ m,m < n∧I m s₃) (notedBy (model prog w) A env fun e s'=>R (.error e) s') s₂) (notedBy (model prog w) A env fun e s'=>R (.error e) s') s₁') (notedBy (model prog w) A env fun e s'=>R (.error e) s') s₁) (notedBy (model prog w) A env fun e s'=>R (.error e) s') s)
  (n:Nat) (h:I n s) :
  codeAny (model prog w) A (.compLoop (.ListComp elt [⟨target,iter,ifs,0⟩] scope pos) 0 it acc env) R s:=by
 refine codeAny_loop rfl I (fun n s hI=>?_) n h
 show wpAny _ A ((compTurn (.ListComp elt [⟨target,iter,ifs,0⟩] scope pos) 0 it acc env).onRaise (fun x=>do noteFrame x env; theTreesLotGoes x)) _ _ s
 refine wpAny_noted ?_
 rw [compTurn_list]
 refine wpAny_bind (wpAny_standAt (wpAny_bind (wpAny_mono (turn n s hI) (fun r s₁ h₁=>?_) fun _ _ h'=>h')))
 cases r with
 | none=>exact wpAny_pure h₁
 | some v =>
  refine wpAny_bind (wpAny_mono h₁ (fun _ s₁' h₁'=>?_) fun _ _ h'=>h')
  refine wpAny_bind (wpAny_mono h₁' (fun _ s₂ h₂=>wpAny_bind (wpAny_mono h₂ (fun ok s₃ h₃=>?_) fun _ _ h'=>h')) fun _ _ h'=>h')
  cases ok with
  | false=>exact wpAny_pure ⟨rfl,h₃⟩
  | true =>
   exact wpAny_bind (wpAny_bind (wpAny_mono h₃ (fun x s₄ h₄=>wpAny_bind (wpAny_mono h₄ (fun _ s₅ h₅=>wpAny_pure (wpAny_pure ⟨rfl,h₅⟩)) fun _ _ h'=>h')) fun _ _ h'=>h'))
end
noncomputable def zba (X:Cx) (scope:Scope) (N':List Str) (C:Addr) (ex:List Addr) (s:Shared) (H:Hp):Cx :=
 { X with N:=N',s₀:=s,H₀:=H,env:=compEnvC scope (clOf X.env scope.names []) C X.env,outer:=X.stack,stack:=X.stack,ex:=ex,fn:=fun _=>false,pn:=[],xe:=fun _ _=>False }
noncomputable def ziJ (N N':List Str) (cap:List (Option Nat)) (names:List (Str × NameKind)):Bool :=
 (N'.zip cap).all fun p=>match p.2 with
  | none=>true
  | some j=>N[j]? == some p.1 && names.lookup p.1 == some .free
structure CompOk (X:Cx) (scope:Scope) (N':List Str) (cap:List (Option Nat)):Prop where
 kind:scope.kind = .function
 nocell:∀ y ∈ scope.names,y.2 ≠ .cell
 names:∀ y ∈ scope.names,y.2 = .local->scope.names.lookup y.1 = some .local
 freeB:(scope.names.all fun y=>y.2 != .free || X.env.scope.names.lookup y.1 == some .cell || X.env.scope.names.lookup y.1 == some .free) = true
 len:cap.length = N'.length
 cap:ziJ X.N N' cap scope.names = true
theorem CompOk.free {X:Cx} {scope:Scope} {N':List Str} {cap:List (Option Nat)} (c:CompOk X scope N' cap):∀ y ∈ scope.names,y.2 = .free->(X.env.scope.names.lookup y.1 = some .cell ∨ X.env.scope.names.lookup y.1 = some .free):=fun y hy hf=>by
 have h:=List.all_eq_true.mp c.freeB y hy
 rw [hf] at h
 simpa using h
noncomputable def zaG (cap:List (Option Nat)) (σ:St):St:=cap.map fun o=>match o with
 | none=>none
 | some j=>(σ[j]?).join
theorem zgE {N N':List Str} {cap:List (Option Nat)} {names:List (Str × NameKind)} (h:ziJ N N' cap names = true) {i:Nat} {x:Str} {j:Nat} (h1:N'[i]? = some x) (h2:cap[i]? = some (some j)) :
  N[j]? = some x∧names.lookup x = some .free:=by
 have hm:(x,some j) ∈ N'.zip cap:=by
  refine List.mem_of_getElem? (i:=i) ?_
  rw [List.getElem?_zip_eq_some]
  exact ⟨h1,h2⟩
 have:=List.all_eq_true.mp h _ hm
 simpa using this
section
variable {X:Cx} {pins:List (Addr × Obj)} {σ:St} {H:Hp} {s:Shared} {scope:Scope} {N':List Str} {cap:List (Option Nat)}
theorem CompOk.clos (c:CompOk X scope N' cap) (I:Inv X pins σ H s):∀ y ∈ scope.names,y.2 = .free->∃ a,X.env.cells.lookup y.1 = some a:=fun y hy hf=>I.ok.has y.1 (c.free y hy hf)
theorem zfb (c:CompOk X scope N' cap) (I:Inv X pins σ H s) {fp:List Addr} (hf:∀ b ∈ fp,FpOk X pins H b) (ho:∀ b ∈ fp,∃ o,s.heap.get? b = some o) {h₁:Heap} {t:Nat} (hns:h₁.Ns s.heap.objs.size (fun _=>none))
  (hsb:∀ b o,s.heap.get? b = some o->h₁.get? b = some o):Inv (zba X scope N' s.heap.objs.size fp s H) [] (zaG cap σ) H { s with heap:=h₁,toks:=t }:=by
 have hcl:=c.clos I
 have sub:=zeE (env:=X.env) scope.names [] hcl (fun x c e=>by simp at e)
 have CI:∀ x a,(clOf X.env scope.names []).lookup x = some a->X.env.cells.lookup x = some a:=sub
 have cz:∀ x a,(clOf X.env scope.names []).lookup x = some a->a < s.heap.objs.size:=fun x a e=>by
  obtain ⟨v,o,q,_⟩:=I.cell x a (CI x a e)
  exact Heap.lt_size q
 have fz:∀ b ∈ fp,b ≠ s.heap.objs.size->True:=fun _ _ _=>trivial
 refine ⟨⟨I.ok.mod,c.kind,I.ok.glob,I.ok.blt,Nat.le_refl _,fun x y a h1 h2=>I.ok.inj x y a (CI x a h1) (CI y a h2),fun x hx=>?_,fun x a h=>(by cases h),I.ok.hd,I.ok.frames,.inl rfl,fun b hb=>?_,I.bs,Nat.le_trans I.ok.bsz I.sz,fun b o e hb=>?_,fun b hb=>?_,I.stack,I.stkFree⟩,
  rfl,I.bare,Un.kept hsb,⟨_,hns,fun i x v h1 h2 h3=>?_⟩,fun x a e=>?_,I.hok.fresh (Nat.le_refl _),fun x a e=>I.freeC x a (CI x a e),fun p hp=>by simp [zba] at hp,I.hok.kept hsb,?_⟩
 ·have hx:(relabel scope X.env).names.lookup x = some .cell ∨ (relabel scope X.env).names.lookup x = some .free:=hx
  rcases zcf hx with h | h
  ·exact zdj (env:=X.env) scope.names [] (.inl (PySem.mem_of_lookup h))
  ·exact absurd rfl (c.nocell _ (PySem.mem_of_lookup h))
 ·obtain ⟨o,e⟩:=ho b hb
  exact ⟨Nat.ne_of_lt (Heap.lt_size e),fun x a e=>(hf b hb).2.2.2.2.1 x a (CI x a e)⟩
 ·rcases (hf b hb).2.2.2.1 with z | z
  ·exact I.ok.noex b o e z
  ·exact absurd (Nat.lt_of_lt_of_le (Heap.lt_size e) (Nat.le_trans I.ok.bsz z)) (Nat.lt_irrefl _)
 ·intro z
  rcases List.mem_cons.mp (I.stkSub b z) with q | q
  ·exact (hf b hb).2.1 q
  ·exact (hf b hb).2.2.1 q
 ·have hi:i < cap.length:=by
   unfold zaG at h2
   have:=(List.getElem?_eq_some_iff.mp h2).1
   simpa using this
  obtain ⟨j,hj,hv⟩:∃ j,cap[i]? = some (some j)∧σ[j]? = some (some v):=by
   unfold zaG at h2
   rw [List.getElem?_map] at h2
   cases e:cap[i]? with
   | none=>rw [e] at h2; cases h2
   | some o =>
    rw [e] at h2
    cases o with
    | none=>cases h2
    | some j =>
     refine ⟨j,rfl,?_⟩
     have h2:(σ[j]?).join = some v:=Option.some.inj h2
     cases q:σ[j]? with
     | none=>rw [q] at h2; cases h2
     | some y=>rw [q] at h2; cases y with
      | none=>cases h2
      | some z=>exact congrArg some h2
  obtain ⟨hN,hfree⟩:=zgE c.cap h1 hj
  have hk:=c.free (x,.free) (PySem.mem_of_lookup hfree) rfl
  obtain ⟨m,hm,hl⟩:=I.loc
  obtain ⟨u,ru,l⟩:=hl j x v hN hv (hk.elim (fun z=>.inr (.inl z)) fun z=>.inr (.inr z))
  refine ⟨u,ru,.inr ⟨zci hfree,?_⟩⟩
  rcases l with ⟨k,_⟩ | ⟨_,a,ea,ca⟩
  ·have k:X.env.scope.names.lookup x = some .local:=k
   rcases hk with z | z <;> · rw [z] at k; cases k
  ·obtain ⟨a',ea'⟩:=zdj (env:=X.env) (x:=x) scope.names [] (.inl (PySem.mem_of_lookup hfree))
   have:=CI x a' ea'
   rw [ea] at this; cases this
   obtain ⟨o,q,d⟩:=ca
   exact ⟨a,ea',o,hsb a o q,d⟩
 ·obtain ⟨v,o,q,d⟩:=I.cell x a (CI x a e)
  exact ⟨v,o,hsb a o q,d⟩
 ·unfold zaG
  rw [List.length_map]
  exact c.len
end
noncomputable def PIfs (Y:Cx) (ifs:List Expr) (t:TT):Prop :=
 ∀ (pins:List (Addr × Obj)) (s:Shared) (σ:St) (H:Hp) (Q:Bool->Hp->Prop) (E:Value->Shared->Prop),Inv Y pins σ H s->t σ H Q ->
  wpAny (model Y.prog Y.w) Y.A (forIn ifs true fun c r=>if r = true then do let ok ← isTrue c Y.env (eval c Y.env); pure (ForInStep.yield ok) else pure (ForInStep.yield r)) (TP Y pins σ Q) E s
noncomputable def tTrue:TT:=fun _ H Q=>Q true H
theorem zaJ {Y:Cx}:PIfs Y [] tTrue:=fun pins s σ H Q E I h=>wpAny_tests_nil ⟨H,I,h⟩
theorem zcw {Y:Cx} {c:Expr} {t:TT} (h:PT Y.nox c t):PIfs Y [c] t:=fun pins s σ H Q E I hw =>
 wpAny_tests_one (wpAny_mono (h pins s σ H Q (I.wish _) hw) (fun _ _ ⟨H',I',q⟩=>⟨H',I'.unwish,q⟩) fun _ _ z=>False.elim z)
noncomputable def GKp (own:Nat->Bool) (g:TG):Prop:=∀ v σ H Q,g v σ H Q->g v σ H fun σ' H'=>(σ'.length = σ.length∧∀ i,own i = false->σ'[i]? = σ[i]?)∧Q σ' H'
noncomputable def GsKp (own:Nat->Bool) (g:TGs):Prop:=∀ vs σ H Q,g vs σ H Q->g vs σ H fun σ' H'=>(σ'.length = σ.length∧∀ i,own i = false->σ'[i]? = σ[i]?)∧Q σ' H'
theorem zaS {own:Nat->Bool} {j:Nat} (h:own j = true:=by rfl):GKp own (zcJ j):=fun v σ H Q q =>
 ⟨⟨List.length_set ..,fun i hi=>List.getElem?_set_ne (fun e=>by rw [e,hi] at h; cases h)⟩,q⟩
theorem zbi {own:Nat->Bool}:GsKp own gNil:=fun vs σ H Q q=>⟨q.1,⟨rfl,fun _ _=>rfl⟩,q.2⟩
theorem zaO {own:Nat->Bool} {j:Nat} {u:TGs} (h:own j = true) (hu:GsKp own u):GsKp own (zhG (zcJ j) u):=by
 intro vs σ H Q q
 obtain ⟨v,r,e,q⟩:=q
 refine ⟨v,r,e,?_⟩
 have q:=hu r (σ.set j (some v)) H Q q
 have k:∀ i,own i = false->(σ.set j (some v))[i]? = σ[i]?:=fun i hi=>List.getElem?_set_ne (fun e=>by rw [e,hi] at h; cases h)
 have q:=hu r (σ.set j (some v)) H _ q
 show u r (σ.set j (some v)) H _
 have e2:(fun (σ':St) (H':Hp)=>(σ'.length = (σ.set j (some v)).length∧∀ i,own i = false->σ'[i]? = (σ.set j (some v))[i]?)∧(σ'.length = (σ.set j (some v)).length∧∀ i,own i = false->σ'[i]? = (σ.set j (some v))[i]?)∧Q σ' H') = fun σ' H'=>(σ'.length = σ.length∧∀ i,own i = false->σ'[i]? = σ[i]?)∧Q σ' H':=by
  funext σ' H'
  refine propext ⟨fun z=>⟨⟨by rw [z.1.1,List.length_set],fun i hi=>by rw [z.1.2 i hi,k i hi]⟩,z.2.2⟩,fun z=>?_⟩
  have a:σ'.length = (σ.set j (some v)).length∧∀ i,own i = false->σ'[i]? = (σ.set j (some v))[i]?:=⟨by rw [z.1.1,List.length_set],fun i hi=>by rw [z.1.2 i hi,k i hi]⟩
  exact ⟨a,a,z.2⟩
 rw [e2] at q
 exact q
theorem zbS {own:Nat->Bool} {K:PySem.W.Frag} {n:Nat} {t:TGs} (h:GsKp own t):GKp own (gTup K n t):=fun v σ H Q ⟨a,xs,e,hq,hl,q⟩=>⟨a,xs,e,hq,hl,h xs σ H Q q⟩
noncomputable def zhh (cap:List (Option Nat)) (i:Nat):Bool:=cap[i]? == some none
noncomputable def zbJ (cap:List (Option Nat)) (wi:TI) (g:TG) (tt:TT) (te:TE):TE:=fun σ H Q=>wi σ H fun J H1=>∀ D,H1 D = none ->
 ∃ W:Nat->Nat->List V->Hp->Prop,(∃ m,W 0 m [] (upd H1 D (.lst [])))∧∀ i m ys H2,W i m ys H2->H2 D = some (.lst ys) ∧
  ((J.stop i H2∧Q (.ref D) H2) ∨ (J.go i H2∧ys.length < sizeLine∧∃ N:List V->Hp->Prop,(∀ ys' H',N ys' H'->∃ m',m' < m∧W (i + 1) m' ys' H')∧∀ x H3,J.yld i H2 x H3->g x (zaG cap σ) H3 fun σ4 H4=>tt σ4 H4 fun b H5 =>
   if b = true then te σ4 H5 fun y H6=>H6 D = some (.lst ys)∧N (ys ++ [y]) (upd H6 D (.lst (ys ++ [y]))) else N ys H5))
section
variable {X:Cx} {pins:List (Addr × Obj)} {σ:St} {H:Hp} {s:Shared} {scope:Scope} {N':List Str} {cap:List (Option Nat)}
theorem zd2 {tg elt iter:Expr} {ifs:List Expr} {pos:Pos} {g:TG} {tt:TT} {te:TE} {it:Addr} {fp:List Addr} {tn:Nat->Heap->Prop} {J:It} {RR:Value->Addr->Result->Shared->Prop} {Q:VK} {E:Value->Shared->Prop}
  (c:CompOk X scope N' cap) (hc:X.calm = true) (I:Inv X pins σ H s) (T:Turn X.prog X.w X.K tg J fp it tn) (st:tn 0 s.heap) (hf:∀ b ∈ fp,FpOk X pins H b)
  (hg:∀ C ex s H,PG (zba X scope N' C ex s H) tg g) (hk:GKp (zhh cap) g) (hi:∀ C ex s H,PIfs (zba X scope N' C ex s H) ifs tt) (he:∀ C ex s H,PE (zba X scope N' C ex s H) elt te)
  (h:∀ D,H D = none ->
   ∃ W:Nat->Nat->List V->Hp->Prop,(∃ m,W 0 m [] (upd H D (.lst [])))∧∀ i m ys H2,W i m ys H2->H2 D = some (.lst ys) ∧
    ((J.stop i H2∧Q (.ref D) H2) ∨ (J.go i H2∧ys.length < sizeLine∧∃ N:List V->Hp->Prop,(∀ ys' H',N ys' H'->∃ m',m' < m∧W (i + 1) m' ys' H')∧∀ x H3,J.yld i H2 x H3->g x (zaG cap σ) H3 fun σ4 H4=>tt σ4 H4 fun b H5 =>
     if b = true then te σ4 H5 fun y H6=>H6 D = some (.lst ys)∧N (ys ++ [y]) (upd H6 D (.lst (ys ++ [y]))) else N ys H5)))
  (hRR:∀ D C H' s',Inv X pins σ H' s'->FpOk X pins H' C->(∃ m,s'.heap.Ns C m)->Q (.ref D) H'->RR (.ref D) C (.ok .next) s') :
  wpAny (model X.prog X.w) X.A (newList []) (fun acc s₃=>wpAny (model X.prog X.w) X.A (newFunctionEnv scope X.env.globals (clOf X.env scope.names []) [] X.env.qual none .none (some X.env)) (fun cenv s₄ =>
   codeAny (model X.prog X.w) X.A (.compStart (.ListComp elt [⟨tg,iter,ifs,0⟩] scope pos) 0 (.ref it) acc { cenv with scope:=relabel scope X.env }) (RR acc cenv.locals) s₄) E s₃) E s:=by
 refine wpAny_newObj_type (wpAny_newFunctionEnv c.nocell (by intro y hy; simp at hy) (fun h₁ hns₁ hsb₁=>?_) c.kind)
 dsimp only at hns₁ hsb₁ ⊢
 have hD:H s.heap.objs.size = none:=I.hok.fresh (Nat.le_refl _)
 have I1:Inv X pins σ (upd H s.heap.objs.size (.lst [])) { s with heap:=s.heap.push { cls:=.type "list",dict:=none,data:=.seq ([]:List Value).toArray } } :=
  I.laid (t':=s.toks) (fun b u e=>Heap.get?_push_of_some _ e) (Nat.le_refl _) ⟨Nat.zero_le _,[],0,.nil,Heap.get?_push_size _ rfl⟩
 have ob:∀ b ∈ fp,∃ o,s.heap.get? b = some o∧∀ v,o.data ≠ .cell v:=T.obj 0 _ st
 have hf1:∀ b ∈ fp,FpOk X pins (upd H s.heap.objs.size (.lst [])) b:=fun b hb=>by
  obtain ⟨o,e,_⟩:=ob b hb
  have:b ≠ s.heap.objs.size:=Nat.ne_of_lt (Heap.lt_size e)
  exact ⟨by rw [zaj this]; exact (hf b hb).1,(hf b hb).2⟩
 generalize hs1:({ s with heap:=s.heap.push { cls:=.type "list",dict:=none,data:=.seq ([]:List Value).toArray } }:Shared) = s1 at I1
 have hh:s.heap.push { cls:=.type "list",dict:=none,data:=.seq ([]:List Value).toArray } = s1.heap:=by rw [← hs1]
 have old1:∀ b o,s.heap.get? b = some o->s1.heap.get? b = some o:=fun b o e=>by rw [← hh]; exact Heap.get?_push_of_some _ e
 rw [hh] at hns₁ hsb₁ ⊢
 have old2:∀ b o,s1.heap.get? b = some o->h₁.get? b = some o:=fun b o e=>hsb₁.extBut b o (Nat.ne_of_lt (Heap.lt_size e)) (Heap.get?_push_of_some _ e)
 have J0:Inv (zba X scope N' s1.heap.objs.size fp s1 (upd H s.heap.objs.size (.lst []))) [] (zaG cap σ) (upd H s.heap.objs.size (.lst [])) { s1 with heap:=h₁,toks:=s.toks + ([]:List (Str × Value)).length } :=
  zfb c I1 hf1 (fun b hb=>(ob b hb).imp fun o e=>old1 b o e.1) hns₁ old2
 have es4:({ heap:=h₁,gens:=s.gens,drawn:=s.drawn,toks:=s.toks + ([]:List (Str × Value)).length,os:=s.os }:Shared) = { s1 with heap:=h₁,toks:=s.toks + ([]:List (Str × Value)).length }:=by rw [← hs1]
 have st4:tn 0 ({ s1 with heap:=h₁,toks:=s.toks + ([]:List (Str × Value)).length }:Shared).heap:=T.keep 0 _ _ st fun b hb o e=>old2 b o (old1 b o e)
 rw [es4]
 generalize ({ s1 with heap:=h₁,toks:=s.toks + ([]:List (Str × Value)).length }:Shared) = s4 at J0 st4 ⊢
 obtain ⟨W,⟨m0,w0⟩,step⟩:=h _ hD
 generalize hY:zba X scope N' s1.heap.objs.size fp s1 (upd H s.heap.objs.size (.lst [])) = Y at J0
 have stat:∀ {H':Hp},(∀ b ∈ fp,H' b = none)->∀ b ∈ fp,FpOk Y [] H' b:=fun hn b hb=>by
  obtain ⟨o,e,_⟩:=ob b hb
  have e1:=old1 b o e
  subst hY
  refine ⟨hn b hb,Nat.ne_of_lt (Heap.lt_size e1),fun z=>?_,.inl hb,fun x a q=>(J0.ok.exf b hb).2 x a q,fun p hp=>by simp [zba] at hp⟩
  exact J0.ok.exfs b hb z
 have loop:codeAny (model X.prog X.w) X.A (.compLoop (.ListComp elt [⟨tg,iter,ifs,0⟩] scope pos) 0 (.ref it) (.ref s.heap.objs.size) (compEnvC scope (clOf X.env scope.names []) s1.heap.objs.size X.env)) (RR (.ref s.heap.objs.size) s1.heap.objs.size) s4:=by
  refine zdL (fun n s'=>∃ i ys H',Inv Y [] (zaG cap σ) H' s'∧tn i s'.heap∧(∀ b ∈ fp,H' b = none)∧W i n ys H') ?_ m0 ⟨0,[],_,J0,st4,fun b hb=>(hf1 b hb).1,w0⟩
  rintro n s3 ⟨i,ys,H3,I3,st3,fr3,w3⟩
  obtain ⟨hDl,alt⟩:=step i n ys H3 w3
  rcases alt with ⟨stop,q⟩ | ⟨go,hlen,NN,hNN,stp⟩
  ·have:=T.done Y (by rw [← hY]; rfl) (by rw [← hY]; rfl) (by rw [← hY]; rfl) (by rw [← hY]; exact hc) i [] s3 (zaG cap σ) H3 (notedBy (model X.prog X.w) X.A (compEnvC scope (clOf X.env scope.names []) s1.heap.objs.size X.env) fun e s'=>RR (.ref s.heap.objs.size) s1.heap.objs.size (.error e) s') I3 (stat fr3) st3 stop
   subst hY
   refine thn this fun r s5 ⟨hr,I5⟩=>?_
   subst hr
   refine hRR _ _ H3 s5 (I1.call' I5.os I5.base I5.hok I5.bare fun b hb=>?_) (I1.fpOk (Nat.le_refl _) I5.free) (I5.loc.imp fun m z=>z.1) q
   obtain ⟨_,f1,f2,f3,f4,f5⟩:=hf1 b hb
   exact ⟨f3,f1,f4,f5⟩
  ·have:=T.item Y (by rw [← hY]; rfl) (by rw [← hY]; rfl) (by rw [← hY]; rfl) (by rw [← hY]; exact hc) i [] s3 (zaG cap σ) H3 (notedBy (model X.prog X.w) X.A (compEnvC scope (clOf X.env scope.names []) s1.heap.objs.size X.env) fun e s'=>RR (.ref s.heap.objs.size) s1.heap.objs.size (.error e) s') I3 (stat fr3) st3 go
   have hgY:=hg s1.heap.objs.size fp s1 (upd H s.heap.objs.size (.lst []))
   have hiY:=hi s1.heap.objs.size fp s1 (upd H s.heap.objs.size (.lst []))
   have heY:=he s1.heap.objs.size fp s1 (upd H s.heap.objs.size (.lst []))
   rw [hY] at hgY hiY heY
   have nox:∀ {P:Value->Shared->Prop} e s',Y.xe e s'->P e s':=fun e s' z=>by subst hY; exact False.elim z
   have eA:Y.A = X.A:=by rw [← hY]; rfl
   have eP:Y.prog = X.prog:=by rw [← hY]; rfl
   have eW:Y.w = X.w:=by rw [← hY]; rfl
   have eE:Y.env = compEnvC scope (clOf X.env scope.names []) s1.heap.objs.size X.env:=by rw [← hY]; rfl
   rw [← eA,← eP,← eW,← eE] at this ⊢
   refine thn this fun r s5 ⟨u,hr,h5⟩=>?_
   subst hr
   refine thn h5 fun _ s6 ⟨x,H6,I6,rx,y6,st6,fr6⟩=>?_
   have I6':=I6.pinned (stat fr6) (T.obj _ _ st6)
   refine wpAny_mono (hgY _ s6 (zaG cap σ) H6 x u _ I6' rx (hk _ _ _ _ (stp x H6 y6))) (fun _ s7 ⟨σ7,H7,I7,⟨k1,k2⟩,q7⟩=>?_) nox
   refine thn (hiY _ s7 σ7 H7 _ _ I7 q7) fun ok s8 ⟨H8,I8,q8⟩=>?_
   have again:∀ {H9:Hp} {s9:Shared} {σ9:St} {ys':List V},Inv Y ([] ++ zd8 fp s6.heap) σ9 H9 s9->σ9.length = (zaG cap σ).length->(∀ (i:Nat) v,(zaG cap σ)[i]? = some (some v)->σ9[i]? = some (some v))->(∃ m',m' < n∧W (i + 1) m' ys' H9)->∃ m,m < n∧∃ i ys H',Inv Y [] (zaG cap σ) H' s9∧tn i s9.heap∧(∀ b ∈ fp,H' b = none)∧W i m ys H':=by
    rintro H9 s9 σ9 ys' I9 hl hw ⟨m',hm,w9⟩
    refine ⟨m',hm,i + 1,ys',H9,I9.unpinned.weak hl.symm hw,T.keep _ _ _ st6 fun b hb o e=>(I9.pin (b,o) (List.mem_append_right _ (List.mem_append_right _ (zbz hb e)))).1,fun b hb=>?_,w9⟩
    obtain ⟨o,e,d⟩:=T.obj _ _ st6 b hb
    exact (I9.pin (b,o) (List.mem_append_right _ (List.mem_append_right _ (zbz hb e)))).2.1
   have kw:∀ (i:Nat) v,(zaG cap σ)[i]? = some (some v)->σ7[i]? = some (some v):=fun i v e=>by
    rw [k2 i ?_]
    ·exact e
    ·unfold zhh
     cases q:cap[i]? with
     | none=>rfl
     | some o =>
      cases o with
      | none =>
       unfold zaG at e
       rw [List.getElem?_map,q] at e
       cases e
      | some j=>rfl
   cases ok with
   | false =>
    rw [if_neg Bool.false_ne_true] at q8 ⊢
    exact again I8 k1 kw (hNN _ _ q8)
   | true =>
    rw [if_pos rfl] at q8 ⊢
    refine wpAny_mono (heY _ s8 σ7 H8 _ I8 q8) (fun u9 s9 ⟨y,H9,I9,ry,hD9,q9⟩=>?_) nox
    refine wpAny_mono (mt_append (X:=Y) _ s9 σ7 H9 (.ref s.heap.objs.size) [y] (.ref s.heap.objs.size) [u9] (fun _ H10=>NN (ys ++ [y]) H10) I9 rfl (.cons ry .nil) ⟨_,ys,y,rfl,rfl,hD9,hlen,q9⟩) (fun _ s10 ⟨_,H10,I10,_,q10⟩=>?_) nox
    exact again I10 k1 kw (hNN _ _ q10)
 exact codeAny_compStart_list loop (T.self X.A 0 _ _ _ st4 loop)
theorem zdY {C:Addr} {H':Hp} {s':Shared} (I':Inv X pins σ H' s') (fC:FpOk X pins H' C) {h':Heap} (hs':Heap.SameBut C s'.heap h'):Inv X pins σ H' { s' with heap:=h' }:=by
 obtain ⟨f0,f1,f2,f3,f4,f5⟩:=fC
 exact I'.turned (t':=s'.toks) (fun b o hb e=>hs'.extBut b o hb e) f0 f1 f3 f4 f5
theorem zaW {tg elt iter:Expr} {ifs:List Expr} {pos:Pos} {wi:TI} {g:TG} {tt:TT} {te:TE} (c:CompOk X scope N' cap) (hc:X.calm = true) (hit:PI X tg iter wi)
  (hg:∀ C ex s H,PG (zba X scope N' C ex s H) tg g) (hk:GKp (zhh cap) g) (hi:∀ C ex s H,PIfs (zba X scope N' C ex s H) ifs tt) (he:∀ C ex s H,PE (zba X scope N' C ex s H) elt te)
  (hs:∀ x,foldedSetIterable iter X.env x = pure x:=by intro _; rfl):PE X (.ListComp elt [⟨tg,iter,ifs,0⟩] scope pos) (zbJ cap wi g tt te):=by
 intro pins s σ H Q I h
 rw [eval_ListComp]
 refine wpAny_comprehension_free (use:=none) rfl hs (zbT (c.clos I)) c.kind c.names (thn (hit pins s σ H _ I h) fun v s1 h1=>thn h1 fun itv s2 h2=>?_)
 obtain ⟨it,fp,tn,J,H2,e,I2,T,st2,f2,q⟩:=h2
 subst e
 refine zd2 c hc I2 T st2 f2 hg hk hi he q fun D C H' s' I' fC hn hq=>?_
 obtain ⟨m,hn⟩:=hn
 exact ⟨m,hn,fun h' hs'=>⟨.ref D,H',zdY I' fC hs',rfl,hq⟩⟩
theorem zcb {i:Nat} {x:Str} {px spos:Pos} {tg elt iter:Expr} {ifs:List Expr} {pos:Pos} {wi:TI} {g:TG} {tt:TT} {te:TE} (hN:X.N.Nodup) (hx0:X.N[i]? = some x) (hx:Loc X.env.scope x)
  (c:CompOk X scope N' cap) (hc:X.calm = true) (hit:PI X tg iter wi)
  (hg:∀ C ex s H,PG (zba X scope N' C ex s H) tg g) (hk:GKp (zhh cap) g) (hi:∀ C ex s H,PIfs (zba X scope N' C ex s H) ifs tt) (he:∀ C ex s H,PE (zba X scope N' C ex s H) elt te)
  (hsw:swapsWith (.ListComp elt [⟨tg,iter,ifs,0⟩] scope pos) (some (.Name x px)) spos.line X.env = pure true:=by rfl)
  (hs:∀ x,foldedSetIterable iter X.env x = pure x:=by intro _; rfl) (hf:X.fn x = true ∨ X.env.scope.names.lookup x = some .local:=by first | exact .inl rfl | exact .inr rfl | assumption):PS X (.Assign [.Name x px] (.ListComp elt [⟨tg,iter,ifs,0⟩] scope pos) spos) (tAsg (zbJ cap wi g tt te) (zcJ i)):=by
 intro pins s σ H D0 I h
 rw [exec_Assign_Name_used _ _ _ _ hsw]
 refine wpAny_bind (wpAny_standAt (wpAny_bind ?_))
 show wpAny _ X.A (do let _ ← comprehension (.ListComp elt [⟨tg,iter,ifs,0⟩] scope pos) scope X.env _ (newList []) false (eval iter X.env) (some (assign (.Name x px) X.env))) _ _ s
 refine wpAny_bind (wpAny_mono (wpAny_comprehension_free (use:=some (assign (.Name x px) X.env)) (Q:=fun _ s'=>SP X pins D0 .next s') rfl hs (zbT (c.clos I)) c.kind c.names
  (thn (hit pins s σ H _ I h) fun v s1 h1=>thn h1 fun itv s2 h2=>?_)) (fun _ s' hq=>wpAny_pure (wpAny_pure hq)) fun _ _ e=>e)
 obtain ⟨it,fp,tn,J,H2,e,I2,T,st2,f2,q⟩:=h2
 subst e
 refine zd2 (Q:=fun v H1=>zcJ i v σ H1 D0.nx) c hc I2 T st2 f2 hg hk hi he q fun D C H' s' I' fC hn hq=>?_
 obtain ⟨m,hn⟩:=hn
 refine wpAny_assign_Name (zdK (v:=.ref D) I' hN hx0 hx rfl (fun s'' I'' ⟨a,sb,ha⟩=>?_) hf)
 have hne:C ≠ a:=by
  rcases ha with z | z
  ·rw [z]; exact fC.2.1
  ·exact fun e=>fC.2.2.2.2.1 x a z e.symm
 exact ⟨m,hn.sameBut sb hne,fun h' hs'=>⟨σ.set i (some (.ref D)),H',zdY I'' fC hs',hq⟩⟩
end
theorem zdV {K:PySem.W.Frag} {a D:Addr} {xs:List V} {g:TG} {tt:TT} {te:TE} {σ0:St} {H1:Hp} {R:Hp->Prop} (Pv:Nat->List V->Hp->Prop) (h0:Pv 0 [] (upd H1 D (.lst [])))
  (hl:∀ i ys H,i ≤ xs.length->Pv i ys H->SqL K H a xs∧H D = some (.lst ys)∧ys.length ≤ i) (hz:xs.length ≤ sizeLine)
  (hs:∀ i x ys H,xs[i]? = some x->Pv i ys H->g x σ0 H fun σ4 H4=>tt σ4 H4 fun b H5=>if b = true then te σ4 H5 fun y H6=>H6 D = some (.lst ys)∧Pv (i + 1) (ys ++ [y]) (upd H6 D (.lst (ys ++ [y]))) else Pv (i + 1) ys H5)
  (hd:∀ ys H,Pv xs.length ys H->R H) :
  ∃ W:Nat->Nat->List V->Hp->Prop,(∃ m,W 0 m [] (upd H1 D (.lst [])))∧∀ i m ys H2,W i m ys H2->H2 D = some (.lst ys) ∧
   (((Itl K a).stop i H2∧R H2) ∨ ((Itl K a).go i H2∧ys.length < sizeLine∧∃ N:List V->Hp->Prop,(∀ ys' H',N ys' H'->∃ m',m' < m∧W (i + 1) m' ys' H')∧∀ x H3,(Itl K a).yld i H2 x H3->g x σ0 H3 fun σ4 H4=>tt σ4 H4 fun b H5 =>
    if b = true then te σ4 H5 fun y H6=>H6 D = some (.lst ys)∧N (ys ++ [y]) (upd H6 D (.lst (ys ++ [y]))) else N ys H5)):=by
 refine ⟨fun i m ys H=>m = xs.length - i∧i ≤ xs.length∧Pv i ys H,⟨xs.length,by simp,Nat.zero_le _,h0⟩,?_⟩
 rintro i m ys H2 ⟨rfl,hi,p⟩
 obtain ⟨q,hD,hly⟩:=hl i ys H2 hi p
 refine ⟨hD,?_⟩
 by_cases hlt:i < xs.length
 ·refine .inr ⟨⟨xs,xs[i],q,by simp [hlt]⟩,by omega,Pv (i + 1),fun ys' H' p'=>⟨xs.length - (i + 1),by omega,rfl,hlt,p'⟩,fun x H3 y=>?_⟩
  obtain ⟨e,y⟩:=y
  subst e
  exact hs i x ys _ (y xs q) p
 ·have e:i = xs.length:=by omega
  subst e
  exact .inl ⟨⟨xs,q,Nat.le_refl _⟩,hd ys H2 p⟩
theorem zgZ {K:PySem.W.Frag} {a D:Addr} {xs:List V} {g:TG} {tt:TT} {te:TE} {σ0:St} {H1:Hp} {R:Hp->Prop} (Pv:Nat->List V->Hp->Prop) (h0:Pv 0 [] (upd H1 D (.lst [])))
  (hl:∀ i ys H,i ≤ xs.length->Pv i ys H->SqT K H a xs∧H D = some (.lst ys)∧ys.length ≤ i) (hz:xs.length ≤ sizeLine)
  (hs:∀ i x ys H,xs[i]? = some x->Pv i ys H->g x σ0 H fun σ4 H4=>tt σ4 H4 fun b H5=>if b = true then te σ4 H5 fun y H6=>H6 D = some (.lst ys)∧Pv (i + 1) (ys ++ [y]) (upd H6 D (.lst (ys ++ [y]))) else Pv (i + 1) ys H5)
  (hd:∀ ys H,Pv xs.length ys H->R H) :
  ∃ W:Nat->Nat->List V->Hp->Prop,(∃ m,W 0 m [] (upd H1 D (.lst [])))∧∀ i m ys H2,W i m ys H2->H2 D = some (.lst ys) ∧
   (((Itt K a).stop i H2∧R H2) ∨ ((Itt K a).go i H2∧ys.length < sizeLine∧∃ N:List V->Hp->Prop,(∀ ys' H',N ys' H'->∃ m',m' < m∧W (i + 1) m' ys' H')∧∀ x H3,(Itt K a).yld i H2 x H3->g x σ0 H3 fun σ4 H4=>tt σ4 H4 fun b H5 =>
    if b = true then te σ4 H5 fun y H6=>H6 D = some (.lst ys)∧N (ys ++ [y]) (upd H6 D (.lst (ys ++ [y]))) else N ys H5)):=by
 refine ⟨fun i m ys H=>m = xs.length - i∧i ≤ xs.length∧Pv i ys H,⟨xs.length,by simp,Nat.zero_le _,h0⟩,?_⟩
 rintro i m ys H2 ⟨rfl,hi,p⟩
 obtain ⟨q,hD,hly⟩:=hl i ys H2 hi p
 refine ⟨hD,?_⟩
 by_cases hlt:i < xs.length
 ·refine .inr ⟨⟨xs,xs[i],q,by simp [hlt]⟩,by omega,Pv (i + 1),fun ys' H' p'=>⟨xs.length - (i + 1),by omega,rfl,hlt,p'⟩,fun x H3 y=>?_⟩
  obtain ⟨e,y⟩:=y
  subst e
  exact hs i x ys _ (y xs q) p
 ·have e:i = xs.length:=by omega
  subst e
  exact .inl ⟨⟨xs,q,Nat.le_refl _⟩,hd ys H2 p⟩
theorem zc4 {lo:Int} {n:Nat} {D:Addr} {g:TG} {tt:TT} {te:TE} {σ0:St} {H1:Hp} {R:Hp->Prop} (Pv:Nat->List V->Hp->Prop) (h0:Pv 0 [] (upd H1 D (.lst [])))
  (hl:∀ i ys H,i ≤ n->Pv i ys H->H D = some (.lst ys)∧ys.length ≤ i) (hz:n ≤ sizeLine)
  (hs:∀ i ys H,i < n->Pv i ys H->g (.int (lo + i)) σ0 H fun σ4 H4=>tt σ4 H4 fun b H5=>if b = true then te σ4 H5 fun y H6=>H6 D = some (.lst ys)∧Pv (i + 1) (ys ++ [y]) (upd H6 D (.lst (ys ++ [y]))) else Pv (i + 1) ys H5)
  (hd:∀ ys H,Pv n ys H->R H) :
  ∃ W:Nat->Nat->List V->Hp->Prop,(∃ m,W 0 m [] (upd H1 D (.lst [])))∧∀ i m ys H2,W i m ys H2->H2 D = some (.lst ys) ∧
   (((Itr lo n).stop i H2∧R H2) ∨ ((Itr lo n).go i H2∧ys.length < sizeLine∧∃ N:List V->Hp->Prop,(∀ ys' H',N ys' H'->∃ m',m' < m∧W (i + 1) m' ys' H')∧∀ x H3,(Itr lo n).yld i H2 x H3->g x σ0 H3 fun σ4 H4=>tt σ4 H4 fun b H5 =>
    if b = true then te σ4 H5 fun y H6=>H6 D = some (.lst ys)∧N (ys ++ [y]) (upd H6 D (.lst (ys ++ [y]))) else N ys H5)):=by
 refine ⟨fun i m ys H=>m = n - i∧i ≤ n∧Pv i ys H,⟨n,by simp,Nat.zero_le _,h0⟩,?_⟩
 rintro i m ys H2 ⟨rfl,hi,p⟩
 obtain ⟨hD,hly⟩:=hl i ys H2 hi p
 refine ⟨hD,?_⟩
 by_cases hlt:i < n
 ·refine .inr ⟨hlt,by omega,Pv (i + 1),fun ys' H' p'=>⟨n - (i + 1),by omega,rfl,hlt,p'⟩,fun x H3 y=>?_⟩
  obtain ⟨e,y⟩:=y
  subst e y
  exact hs i ys _ hlt p
 ·have e:i = n:=by omega
  subst e
  exact .inl ⟨Nat.le_refl _,hd ys H2 p⟩
end L2
set_option Elab.async false
set_option linter.all false
set_option maxRecDepth 100000
namespace L2
open PySem PySem.Spec PyProof.Rows
noncomputable def zhj (i j:Int):Prop:=0 < j∧j ≤ 10 ^ 70
section
variable {X:Cx}
theorem op_fdivB:OpR X (binaryOp .FloorDiv) (rI zhj fun i j=>.int (i / j)):=opI fun i j _ _ _ _ _ hc q=>by
 have h1:(0:Int) < j:=hc.1
 have h2:j ≤ 10 ^ 70:=hc.2
 refine floordiv_int (by omega) ?_ (.inl (PyProof.noPylong_of_log2 ?_))
 ·rw [Int.fdiv_eq_ediv_of_nonneg _ (by omega)]
  exact q
 ·have h3:j.natAbs < 2 ^ 300:=by
   have:(j.natAbs:Int) = j:=by omega
   have h4:(10:Int) ^ 70 < 2 ^ 300:=by decide
   omega
  have h5:j.natAbs.log2 < 300:=(Nat.log2_lt (by omega)).mpr h3
  omega
theorem call_isinst:zbt X (.builtin "isinstance") (fun xs H Q=>∃ x n t b,xs = [x,.ty n]∧TyOf X.K H x t∧PySem.W.kitOne X.K t (.type n) = some b∧Q (.bl b) H):=by
 intro pins s σ H xs us Q I r h
 obtain ⟨x,n,t,b,rfl,ty,e,q⟩:=h
 obtain ⟨u,v,rfl,ru,rv⟩:=Vals.two r
 cases rv
 exact zfN I ru ty e fun tk=>⟨.bl b,H,I.tok _,rfl,q⟩
end
noncomputable def eqVs (xs ys:List V):Bool:=xs.length == ys.length && (xs.zip ys).all fun p=>eqV p.1 p.2
theorem range_all_zip:∀ (xs ys:List V),xs.length = ys.length->((List.range xs.length).all fun j=>eqV (xs.getD j .non) (ys.getD j .non)) = (xs.zip ys).all fun p=>eqV p.1 p.2
 | [],[],_=>rfl
 | x :: xs,y :: ys,h=>by
  have ih:=range_all_zip xs ys (by simpa using h)
  rw [List.length_cons,List.range_succ_eq_map,List.all_cons,List.all_map,List.zip_cons_cons,List.all_cons,← ih]
  rfl
 | [],_ :: _,h=>by simp at h
 | _ :: _,[],h=>by simp at h
theorem range_all_zip':∀ (xs ys:List V),((List.range (min xs.length ys.length)).all fun j=>eqV (xs.getD j .non) (ys.getD j .non)) = (xs.zip ys).all fun p=>eqV p.1 p.2
 | [],ys=>by simp
 | x :: xs,[]=>by simp
 | x :: xs,y :: ys=>by
  have ih:=range_all_zip' xs ys
  rw [List.length_cons,List.length_cons,Nat.succ_min_succ,Nat.succ_eq_add_one,List.range_succ_eq_map,List.all_cons,List.all_map,List.zip_cons_cons,List.all_cons,← ih]
  rfl
noncomputable def rEqD (K:PySem.W.Frag) (neg:Bool):R2:=fun x y H Q=>∃ l b xs ys,x = .ref l∧y = .ref b∧((SqL K H l xs∧SqL K H b ys) ∨ (SqT K H l xs∧SqT K H b ys))∧xs.all flatV = true∧ys.all flatV = true ∧
 Q (.bl (if neg then !eqVs xs ys else eqVs xs ys)) H
section
variable {X:Cx}
theorem items_eqAt {A:Around} {s:Shared} {xs ys:List V} {us ws:List Value} (r:Vals xs us) (q:Vals ys ws) (fx:xs.all flatV = true) (fy:ys.all flatV = true) :
  ∀ j (h1:j < us.toArray.size) (h2:j < ws.toArray.size),SeqAt.EqAt A s us.toArray[j] ws.toArray[j] (eqV (xs.getD j .non) (ys.getD j .non)):=by
 intro j h1 h2
 have l1:=r.length
 have l2:=q.length
 simp only [List.size_toArray] at h1 h2
 have hx:xs[j]? = some xs[j]:=List.getElem?_eq_getElem (by omega)
 have hy:ys[j]? = some ys[j]:=List.getElem?_eq_getElem (by omega)
 obtain ⟨u,eu,ru⟩:=r.get hx
 obtain ⟨v,ev,rv⟩:=q.get hy
 have e1:us.toArray[j] = u:=by
  have:=(List.getElem?_eq_some_iff.mp eu).2
  simpa using this
 have e2:ws.toArray[j] = v:=by
  have:=(List.getElem?_eq_some_iff.mp ev).2
  simpa using this
 have e3:xs.getD j .non = xs[j]:=by rw [List.getD_eq_getElem?_getD,hx]; rfl
 have e4:ys.getD j .non = ys[j]:=by rw [List.getD_eq_getElem?_getD,hy]; rfl
 rw [e1,e2,e3,e4]
 exact zhx ru rv (List.all_eq_true.mp fx _ (List.getElem_mem _)) (List.all_eq_true.mp fy _ (List.getElem_mem _))
theorem ziI (hu:X.A.units + 1 < cLine):OpR X (compareOp .NotEq) (rEqD X.K true):=by
 intro pins s σ H x y v u Q I rx ry h
 obtain ⟨l,b,xs,ys,rfl,rfl,hq,fx,fy,q⟩:=h
 cases rx
 cases ry
 rcases hq with ⟨h1,h2⟩ | ⟨h1,h2⟩
 ·obtain ⟨us,r1,p1,z1⟩:=I.list h1
  obtain ⟨ws,r2,p2,z2⟩:=I.list h2
  have l1:=r1.length
  have l2:=r2.length
  by_cases hl:xs.length = ys.length
  ·refine SeqAt.RcNeAt.lists p1.isList p2.isList (by simp; omega) (by omega) (items_eqAt r1 r2 fx fy) _ _ _ _ ⟨.bl _,H,I,rfl,?_⟩
   have e:(List.range us.toArray.size).all (fun j=>eqV (xs.getD j .non) (ys.getD j .non)) = eqVs xs ys:=by
    unfold eqVs
    rw [List.size_toArray,← l1,range_all_zip xs ys hl,hl]
    simp
   rw [e]
   exact q
  ·refine SeqAt.RcNeAt.lists_lengths p1.isList p2.isList (by simp; omega) (by omega) _ _ _ _ ⟨.bl _,H,I,rfl,?_⟩
   have e:eqVs xs ys = false:=by unfold eqVs; simp [hl]
   have q:Q (.bl (!eqVs xs ys)) H:=q
   rw [e] at q
   exact q
 ·obtain ⟨us,r1,p1,z1⟩:=I.tuple h1
  obtain ⟨ws,r2,p2,z2⟩:=I.tuple h2
  have l1:=r1.length
  have l2:=r2.length
  refine SeqAt.RcNeAt.tuples p1 p2 (by omega) (items_eqAt r1 r2 fx fy) _ _ _ _ ⟨.bl _,H,I,rfl,?_⟩
  have e:((List.range (min us.toArray.size ws.toArray.size)).all (fun j=>eqV (xs.getD j .non) (ys.getD j .non)) && us.toArray.size == ws.toArray.size) = eqVs xs ys:=by
   unfold eqVs
   rw [List.size_toArray,List.size_toArray,← l1,← l2,range_all_zip' xs ys,Bool.and_comm]
  rw [e]
  exact q
end
noncomputable def seqV (H:Hp) (p:Addr):Option (List V):=match H p with
 | some (.lst xs)=>some xs
 | some (.tup xs)=>some xs
 | some (.frz _ (.lst xs))=>some xs
 | _=>none
theorem zdc {K:PySem.W.Frag} {H:Hp} {p:Addr} {xs:List V} (h:seqV H p = some xs):SqL K H p xs ∨ SqT K H p xs:=by
 unfold seqV at h
 split at h
 ·rename_i e; cases h; exact .inl (.of e)
 ·rename_i e; cases h; exact .inr (.of e)
 ·rename_i o ys e; cases h; exact .inl (.inl (.inr ⟨o,e⟩))
 ·cases h
noncomputable def rIxF:R2:=fun x y H Q=>∃ p i xs v,x = .ref p∧y = .int i∧seqV H p = some xs∧atI xs i = some v∧Q v H
noncomputable def tyF (x:V) (H:Hp):Option String:=match x with
 | .non=>some "NoneType"
 | .bl _=>some "bool"
 | .int _=>some "int"
 | .str _=>some "str"
 | .ref a=>match H a with
  | some (.lst _)=>some "list"
  | some (.frz _ (.lst _))=>some "list"
  | some (.tup _)=>some "tuple"
  | some (.dK _)=>some "dict"
  | some (.dT _)=>some "dict"
  | _=>none
 | _=>none
noncomputable def isTy (t n:String):Bool:=t == n || (t == "bool" && n == "int")
theorem zhA {K:PySem.W.Frag} {x:V} {H:Hp} {t:String} (h:tyF x H = some t):TyOf K H x (.type t)∧(t = "NoneType" ∨ t = "bool" ∨ t = "int" ∨ t = "str" ∨ t = "list" ∨ t = "tuple" ∨ t = "dict"):=by
 unfold tyF at h
 split at h
 ·cases h; exact ⟨.non,by simp⟩
 ·cases h; exact ⟨.bl _,by simp⟩
 ·cases h; exact ⟨.int _,by simp⟩
 ·cases h; exact ⟨.str _,by simp⟩
 ·split at h
  ·rename_i e; cases h; exact ⟨.lst e,by simp⟩
  ·rename_i e; cases h; exact ⟨.frz e,by simp⟩
  ·rename_i e; cases h; exact ⟨.tup e,by simp⟩
  ·rename_i e; cases h; exact ⟨.dK e,by simp⟩
  ·rename_i e; cases h; exact ⟨.dT e,by simp⟩
  ·cases h
 ·cases h
theorem zge {K:PySem.W.Frag} {t n:String} (h:t = "NoneType" ∨ t = "bool" ∨ t = "int" ∨ t = "str" ∨ t = "list" ∨ t = "tuple" ∨ t = "dict") (hn:n = "bool" ∨ n = "int" ∨ n = "str" ∨ n = "list" ∨ n = "tuple" ∨ n = "dict") :
  PySem.W.kitOne K (.type t) (.type n) = some (isTy t n):=by
 rcases h with rfl | rfl | rfl | rfl | rfl | rfl | rfl <;> rcases hn with rfl | rfl | rfl | rfl | rfl | rfl <;> rfl
noncomputable def lenF (x:V) (H:Hp):Option Nat:=match x with
 | .str y=>if y.length ≤ sizeLine then some y.length else none
 | .ref p=>match H p with
  | some (.lst xs)=>some xs.length
  | some (.tup xs)=>some xs.length
  | some (.frz _ (.lst xs))=>some xs.length
  | _=>none
 | _=>none
theorem zhD {K:PySem.W.Frag} {x:V} {H:Hp} {n:Nat} (h:lenF x H = some n):LenV K x H n:=by
 unfold lenF at h
 split at h
 ·split at h
  ·rename_i z; cases h; exact ⟨z,rfl⟩
  ·cases h
 ·split at h
  ·rename_i e; cases h; exact .inl ⟨_,.of e,rfl⟩
  ·rename_i e; cases h; exact .inr ⟨_,.of e,rfl⟩
  ·rename_i o xs e; cases h; exact .inl ⟨_,.inl (.inr ⟨o,e⟩),rfl⟩
  ·cases h
 ·cases h
noncomputable def zcY (H:Hp) (p:Addr):Option Bool:=match H p with
 | some (.lst _)=>some true
 | some (.frz _ (.lst _))=>some true
 | some (.tup _)=>some false
 | _=>none
theorem zbM {K:PySem.W.Frag} {H:Hp} {p:Addr} {xs:List V} (h:seqV H p = some xs) (k:zcY H p = some true):SqL K H p xs:=by
 rcases zdc (K:=K) h with q | q
 ·exact q
 ·unfold seqV at h
  unfold zcY at k
  split at h
  ·rename_i e; cases h; exact .of e
  ·rename_i e; rw [e] at k; cases k
  ·rename_i o ys e; cases h; exact .inl (.inr ⟨o,e⟩)
  ·cases h
theorem zfF {K:PySem.W.Frag} {H:Hp} {p:Addr} {xs:List V} (h:seqV H p = some xs) (k:zcY H p = some false):SqT K H p xs:=by
 unfold seqV at h
 unfold zcY at k
 split at h
 ·rename_i e; rw [e] at k; cases k
 ·rename_i e; cases h; exact .of e
 ·rename_i o ys e; rw [e] at k; cases k
 ·cases h
noncomputable def rEqF (neg:Bool):R2:=fun x y H Q=>∃ l b k xs ys,x = .ref l∧y = .ref b∧seqV H l = some xs∧seqV H b = some ys∧zcY H l = some k∧zcY H b = some k∧xs.all flatV = true∧ys.all flatV = true ∧
 Q (.bl (if neg then !eqVs xs ys else eqVs xs ys)) H
theorem ziW {K:PySem.W.Frag} {neg:Bool} {x y:V} {H:Hp} {Q:VK} (h:rEqF neg x y H Q):rEqD K neg x y H Q:=by
 obtain ⟨l,b,k,xs,ys,e1,e2,h1,h2,k1,k2,r⟩:=h
 cases k with
 | true=>exact ⟨l,b,xs,ys,e1,e2,.inl ⟨zbM h1 k1,zbM h2 k2⟩,r⟩
 | false=>exact ⟨l,b,xs,ys,e1,e2,.inr ⟨zfF h1 k1,zfF h2 k2⟩,r⟩
section
variable {X:Cx}
theorem ix_F:IxR X rIxF:=by
 intro value slice pins s σ H x y v u Q I rx ry h hs
 obtain ⟨p,i,xs,z,e1,e2,hq,he,q⟩:=h
 rcases zdc (K:=X.K) hq with g | g
 ·exact ix_list value slice pins s σ H x y v u Q I rx ry ⟨p,xs,i,z,e1,e2,g,he,q⟩ hs
 ·exact ix_tup value slice pins s σ H x y v u Q I rx ry ⟨p,xs,i,z,e1,e2,g,he,q⟩ hs
theorem call_isF:zbt X (.builtin "isinstance") (fun xs H Q=>∃ x n t,xs = [x,.ty n]∧tyF x H = some t∧(n = "bool" ∨ n = "int" ∨ n = "str" ∨ n = "list" ∨ n = "tuple" ∨ n = "dict")∧Q (.bl (isTy t n)) H):=by
 intro pins s σ H xs us Q I r h
 obtain ⟨x,n,t,e,ht,hn,q⟩:=h
 obtain ⟨ty,h7⟩:=zhA (K:=X.K) ht
 exact call_isinst pins s σ H xs us Q I r ⟨x,n,_,_,e,ty,zge h7 hn,q⟩
theorem call_lenF:zbt X (.builtin "len") (fun xs H Q=>∃ x n,xs = [x]∧lenF x H = some n∧Q (.int n) H):=by
 intro pins s σ H xs us Q I r h
 obtain ⟨x,n,e,hl,q⟩:=h
 exact call_len pins s σ H xs us Q I r ⟨x,n,e,zhD hl,q⟩
theorem zi1 (hu:X.A.units + 1 < cLine):OpR X (compareOp .NotEq) (rEqF true):=fun pins s σ H x y v u Q I rx ry h=>ziI hu pins s σ H x y v u Q I rx ry (ziW h)
end
theorem zgM {i j:Int}:scal (.int i) (.int j) = true:=rfl
theorem zhL {i j:Bool}:scal (.bl i) (.bl j) = true:=rfl
theorem zgI {i j:Str}:scal (.str i) (.str j) = true:=rfl
theorem zcZ {α:Type} {x:α} {r:List α}:atI (x :: r) 0 = some x:=zau (j:=0) rfl
theorem za8 {α:Type} {x y:α} {r:List α}:atI (x :: y :: r) 1 = some y:=zau (j:=1) rfl
theorem zb1 {α:Type} {x y z:α} {r:List α}:atI (x :: y :: z :: r) 2 = some z:=zau (j:=2) rfl
theorem zgD {α:Type} {x y z w:α} {r:List α}:atI (x :: y :: z :: w :: r) 3 = some w:=zau (j:=3) rfl
theorem zie {α:Type} {x y z w v:α} {r:List α}:atI (x :: y :: z :: w :: v :: r) 4 = some v:=zau (j:=4) rfl
theorem isTys:isTy "NoneType" "bool" = false∧isTy "NoneType" "int" = false∧isTy "NoneType" "str" = false∧isTy "NoneType" "list" = false∧isTy "NoneType" "tuple" = false∧isTy "NoneType" "dict" = false∧isTy "bool" "bool" = true∧isTy "bool" "int" = true∧isTy "bool" "str" = false∧isTy "bool" "list" = false∧isTy "bool" "tuple" = false∧isTy "bool" "dict" = false∧isTy "int" "bool" = false∧isTy "int" "int" = true∧isTy "int" "str" = false∧isTy "int" "list" = false∧isTy "int" "tuple" = false∧isTy "int" "dict" = false∧isTy "str" "bool" = false∧isTy "str" "int" = false∧isTy "str" "str" = true∧isTy "str" "list" = false∧isTy "str" "tuple" = false∧isTy "str" "dict" = false∧isTy "list" "bool" = false∧isTy "list" "int" = false∧isTy "list" "str" = false∧isTy "list" "list" = true∧isTy "list" "tuple" = false∧isTy "list" "dict" = false∧isTy "tuple" "bool" = false∧isTy "tuple" "int" = false∧isTy "tuple" "str" = false∧isTy "tuple" "list" = false∧isTy "tuple" "tuple" = true∧isTy "tuple" "dict" = false∧isTy "dict" "bool" = false∧isTy "dict" "int" = false∧isTy "dict" "str" = false∧isTy "dict" "list" = false∧isTy "dict" "tuple" = false∧isTy "dict" "dict" = true:=by decide
noncomputable def tyO:Option HO->Option String
 | some (.lst _)=>some "list"
 | some (.frz _ (.lst _))=>some "list"
 | some (.tup _)=>some "tuple"
 | some (.dK _)=>some "dict"
 | some (.dT _)=>some "dict"
 | _=>none
noncomputable def lenO:Option HO->Option Nat
 | some (.lst xs)=>some xs.length
 | some (.tup xs)=>some xs.length
 | some (.frz _ (.lst xs))=>some xs.length
 | _=>none
noncomputable def seqO:Option HO->Option (List V)
 | some (.lst xs)=>some xs
 | some (.tup xs)=>some xs
 | some (.frz _ (.lst xs))=>some xs
 | _=>none
noncomputable def kindO:Option HO->Option Bool
 | some (.lst _)=>some true
 | some (.frz _ (.lst _))=>some true
 | some (.tup _)=>some false
 | _=>none
theorem zhX {a:Addr} {H:Hp}:tyF (.ref a) H = tyO (H a):=rfl
theorem zh5 {i:Int} {H:Hp}:tyF (.int i) H = some "int":=rfl
theorem ziS {i:Bool} {H:Hp}:tyF (.bl i) H = some "bool":=rfl
theorem zhC {i:Str} {H:Hp}:tyF (.str i) H = some "str":=rfl
theorem zhE {H:Hp}:tyF .non H = some "NoneType":=rfl
theorem zgY {a:Addr} {H:Hp}:lenF (.ref a) H = lenO (H a):=rfl
theorem zhN {a:Addr} {H:Hp}:seqV H a = seqO (H a):=rfl
theorem zhg {a:Addr} {H:Hp}:zcY H a = kindO (H a):=rfl
theorem zh4 {xs:List V}:tyO (some (.lst xs)) = some "list":=rfl
theorem zic {o:Obj} {xs:List V}:tyO (some (.frz o (.lst xs))) = some "list":=rfl
theorem zh3 {xs:List V}:tyO (some (.tup xs)) = some "tuple":=rfl
theorem ziP {xs}:tyO (some (.dK xs)) = some "dict":=rfl
theorem zdD {xs:List V}:lenO (some (.lst xs)) = some xs.length:=rfl
theorem zgH {o:Obj} {xs:List V}:lenO (some (.frz o (.lst xs))) = some xs.length:=rfl
theorem zhf {xs:List V}:lenO (some (.tup xs)) = some xs.length:=rfl
theorem zgJ {xs:List V}:seqO (some (.lst xs)) = some xs:=rfl
theorem zgO {o:Obj} {xs:List V}:seqO (some (.frz o (.lst xs))) = some xs:=rfl
theorem zgQ {xs:List V}:seqO (some (.tup xs)) = some xs:=rfl
theorem zf5 {xs:List V}:kindO (some (.lst xs)) = some true:=rfl
theorem zf8 {o:Obj} {xs:List V}:kindO (some (.frz o (.lst xs))) = some true:=rfl
theorem zfH {xs:List V}:kindO (some (.tup xs)) = some false:=rfl
theorem zab {H:Hp} {p q:Addr} {o u:HO} (hq:H q = some o) (hp:H p = none):upd H p u q = some o:=by rw [zaj (zan hq hp)]; exact hq
theorem Same.laid {H:Hp} {p:Addr} {u:HO} (hp:H p = none):Same H (upd H p u):=fun _ _ h=>zab h hp
theorem Same.step {H H1:Hp} {p:Addr} {u:HO} (s:Same H H1) (hp:H1 p = none):Same H (upd H1 p u):=s.trans (.laid hp)
theorem zay {α:Type} {f:α->V} {l:List α} {i:Nat} {x:V} (h:(l.map f)[i]? = some x):∃ z,l[i]? = some z∧x = f z:=by
 rw [List.getElem?_map] at h
 cases e:l[i]? with
 | none=>rw [e] at h; cases h
 | some z=>rw [e] at h; exact ⟨z,rfl,(Option.some.inj h).symm⟩
end L2
set_option Elab.async false
set_option linter.all false
set_option maxRecDepth 100000
namespace L2
open PySem PySem.Spec PyProof.Rows
section
variable {prog:Program} {w:World} {A:Around} {E:Value->Shared->Prop} {s:Shared}
end
section
variable {X:Cx} {tg:Expr}
end
end L2
set_option Elab.async false
set_option linter.all false
set_option maxRecDepth 100000
namespace L2
open PySem PySem.Spec PyProof.Rows
noncomputable def Its (z:Str):It:=⟨fun i _=>i < z.cps.size,fun i H x H'=>H' = H∧∃ c,z.cps[i]? = some c∧x = .str ⟨#[c]⟩,fun i _=>z.cps.size ≤ i⟩
theorem zg6 {P:Program} {w:World} {K:PySem.W.Frag} {tg:Expr} (it:Addr) (z:Str) (t:Tok):Turn P w K tg (Its z) [it] it (fun i h=>h.IsStrIter it "str_ascii_iterator" z t i) where
 mem:=by simp
 obj:=fun i h st b hb=>by
  have e:b = it:=by simpa using hb
  subst e
  obtain ⟨o,e,c,d⟩:=st
  exact ⟨o,e,fun v z=>by rw [d] at z; cases z⟩
 keep:=fun i h h' st k=>let ⟨o,ho,r⟩:=st; ⟨o,k it (by simp) o ho,r⟩
 item:=by
  intro X hP hw hK hc i pins s σ H E I hf st hg
  subst hP hw hK
  obtain ⟨f0,f1,f2,f3,f4,f5⟩:=hf it (by simp)
  have hi:i < z.cps.size:=hg
  refine (Walks.strAscii (prog:=X.prog) (w:=X.w) (I.ok.hd hc) it z t).item i s _ _ hi st fun v h' tk hv st' kk=>?_
  obtain ⟨c,u,hcu,rfl⟩:=hv
  have I1:Inv X pins σ H { s with heap:=h',toks:=tk }:=I.turned (fun b o hb e=>kk b o (by simpa using hb) e) f0 f1 f3 f4 f5
  obtain ⟨o,e1,e2,e3⟩:=id st'
  exact ⟨_,rfl,zgN (s:={ s with heap:=h',toks:=tk }) e1 e2 e3 (by decide) ⟨.str ⟨#[c]⟩,H,I1,⟨u,rfl⟩,⟨rfl,c,hcu,rfl⟩,st',fun b hb=>(hf b hb).1⟩⟩
 done:=by
  intro X hP hw hK hc i pins s σ H E I hf st hg
  subst hP hw hK
  obtain ⟨f0,f1,f2,f3,f4,f5⟩:=hf it (by simp)
  have hi:z.cps.size ≤ i:=hg
  exact wpAny_pyNext_ascii_end (I.ok.hd hc) st (by simp; omega) fun h' eb=>⟨rfl,I.turned (t':=s.toks) (fun b o hb e=>eb b o hb e) f0 f1 f3 f4 f5⟩
 self:=fun _ _ _ _ _ st h=>wpAny_pyIter_striter_ascii st h
section
variable {X:Cx} {tg:Expr}
noncomputable def iStr (tl:TE):TI:=fun σ H R=>tl σ H fun x H1=>∃ z,x = .str z∧z.cps.all (· < 128) = true∧R (Its z) H1
theorem zih {l:Expr} {tl:TE} (hl:PE X l tl):PI X tg l (iStr tl):=by
 intro pins s σ H R I h
 refine thn (hl pins s σ H _ I h) fun v s1 ⟨x,H1,I1,r1,q1⟩=>?_
 obtain ⟨z,e,ha,q⟩:=q1
 subst e
 obtain ⟨t,rfl⟩:=r1
 refine wpAny_pyIter_ascii ha ?_
 refine ⟨s1.heap.objs.size,[s1.heap.objs.size],_,_,H1,rfl,I1.kept (t':=s1.toks) fun b o e=>Heap.get?_push_of_some _ e,zg6 _ z t,⟨_,Heap.get?_push_size _ rfl,rfl,rfl⟩,fun b hb=>?_,q⟩
 have e:b = s1.heap.objs.size:=by simpa using hb
 subst e
 exact I1.fpOk (Nat.le_refl _) (I1.hok.fresh (Nat.le_refl _))
theorem zfp {zs:List Str}:∀ {us:List Value},Vals (zs.map V.str) us->StrsAre us zs:=by
 induction zs with
 | nil=>intro us r; cases r; exact .nil
 | cons z zs ih =>
  intro us r
  cases r with
  | cons r1 r2 =>
   obtain ⟨t,e⟩:=r1
   subst e
   exact .cons z t (ih r2)
noncomputable def rJoin:V->List V->Hp->VK->Prop:=fun x xs H Q=>∃ sep l zs,x = .str sep∧xs = [.ref l]∧H l = some (.lst (zs.map V.str))∧(zs.map (·.length)).sum + zs.length * sep.length ≤ 16777216∧Q (.str (Txt.join sep zs)) H
theorem mt_join:MtR X "str.join" rJoin:=by
 intro pins s σ H x xs v us Q I rx rs h
 obtain ⟨sep,l,zs,rfl,rfl,hl,hz,q⟩:=h
 obtain ⟨t,rfl⟩:=rx
 obtain ⟨u,rfl,ru⟩:=rs.one
 cases ru
 obtain ⟨its,r,pl,_⟩:=I.list (.of hl)
 exact join_list pl.isList (by simpa using zfp r) hz fun t' k=>⟨.str _,H,I.tok _,⟨_,rfl⟩,q⟩
theorem zgC {P:Program} {w:World}:∀ {kvs:List (Key × V)} {vs:List (Key × Value)} {acc:List Value},KV kvs vs->acc.length = vs.length->(∀ (j:Nat) (v:Value),acc[j]? = some v->∃ (k:Key) (x:Value),vs[j]? = some (k,x)∧(zaM P w).is k v = true)->Vals (kvs.map fun p=>kV p.1) acc:=by
 intro kvs vs acc r
 unfold KV at r
 induction r generalizing acc with
 | nil =>
  intro hl h
  cases acc with
  | nil=>exact .nil
  | cons _ _=>simp at hl
 | @cons p q kvs vs r t ih =>
  intro hl h
  cases acc with
  | nil=>simp at hl
  | cons u acc =>
   refine .cons ?_ (ih (by simpa using hl) fun j v e=>by simpa using h (j + 1) v (by simpa using e))
   obtain ⟨k,x,e,hk⟩:=h 0 u (by simp)
   simp at e
   have ek:q.1 = k:=by rw [e]
   show RelV (kV p.1) u
   rw [r.1,ek]
   rcases keyIs_shape (show keyIs k u = true from hk) with ⟨i,t',rfl,rfl⟩ | ⟨z,t',rfl,rfl⟩
   ·exact ⟨t',rfl⟩
   ·exact ⟨t',rfl⟩
end
theorem Un.laidN {fs ex:List Addr} {H:Hp} {h h':Heap} {a:Addr} {o:HO} (k:∀ b u,h.get? b = some u->h'.get? b = some u) (ha:h.get? a = none) (hn:H a = none):Un fs ex H (upd H a o) h h' where
 keep:=fun b u q _ _ _=>k b u q
 slot:=fun b u q _ _ _=>⟨u.slots,k b u q⟩
 free:=fun b u q n _=>by
  have hb:b ≠ a:=fun e=>by rw [e,ha] at q; cases q
  rw [zaj hb]; exact n
 there:=fun b u q _=>⟨u,k b u q⟩
 tups:=fun b xs q=>zab q hn
 frzs:=fun b u xs q=>zab q hn
 tbls:=fun b ps q=>⟨#[],by rw [zab q hn]; simp⟩
theorem Inv.laidN {X:Cx} {pins:List (Addr × Obj)} {σ:St} {H:Hp} {s:Shared} {h':Heap} {a:Addr} {o:HO} {t':Nat} (I:Inv X pins σ H s) (k:∀ b u,s.heap.get? b = some u->h'.get? b = some u) (ha:s.heap.get? a = none)
  (new:zaU X.prog X.w (upd H a o) h' a o):H a = none∧Inv X pins σ (upd H a o) { s with heap:=h',toks:=t' }:=by
 have hn:H a = none:=by
  cases q:H a with
  | none=>rfl
  | some u =>
   obtain ⟨ob,e⟩:∃ ob,s.heap.get? a = some ob:=by
    have x:=I.hok a u q
    cases u with
    | lst xs=>obtain ⟨_,_,_,_,e⟩:=x; exact ⟨_,e⟩
    | tup xs=>obtain ⟨_,_,_,p⟩:=x; obtain ⟨_,e,_⟩:=p; exact ⟨_,e⟩
    | dK kvs=>obtain ⟨_,_,_,_,o,_,_,e,_⟩:=x; exact ⟨_,e⟩
    | dT kvs=>obtain ⟨_,_,_,_,o,_,_,e,_⟩:=x; exact ⟨_,e⟩
    | set S n=>obtain ⟨o,_,_,_,e,_⟩:=x; exact ⟨_,e⟩
    | ins C dx fs=>obtain ⟨_,_,_,e,_⟩:=x; exact ⟨_,e⟩
    | own y=>exact x
    | xd fs=>obtain ⟨_,⟨_,_,_,e,_⟩,_⟩:=x; exact ⟨_,e⟩
    | rng lo hi=>obtain ⟨_,_,_,e⟩:=x; exact ⟨_,e⟩
    | frz ob u=>obtain ⟨e,_⟩:=x; exact ⟨_,e⟩
    | tbl ps=>exact ⟨_,(show s.heap.get? a = some _ from x)⟩
    | met f y=>exact ⟨_,(show s.heap.get? a = some _ from x)⟩
    | ext φ=>obtain ⟨_,e,_⟩:=x; exact e
   rw [ha] at e; cases e
 refine ⟨hn,I.un (Un.laidN k ha hn) fun b u e=>?_⟩
 by_cases hb:b = a
 ·subst hb; rw [zaa] at e; cases e; exact new
 ·rw [zaj hb] at e
  exact (I.hok b u e).stay (fun c v _ q=>k c v q) (fun c q=>zab q hn) fun c xs q=>zab q hn
theorem zdr {h:Heap} {a:Addr} {vs:List Value} {out:Array Value} {n:Nat} (ho:h.get? a = some (seqObj "list" vs.toArray n)) :
  (∃ e,(sortedHeap h a vs out).get? a = some (seqObj "list" out e))∧∀ b o,b ≠ a->h.get? b = some o->(sortedHeap h a vs out).get? b = some o:=by
 have ha:a < h.objs.size:=Heap.lt_size ho
 unfold sortedHeap
 obtain ⟨e1,ho1⟩:∃ e1,(h.update a (Obj.mapSeq fun _=>#[])).get? a = some (seqObj "list" #[] e1):=⟨_,get?_update_seq ho (fun _=>#[])⟩
 have ho2:=Heap.get?_push_of_some (seqObj "list" #[] 0) (Heap.get?_push_of_some (seqObj "tuple" vs.toArray 0) ho1)
 refine ⟨⟨_,get?_update_seq ho2 (fun _=>out)⟩,fun b o hb e=>?_⟩
 rw [Heap.get?_update_other _ _ (Ne.symm hb)]
 refine Heap.get?_push_of_some _ (Heap.get?_push_of_some _ ?_)
 rw [Heap.get?_update_other _ _ (Ne.symm hb)]
 exact e
section
variable {prog:Program} {w:World} {A:Around} {E:Value->Shared->Prop} {s:Shared} {T:String} {r d:Addr} {n:Nat} {P:Nat->Value->Prop} {OK:Heap->Prop} {Q:Value->Shared->Prop}
theorem zc2 (K:PySem.W.KdlSrc prog w T r d n P OK) (hh:A.handled = none) (hok:OK s.heap) (hn:n < 64) (hint:∀ vs:List Value,vs.length = n->(∀ (j:Nat) (v:Value),vs[j]? = some v->P j v)->∃ ns,IntsAre vs ns)
  (h:∀ (D:Addr) (h':Heap) (tk e:Nat) (vs:List Value) (ns ns':List Int) (out:Array Value),(∀ b o,s.heap.get? b = some o->h'.get? b = some o)->s.heap.get? D = none->h'.get? D = some (seqObj "list" out e) ->
   vs.length = n->(∀ (j:Nat) (v:Value),vs[j]? = some v->P j v)->IntsAre vs ns->IntsAre out.toList ns'->ns'.Perm ns->ns'.Pairwise (· ≤ ·)->Q (.ref D) { s with heap:=h',toks:=tk }) :
  wpAny (model prog w) A (call (.builtin "sorted") [.ref r]) Q E s:=by
 refine Calls.call_function_entry PyProof.Rows.kind_sorted PyProof.Rows.plain_sorted PyProof.Rows.entry_sorted (PyProof.Rows.args_sorted1 _) ?_
 unfold Builtin.«sorted»
 refine wpAny_bind (m:=checkCount "sorted" 1 1 _) (wpAny_pure (wpAny_bind ?_))
 refine PySem.W.kdu_collect (A:=A.in1) K hh hok (by rw [sizeLine_eq]; omega) fun h1 tk acc hk hacc=>?_
 have hl:acc.toList.length = n:=by rw [Array.length_toList]; exact hacc.1
 have hP:∀ (j:Nat) (v:Value),acc.toList[j]? = some v->P j v:=fun j v e=>hacc.2 j v (by rw [← Array.getElem?_toList]; exact e)
 obtain ⟨ns,hI⟩:=hint acc.toList hl hP
 refine wpAny_bind (wpAny_newList ?_ (by rw [hl,sizeLine_eq]; omega))
 have hoL:(h1.push { cls:=.type "list",data:=.seq acc.toList.toArray }).get? h1.objs.size = some (seqObj "list" acc.toList.toArray 0):=Heap.get?_push_size _ rfl
 have hsz:s.heap.get? h1.objs.size = none:=by
  cases q:s.heap.get? h1.objs.size with
  | none=>rfl
  | some o=>exact absurd (Heap.lt_size (hk _ _ q)) (Nat.lt_irrefl _)
 refine wpAny_bind (wpAny_holding (wpAny_call_entry slot_list_sort ⟨_,hoL,rfl⟩ entry_list_sort (list_sort_tree hoL hI (by rw [hl]; exact hn) fun out ns' i p st=>⟨_,rfl,?_⟩) (args_list_sort _)))
 obtain ⟨⟨e,g1⟩,g2⟩:=zdr (out:=out) hoL
 refine wpAny_pure ⟨_,rfl,h _ _ _ e acc.toList ns ns' out (fun b o q=>g2 b o ?_ (Heap.get?_push_of_some _ (hk b o q))) hsz g1 hl hP hI i p st⟩
 exact Nat.ne_of_lt (Heap.lt_size (hk b o q))
end
theorem intsAre_vals:∀ {vs:List Value} {ns:List Int},IntsAre vs ns->Vals (ns.map V.int) vs
 | _,_,.nil=>.nil
 | _,_,.cons n t r=>.cons ⟨t,rfl⟩ (intsAre_vals r)
theorem zb2 {vs:List Value} {ns ms:List Int} (a:Vals (ns.map V.int) vs) (b:IntsAre vs ms):ns = ms:=by
 have:=a.inj (intsAre_vals b)
 exact (List.map_inj_right (fun x y e=>by injection e)).mp this
section
variable {X:Cx}
theorem zbn (hc:X.calm = true):zbt X (.builtin "sorted") (fun xs H Q=>∃ d kvs ns,xs = [.ref d]∧H d = some (.dK kvs)∧kvs.map (·.1) = ns.map Sum.inl∧ns.length < 64 ∧
  ∀ (l:Addr) (ns':List Int),H l = none->ns'.Perm ns->ns'.Pairwise (· ≤ ·)->Q (.ref l) (upd H l (.lst (ns'.map V.int)))):=by
 intro pins s σ H xs us Q I r h
 obtain ⟨d,kvs,ns,rfl,hd,hks,hlt,q⟩:=h
 obtain ⟨u,rfl,ru⟩:=zcn r
 cases ru
 obtain ⟨hz,hS,vs,rk,m⟩:kvs.length ≤ sizeLine∧(d == sysModules) = false∧∃ vs,KV kvs vs∧s.heap.DictOf (zaM X.prog X.w) d vs:=I.hok d _ hd
 obtain ⟨ep,hat⟩:=m.dictAt
 have hlen:kvs.length = vs.length:=Paired.length rk
 have hl2:kvs.length = ns.length:=by have:=congrArg List.length hks; simpa using this
 have hkeys:∀ acc:List Value,acc.length = vs.length->(∀ (j:Nat) (v:Value),acc[j]? = some v->∃ k x,vs[j]? = some (k,x)∧(zaM X.prog X.w).is k v = true)->Vals (ns.map V.int) acc:=fun acc h1 h2=>by
  have:=zgC (P:=X.prog) (w:=X.w) rk h1 h2
  have e:(kvs.map fun p=>kV p.1) = ns.map V.int:=by
   have:(kvs.map fun p=>kV p.1) = (kvs.map (·.1)).map kV:=by rw [List.map_map]; rfl
   rw [this,hks,List.map_map]; rfl
  rw [e] at this
  exact this
 refine zc2 (PySem.W.kdl_dict (knd:=zaM X.prog X.w) (kvs:=vs) (ep:=ep) hS) (I.ok.hd hc) hat (by omega) (fun acc h1 h2=>?_) fun D h' tk e acc ms ns' out hk hD ho h1 h2 hI hO hp hs=>?_
 ·exact ⟨ns,zfd (hkeys acc h1 h2)⟩
 ·have em:ns = ms:=zb2 (hkeys acc h1 h2) hI
  subst em
  have hz':(ns'.map V.int).length ≤ sizeLine:=by rw [List.length_map,hp.length_eq,sizeLine_eq]; omega
  obtain ⟨hn,I'⟩:=I.laidN (t':=tk) (o:=.lst (ns'.map V.int)) hk hD ⟨hz',out.toList,e,intsAre_vals hO,by rw [Array.toArray_toList]; exact ho⟩
  exact ⟨.ref D,_,I',rfl,q D ns' hn hp hs⟩
end
end L2
set_option Elab.async false
set_option linter.all false
set_option maxRecDepth 100000
namespace L2
open PySem PySem.Spec PyProof.Rows
abbrev bmVE:List Value:=[.type "ValueError",.type "Exception",.type "BaseException",.type "object"]
noncomputable def XCls (K:PySem.W.Frag) (C:Addr):Prop:=PySem.W.excIn K C bmVE "ValueError.__new__" = true
section
variable {X:Cx} {pins:List (Addr × Obj)} {σ:St} {H H':Hp} {s s':Shared}
end
section
variable {P:Program} {w:World} {K:PySem.W.Frag} {mg:Str->Option Value} {base:Heap} {N:List Str} {qual:Str} {scope:Scope} {f:Addr} {cd:Value} {A:Around} {outer:List Env} {s₀:Shared} {H₀:Hp} {E:XK}
end
section
variable {X:Cx}
noncomputable def ziA (C:Addr) (E:XK) (t:TA):TS:=fun _ σ H=>t σ H fun vs H1=>vs.length ≤ sizeLine∧E (.ref C) none H1
end
noncomputable def EX (C:Addr) (R:St->Hp->Prop):St->XK:=fun σ cls _ H'=>cls = .ref C∧R σ H'
section
variable {X:Cx} {pins:List (Addr × Obj)} {σ:St} {H:Hp} {s:Shared}
end
section
variable {X:Cx} {k:Nat} {f C:Addr} {fd:FuncData} {ps:List Str} {sp:Sp} {dvs:List V} {ds:List Value} {E:St->XK} {x m:Str} {p pos apos:Pos} {e o:Expr} {es:List Expr} {ta:TE} {t:TA}
noncomputable def zij (C:Addr) (m:Str) (sp:Sp) (dvs:List V) (E:St->XK) (ta:TE) (t:TA):TE:=fun σ H Q=>ta σ H fun x H1=>∃ a dx fs,x = .ref a∧H1 a = some (.ins C dx fs)∧fs.lookup m = none ∧
 t σ H1 fun vs H2=>sp (x :: (vs ++ dvs)) H2 Q (E σ)
end
section
variable {X:Cx}
end
section
variable {P:Program} {w:World} {K:PySem.W.Frag} {mg:Str->Option Value} {base:Heap}
theorem Fun.okC {CX:CXT} {x qual:Str} {st:Stmt} {f:Addr} {fd:FuncData} {N ps:List Str} {k:Nat} {sp:Sp} (F:Fun K x qual st f fd) (S:FnScope N ps (zar st)) (len:∀ vs H Q E,sp vs H Q E->vs.length = ps.length)
  (hbody:∀ (cdv:Value) (A:Around) (outer:List Env) (s:Shared) (H:Hp) (vs:List V) (Q:VK) (E:XK),Room k (A.deeper (envOfC qual (zar st) s.heap.objs.size f cdv))->sp vs H Q E ->
   ∃ t,PSs (cxOf CX P w K mg base N qual (zar st) f cdv A outer s H E).nox (zcQ st) t∧t { nx:=fun _ H'=>Q .non H',rt:=Q } (start N vs) H):FnOk P w K mg base CX (k + 1) f fd ps sp:=by
 obtain ⟨oc,od,kV,doc,pm,an,cdv,ct,osl,rfl,lk,hcd⟩:=F.ex
 refine fn_of lk hcd S len fun A outer s H vs Q E hr hsp=>?_
 obtain ⟨t,h,q⟩:=hbody cdv A outer s H vs Q E hr hsp
 exact ⟨t,h.nox,q⟩
end
end L2
set_option Elab.async false
set_option linter.all false
set_option maxRecDepth 100000
namespace L2
open PySem PySem.Spec PyProof.Rows
section
variable {X:Cx}
noncomputable def tFstr (te:TE):TE:=fun σ H Q=>te σ H fun x H1=>∃ i,x = .int i∧i.natAbs.log2 < 1920∧∀ z,Q (.str z) H1
end
theorem Inv.turnedL {X:Cx} {pins:List (Addr × Obj)} {σ:St} {H:Hp} {s:Shared} {h':Heap} {t':Nat} {ch:List Addr} (I:Inv X pins σ H s) (k:∀ b o,b ∉ ch->s.heap.get? b = some o->h'.get? b = some o) (hf:∀ b ∈ ch,FpOk X pins H b) :
  Inv X pins σ H { s with heap:=h',toks:=t' }:=by
 have nit:∀ b u,H b = some u->b ∉ ch:=fun b u e z=>by rw [(hf b z).1] at e; cases e
 have hL:X.env.locals ∉ ch:=fun z=>(hf _ z).2.1 rfl
 refine I.step (g':=s.gens) (d':=s.drawn) (ch:=ch) (fun b hb=>⟨(hf b hb).2.2.2.1,(hf b hb).2.1,(hf b hb).2.2.2.2.1,(hf b hb).2.2.2.2.2⟩) (fun b o _ _ hc e _=>k b o hc e) (fun b o _ _ hc e _=>⟨o.slots,k b o hc e⟩) (fun _ _ _ _ n=>n)
  (fun b o hc e=>⟨o,k b o hc e⟩) (fun _ _ e=>e) (fun _ _ _ e=>e) (fun b ps e=>⟨#[],by rw [e]; simp⟩) (fun m hm=>?_) (fun b u e=>?_) I.bare
 ·obtain ⟨o,es,ep,ho,r⟩:=hm
  exact ⟨o,es,ep,k _ o hL ho,r⟩
 ·refine (I.hok b u e).stay (fun c v hc q=>k c v ?_ q) (fun _ q=>q) fun _ _ q=>q
  rcases hc with z | z
  ·rw [z]; exact nit b u e
  ·exact nit c _ z
noncomputable def Itz (K:PySem.W.Frag) (l1 l2:Addr):It :=
 ⟨fun i H=>∃ xs ys x y,SqL K H l1 xs∧SqL K H l2 ys∧xs[i]? = some x∧ys[i]? = some y,
  fun i H v H'=>∃ p x y,v = .ref p∧H p = none∧H' = upd H p (.tup [x,y])∧(∀ xs,SqL K H l1 xs->xs[i]? = some x)∧∀ ys,SqL K H l2 ys->ys[i]? = some y,
  fun i H=>∃ xs ys,SqL K H l1 xs∧SqL K H l2 ys∧(xs.length ≤ i ∨ ys.length ≤ i)⟩
structure ZipSt (z TI TO i1 i2 l1 l2:Addr) (i:Nat) (h:Heap):Prop where
 z:IsZip h z TI TO .none
 ti:IsPair h TI (.ref i1) (.ref i2)
 to:∃ a b,IsPair h TO a b
 h1:h.IsListIter i1 l1 i
 h2:h.IsListIter i2 l2 i
theorem zg3 {P:Program} {w:World} {K:PySem.W.Frag} {es:List Expr} {tk:Nat} {tpos:Pos} (z TI TO i1 i2 l1 l2:Addr) (D:ZipApart z TI TO i1 i2 l1 l2):Turn P w K (.Tuple es tk tpos) (Itz K l1 l2) [z,TI,TO,i1,i2] z (ZipSt z TI TO i1 i2 l1 l2) where
 mem:=by simp
 obj:=fun i h st b hb=>by
  simp only [List.mem_cons,List.not_mem_nil,or_false] at hb
  rcases hb with rfl | rfl | rfl | rfl | rfl
  ·exact ⟨_,st.z,fun v e=>by cases (show Data.fields _ = Data.cell v from e)⟩
  ·exact ⟨_,st.ti,fun v e=>by cases (show Data.seq _ _ = Data.cell v from e)⟩
  ·obtain ⟨a,b,e⟩:=st.to
   exact ⟨_,e,fun v e=>by cases (show Data.seq _ _ = Data.cell v from e)⟩
  ·obtain ⟨o,e,_,d⟩:=st.h1
   exact ⟨o,e,fun v z=>by rw [d] at z; cases z⟩
  ·obtain ⟨o,e,_,d⟩:=st.h2
   exact ⟨o,e,fun v z=>by rw [d] at z; cases z⟩
 keep:=fun i h h' st k=>by
  obtain ⟨a,b,e⟩:=st.to
  exact ⟨k z (by simp) _ st.z,k TI (by simp) _ st.ti,⟨a,b,k TO (by simp) _ e⟩,st.h1.at fun o e=>k i1 (by simp) o e,st.h2.at fun o e=>k i2 (by simp) o e⟩
 item:=by
  intro X hP hw hK hc i pins s σ H E I hf st hg
  subst hP hw hK
  obtain ⟨xs,ys,x,y,hq1,hq2,hx,hy⟩:=hg
  obtain ⟨us,r1,p1,z1⟩:=I.list hq1
  obtain ⟨vs,r2,p2,z2⟩:=I.list hq2
  obtain ⟨u,eu,ru⟩:=r1.get hx
  obtain ⟨v,ev,rv⟩:=r2.get hy
  obtain ⟨a,b,eTO⟩:=st.to
  refine wpAny_pyNext_zip_item D st.z st.ti eTO st.h1 st.h2 p1.isList p2.isList (x:=u) (y:=v) (by simpa using eu) (by simpa using ev) fun h' a1 a2 a3 a4 a5 a6 a7=>?_
  refine ⟨_,rfl,wpAny_letOwnedTupleGo_zip a1 fun h2 b1 b2=>?_⟩
  have hlt:∀ c ∈ [z,TI,TO,i1,i2],c < s.heap.objs.size:=fun c hc=>by
   simp only [List.mem_cons,List.not_mem_nil,or_false] at hc
   rcases hc with rfl | rfl | rfl | rfl | rfl
   ·exact Heap.lt_size st.z
   ·exact Heap.lt_size st.ti
   ·exact Heap.lt_size eTO
   ·obtain ⟨o,e,_⟩:=st.h1; exact Heap.lt_size e
   ·obtain ⟨o,e,_⟩:=st.h2; exact Heap.lt_size e
  have kk:∀ b o,b ∉ [z,TI,TO,i1,i2]->s.heap.get? b = some o->h2.get? b = some o:=fun b o hb e=>by
   simp only [List.mem_cons,List.not_mem_nil,or_false,not_or] at hb
   obtain ⟨c1,c2,c3,c4,c5⟩:=hb
   exact b2.extBut b o c1 (a7 b o c1 c3 c4 c5 e)
  have np:s.heap.objs.size ≠ z:=Nat.ne_of_gt (hlt z (by simp))
  have gp:IsPair h2 s.heap.objs.size u v:=b2.extBut _ _ np a5
  have I1:Inv X pins σ H { s with heap:=h2 }:=I.turnedL (t':=s.toks) kk hf
  have hn:H s.heap.objs.size = none:=I.hok.fresh (Nat.le_refl _)
  have nit:∀ b u,H b = some u->b ∉ [z,TI,TO,i1,i2]:=fun b u e w=>by rw [(hf b w).1] at e; cases e
  have hL:X.env.locals ∉ [z,TI,TO,i1,i2]:=fun w=>(hf _ w).2.1 rfl
  have I2:Inv X pins σ (upd H s.heap.objs.size (.tup [x,y])) { s with heap:=h2 }:=by
   refine I.step (g':=s.gens) (d':=s.drawn) (t':=s.toks) (ch:=[z,TI,TO,i1,i2]) (fun b hb=>⟨(hf b hb).2.2.2.1,(hf b hb).2.1,(hf b hb).2.2.2.2.1,(hf b hb).2.2.2.2.2⟩) (fun b o _ _ hc e _=>kk b o hc e) (fun b o _ _ hc e _=>⟨o.slots,kk b o hc e⟩)
    (fun b o _ e n=>by rw [zaj (Nat.ne_of_lt (Heap.lt_size e))]; exact n) (fun b o hc e=>⟨o,kk b o hc e⟩) (fun _ _ e=>zab e hn) (fun _ _ _ e=>zab e hn) (fun b ps e=>⟨#[],by rw [zab e hn]; simp⟩) (fun m hm=>?_) (fun b w e=>?_) I.bare
   ·obtain ⟨o,es,ep,ho,r⟩:=hm
    exact ⟨o,es,ep,kk _ o hL ho,r⟩
   ·by_cases hb:b = s.heap.objs.size
    ·subst hb
     rw [zaa] at e
     cases e
     exact ⟨by rw [sizeLine_eq]; show 2 ≤ 16777216; decide,[u,v],.cons ru (.cons rv .nil),⟨_,gp,rfl,_,rfl⟩⟩
    ·rw [zaj hb] at e
     refine (I.hok b w e).stay (fun c v hc q=>kk c v ?_ q) (fun _ q=>zab q hn) fun _ _ q=>zab q hn
     rcases hc with t | t
     ·rw [t]; exact nit b w e
     ·exact nit c _ t
  refine ⟨.ref s.heap.objs.size,_,I2,rfl,⟨_,x,y,rfl,hn,rfl,fun zs hz=>by rw [I.list_inj hz hq1]; exact hx,fun zs hz=>by rw [I.list_inj hz hq2]; exact hy⟩,⟨b1,b2.extBut _ _ D.TIz (a7 _ _ D.TIz D.TITO D.TIi1 D.TIi2 st.ti),⟨u,v,b2.extBut _ _ D.TOz a2⟩,a3.extBut b2.extBut D.i1z,a4.extBut b2.extBut D.i2z⟩,fun b hb=>?_⟩
  rw [zaj (Nat.ne_of_lt (hlt b hb))]
  exact (hf b hb).1
 done:=by
  intro X hP hw hK hc i pins s σ H E I hf st hg
  subst hP hw hK
  obtain ⟨xs,ys,hq1,hq2,hor⟩:=hg
  obtain ⟨us,r1,p1,z1⟩:=I.list hq1
  obtain ⟨vs,r2,p2,z2⟩:=I.list hq2
  obtain ⟨a,b,eTO⟩:=st.to
  have l1':=r1.length
  have l2':=r2.length
  refine wpAny_pyNext_zip_end (I.ok.hd hc) D st.z st.ti eTO st.h1 st.h2 p1.isList p2.isList (by
   rcases hor with h | h
   ·exact .inl (by simp; omega)
   ·exact .inr (by simp; omega)) fun h' kk=>⟨rfl,I.turnedL (t':=s.toks) (ch:=[z,TI,TO,i1,i2]) (fun b o hb e=>?_) hf⟩
  simp only [List.mem_cons,List.not_mem_nil,or_false,not_or] at hb
  exact kk b o hb.1 hb.2.2.1 hb.2.2.2.1 hb.2.2.2.2 e
 self:=fun _ _ _ _ _ st h=>wpAny_pyIter_zip st.z h
theorem zap (n a b:Nat) (h1:a < n) (h2:b < n):ZipApart (n + 4) (n + 2) (n + 3) n (n + 1) a b :=
 ⟨by show @Ne Nat _ _; omega,by show @Ne Nat _ _; omega,by show @Ne Nat _ _; omega,by show @Ne Nat _ _; omega,by show @Ne Nat _ _; omega,by show @Ne Nat _ _; omega,by show @Ne Nat _ _; omega,by show @Ne Nat _ _; omega,by show @Ne Nat _ _; omega,by show @Ne Nat _ _; omega,by show @Ne Nat _ _; omega,by show @Ne Nat _ _; omega,by show @Ne Nat _ _; omega,by show @Ne Nat _ _; omega,by show @Ne Nat _ _; omega,by show @Ne Nat _ _; omega,by show @Ne Nat _ _; omega,by show @Ne Nat _ _; omega⟩
section
variable {X:Cx}
noncomputable def iZip (K:PySem.W.Frag) (ta:TA):TI:=fun σ H R=>ta σ H fun vs H1=>∃ l1 l2,vs = [.ref l1,.ref l2]∧(∃ xs,SqL K H1 l1 xs)∧(∃ ys,SqL K H1 l2 ys)∧R (Itz K l1 l2) H1
theorem zgx {es:List Expr} {tk:Nat} {tpos:Pos} {a b:Expr} {ta:TA} {p pos:Pos} (hg:Gl X "zip") (hm:X.mg "zip" = none) (ha:PA X [a,b] ta) (hs:starEach [a,b] X.env = [(false,eval a X.env),(false,eval b X.env)]:=by rfl) (hs2:starEach [b] X.env = [(false,eval b X.env)]:=by rfl) :
  PI X (.Tuple es tk tpos) (.Call (.Name "zip" p) [a,b] [] pos) (iZip X.K ta):=by
 intro pins s σ H R I h
 refine Call_ (zbY I hg hm boot_zip (PyProof.Rows.callWith_type1 (thn (ha pos pins s σ H _ I h) fun us s1 ⟨vs,H1,I1,r1,q1⟩=>?_) (by rw [hs,hs2]) (by rw [hs2]; rfl)))
 obtain ⟨l1,l2,e,⟨xs,hq1⟩,⟨ys,hq2⟩,q⟩:=q1
 subst e
 obtain ⟨u1,u2,rfl,ru1,ru2⟩:=Vals.two r1
 cases ru1
 cases ru2
 obtain ⟨us,rv1,p1,z1⟩:=I1.list hq1
 obtain ⟨vs,rv2,p2,z2⟩:=I1.list hq2
 have hlt1:l1 < s1.heap.objs.size:=by obtain ⟨o,e,_⟩:=p1.isList; exact Heap.lt_size e
 have hlt2:l2 < s1.heap.objs.size:=by obtain ⟨o,e,_⟩:=p2.isList; exact Heap.lt_size e
 refine call_zip_2 p1.isList p2.isList fun h' g1 g2 g3 g4 g5 g6 g7=>?_
 refine wpAny_pyIter_zip g1 ?_
 refine ⟨_,[s1.heap.objs.size + 4,s1.heap.objs.size + 2,s1.heap.objs.size + 3,s1.heap.objs.size,s1.heap.objs.size + 1],_,_,H1,rfl,I1.kept (t':=s1.toks) g7,zg3 _ _ _ _ _ l1 l2 ?_,⟨g1,g2,⟨_,_,g3⟩,g4,g5⟩,fun b hb=>?_,q⟩
 ·exact zap _ _ _ hlt1 hlt2
 ·have hb2:s1.heap.objs.size ≤ b:=by
   simp only [List.mem_cons,List.not_mem_nil,or_false] at hb
   rcases hb with rfl | rfl | rfl | rfl | rfl <;> first | exact Nat.le_refl _ | exact Nat.le_add_right _ _
  exact I1.fpOk hb2 (I1.hok.fresh hb2)
end
end L2
set_option Elab.async false
set_option linter.all false
set_option maxRecDepth 100000
namespace L2
open PySem PySem.Spec PyProof.Rows
noncomputable def keyOf:V->Option Key
 | .int i=>some (.inl i)
 | .str z=>some (.inr z)
 | _=>none
theorem zfO {i:Int}:keyOf (.int i) = some (.inl i):=rfl
theorem zf9 {i:Str}:keyOf (.str i) = some (.inr i):=rfl
theorem zdq {y:V} {k:Key} (h:keyOf y = some k):y = kV k:=by
 cases y <;> first | (cases h; rfl) | (cases h)
noncomputable def zhn (td ty:TE):TE:=fun σ H Q=>td σ H fun x H1=>ty σ H1 fun y H2=>∃ d k kvs v,x = .ref d∧keyOf y = some k∧H2 d = some (.dK kvs)∧valV kvs k = some v∧Q v H2
noncomputable def tDInF (ty td:TE):TE:=fun σ H Q=>ty σ H fun y H1=>td σ H1 fun x H2=>∃ d k kvs,x = .ref d∧keyOf y = some k∧H2 d = some (.dK kvs)∧Q (.bl (valV kvs k).isSome) H2
noncomputable def zdk (ty td:TE):TE:=fun σ H Q=>ty σ H fun y H1=>td σ H1 fun x H2=>∃ d k kvs,x = .ref d∧keyOf y = some k∧H2 d = some (.dK kvs)∧Q (.bl (!(valV kvs k).isSome)) H2
noncomputable def zfM (td ty tv:TE):TS:=fun D σ H=>tv σ H fun v H1=>td σ H1 fun x H2=>ty σ H2 fun y H3=>∃ d k kvs,x = .ref d∧keyOf y = some k∧H3 d = some (.dK kvs)∧kvs.length < sizeLine∧D.nx σ (upd H3 d (.dK (putK kvs k v)))
section
variable {X:Cx} {o i e value:Expr} {pos pos' tpos:Pos} {td ty tv:TE}
theorem zdm (hu:X.A.units + 1 < cLine) (ho:PE X o td) (hi:PE X i ty) (hs:NoSl i):PE X (.Subscript o i pos) (zhn td ty):=by
 intro pins s σ H Q I h
 refine zgk PySem.F.slot_dict_getitem.lookup hs (thn (ho pins s σ H _ I h) fun u s1 ⟨x,H1,I1,rx,q1⟩=>thn (hi pins s1 σ H1 _ I1 q1) fun iv s2 ⟨y,H2,I2,ry,d,k,kvs,v,ex,ek,hd,hv,q2⟩=>?_)
 subst ex
 cases zdq ek
 obtain rfl:u = Value.ref d:=rx
 have g:DGet H2 d (kV k) (some v):=by rw [← hv]; exact DGet.k hd
 exact ⟨zez I2 g,zfC hu I2 g ry fun w' s3 I3 rw'=>⟨v,H2,I3,rw',q2⟩⟩
theorem zdd (hu:X.A.units + 1 < cLine) (hi:PE X i ty) (ho:PE X o td):PC X .NotIn i o (zdk ty td):=by
 intro pins s σ H Q I h
 refine thn (hi pins s σ H _ I h) fun iv s1 ⟨y,H1,I1,ry,q1⟩=>thn (ho pins s1 σ H1 _ I1 q1) fun u s2 ⟨x,H2,I2,rx,d,k,kvs,ex,ek,hd,q2⟩=>?_
 subst ex
 cases zdq ek
 obtain rfl:u = Value.ref d:=rx
 exact zfE hu I2 (DGet.k hd) ry fun s3 I3=>⟨.bl _,H2,I3,rfl,q2⟩
theorem zdC (hu:X.A.units + 1 < cLine) (ho:PE X o td) (hi:PE X i ty) (hv:PE X value tv) (hs:swapsWith value (some (.Subscript o i pos')) pos.line X.env = pure false) :
  PS X (.Assign [.Subscript o i pos'] value pos) (zfM td ty tv):=by
 intro pins s σ H D I h
 refine wpAny_Assign_Subscript (thn (hv pins s σ H _ I h) fun r s1 ⟨v,H1,I1,rv,q1⟩=>thn (ho pins s1 σ H1 _ I1 q1) fun u s2 ⟨x,H2,I2,rx,q2⟩=>thn (hi pins s2 σ H2 _ I2 q2) fun iv s3 ⟨y,H3,I3,ry,d,k,kvs,ex,ek,hd,hl,q3⟩=>?_) hs
 subst ex
 cases zdq ek
 obtain rfl:u = Value.ref d:=rx
 exact zea hu I3 (DPut.k hd hl) ry rv fun s4 I4=>⟨σ,_,I4,q3⟩
end
end L2
set_option Elab.async false
set_option linter.all false
set_option maxRecDepth 100000
namespace L2
open PySem PySem.Spec PyProof.Rows
theorem zis {CX:CXT} {P:Program} {w:World} {K:PySem.W.Frag} {mg:Str->Option Value} {base:Heap} {N:List Str} {qual:Str} {scope:Scope} {f:Addr} {cd:Value} {A:Around} {outer:List Env} {s₀:Shared} {H₀:Hp} {E:XK} :
  (cxOf CX P w K mg base N qual scope f cd A outer s₀ H₀ E).K = K:=rfl
structure Fr (M:Addr->Prop) (H H':Hp):Prop where
 keep:∀ q o,H q = some o->¬ M q->H' q = some o
 tups:∀ q xs,H q = some (.tup xs)->H' q = some (.tup xs)
theorem Fr.of_same {M:Addr->Prop} {H H':Hp} (s:Same H H'):Fr M H H':=⟨fun q o h _=>s q o h,fun q xs h=>s q _ h⟩
theorem for1 {ta:TA} {g:TG} {tb:TS} {D:Ends} {σ:St} {H H1:Hp} (n:Int) (hr:∀ Q,Q [.int n] H1->ta σ H Q) (n0:-(2 ^ 62) ≤ n) (n1:n < 2 ^ 62) (Pv:Nat->St->Hp->Prop) (h0:Pv 0 σ H1)
  (hs:∀ i σ H,i < n.toNat->Pv i σ H->g (.int (0 + i)) σ H fun σ2 H2=>tb { D with nx:=Pv (i + 1),ct:=Pv (i + 1),bk:=D.nx } σ2 H2) (hd:∀ σ H,Pv n.toNat σ H->D.nx σ H) :
  tFor (zfc ta) g tb D σ H:=hr _ ⟨n,rfl,n0,n1,zd9 Pv h0 hs hd⟩
theorem forL {K:PySem.W.Frag} {tl:TE} {g:TG} {tb:TS} {D:Ends} {σ:St} {H H1:Hp} (a:Addr) (xs:List V) (hr:∀ Q,Q (.ref a) H1->tl σ H Q) (Pv:Nat->St->Hp->Prop) (h0:Pv 0 σ H1) (hl:∀ i σ H,i ≤ xs.length->Pv i σ H->SqL K H a xs)
  (hs:∀ i x σ H,xs[i]? = some x->Pv i σ H->g x σ H fun σ2 H2=>tb { D with nx:=Pv (i + 1),ct:=Pv (i + 1),bk:=D.nx } σ2 H2) (hd:∀ σ H,Pv xs.length σ H->D.nx σ H) :
  tFor (zcs K tl) g tb D σ H:=hr _ ⟨a,rfl,⟨xs,hl 0 σ H1 (Nat.zero_le _) h0⟩,zeX Pv h0 hl hs hd⟩
theorem zhJ {cap:List (Option Nat)} {ta:TA} {g:TG} {tt:TT} {te:TE} {σ:St} {H H1:Hp} {Q:VK} (n:Int) (hr:∀ Q,Q [.int n] H1->ta σ H Q) (n0:-(2 ^ 62) ≤ n) (n1:n < 2 ^ 62) (Pv:Addr->Nat->List V->Hp->Prop) (h0:∀ D,H1 D = none->Pv D 0 [] (upd H1 D (.lst [])))
  (hl:∀ D,H1 D = none->∀ i ys H,i ≤ n.toNat->Pv D i ys H->H D = some (.lst ys)∧ys.length ≤ i) (hz:n.toNat ≤ sizeLine)
  (hs:∀ D,H1 D = none->∀ i ys H,i < n.toNat->Pv D i ys H->g (.int (0 + i)) (zaG cap σ) H fun σ4 H4=>tt σ4 H4 fun b H5=>if b = true then te σ4 H5 fun y H6=>H6 D = some (.lst ys)∧Pv D (i + 1) (ys ++ [y]) (upd H6 D (.lst (ys ++ [y]))) else Pv D (i + 1) ys H5)
  (hd:∀ D,H1 D = none->∀ ys H,Pv D n.toNat ys H->Q (.ref D) H):zbJ cap (zfc ta) g tt te σ H Q:=hr _ ⟨n,rfl,n0,n1,fun D hD=>zc4 (R:=fun H=>Q (.ref D) H) (Pv D) (h0 D hD) (hl D hD) hz (hs D hD) (hd D hD)⟩
theorem zeo {K:PySem.W.Frag} {cap:List (Option Nat)} {tl:TE} {g:TG} {tt:TT} {te:TE} {σ:St} {H H1:Hp} {Q:VK} (a:Addr) (xs:List V) (hr:∀ Q,Q (.ref a) H1->tl σ H Q) (hq:SqL K H1 a xs) (Pv:Addr->Nat->List V->Hp->Prop) (h0:∀ D,H1 D = none->Pv D 0 [] (upd H1 D (.lst [])))
  (hl:∀ D,H1 D = none->∀ i ys H,i ≤ xs.length->Pv D i ys H->SqL K H a xs∧H D = some (.lst ys)∧ys.length ≤ i) (hz:xs.length ≤ sizeLine)
  (hs:∀ D,H1 D = none->∀ i x ys H,xs[i]? = some x->Pv D i ys H->g x (zaG cap σ) H fun σ4 H4=>tt σ4 H4 fun b H5=>if b = true then te σ4 H5 fun y H6=>H6 D = some (.lst ys)∧Pv D (i + 1) (ys ++ [y]) (upd H6 D (.lst (ys ++ [y]))) else Pv D (i + 1) ys H5)
  (hd:∀ D,H1 D = none->∀ ys H,Pv D xs.length ys H->Q (.ref D) H):zbJ cap (zcs K tl) g tt te σ H Q:=hr _ ⟨a,rfl,⟨xs,hq⟩,fun D hD=>zdV (R:=fun H=>Q (.ref D) H) (Pv D) (h0 D hD) (hl D hD) hz (hs D hD) (hd D hD)⟩
theorem compT {K:PySem.W.Frag} {cap:List (Option Nat)} {tl:TE} {g:TG} {tt:TT} {te:TE} {σ:St} {H H1:Hp} {Q:VK} (a:Addr) (xs:List V) (hr:∀ Q,Q (.ref a) H1->tl σ H Q) (hq:SqT K H1 a xs) (Pv:Addr->Nat->List V->Hp->Prop) (h0:∀ D,H1 D = none->Pv D 0 [] (upd H1 D (.lst [])))
  (hl:∀ D,H1 D = none->∀ i ys H,i ≤ xs.length->Pv D i ys H->SqT K H a xs∧H D = some (.lst ys)∧ys.length ≤ i) (hz:xs.length ≤ sizeLine)
  (hs:∀ D,H1 D = none->∀ i x ys H,xs[i]? = some x->Pv D i ys H->g x (zaG cap σ) H fun σ4 H4=>tt σ4 H4 fun b H5=>if b = true then te σ4 H5 fun y H6=>H6 D = some (.lst ys)∧Pv D (i + 1) (ys ++ [y]) (upd H6 D (.lst (ys ++ [y]))) else Pv D (i + 1) ys H5)
  (hd:∀ D,H1 D = none->∀ ys H,Pv D xs.length ys H->Q (.ref D) H):zbJ cap (iTup K tl) g tt te σ H Q:=hr _ ⟨a,rfl,⟨xs,hq⟩,fun D hD=>zgZ (R:=fun H=>Q (.ref D) H) (Pv D) (h0 D hD) (hl D hD) hz (hs D hD) (hd D hD)⟩
theorem zgv {K:PySem.W.Frag} {cap:List (Option Nat)} {tl:TE} {g:TG} {tt:TT} {te:TE} {σ:St} {H:Hp} {Q:VK} (Pre:Addr->Hp->Prop) (hr:∀ Q,(∀ a H1,Pre a H1->Q (.ref a) H1)->tl σ H Q)
  (h:∀ a H1,Pre a H1->zbJ cap (zcs K (tC (.ref a))) g tt te σ H1 Q):zbJ cap (zcs K tl) g tt te σ H Q:=hr _ fun a H1 p=>h a H1 p
theorem zes {K:PySem.W.Frag} {tl:TE} {g:TG} {tb:TS} {D:Ends} {σ:St} {H:Hp} (Pre:Addr->Hp->Prop) (hr:∀ Q,(∀ a H1,Pre a H1->Q (.ref a) H1)->tl σ H Q)
  (h:∀ a H1,Pre a H1->tFor (zcs K (tC (.ref a))) g tb D σ H1):tFor (zcs K tl) g tb D σ H:=hr _ fun a H1 p=>h a H1 p
theorem zg1 {ta:TA} {g:TG} {tb:TS} {D:Ends} {σ:St} {H:Hp} (Pre:Int->Hp->Prop) (hr:∀ Q,(∀ n H1,Pre n H1->Q [.int n] H1)->ta σ H Q)
  (h:∀ n H1,Pre n H1->tFor (zfc (zcp (tC (.int n)) tNil)) g tb D σ H1):tFor (zfc ta) g tb D σ H:=hr _ fun a H1 p=>h a H1 p
theorem za7 {K:PySem.W.Frag} {n:Nat} {t:TGs} {a:Addr} {xs:List V} {σ:St} {H:Hp} {Q:St->Hp->Prop} (h:H a = some (.tup xs)) (hl:xs.length = n) (q:t xs σ H Q):gTup K n t (.ref a) σ H Q:=⟨a,xs,rfl,.of h,hl,q⟩
abbrev Th:=Int × List Int × List Int
noncomputable def thW (t:Th):List Int:=(16 * (t.2.1.length:Int) + t.2.2.length) :: (t.2.1 ++ t.2.2)
noncomputable def thSz (t:Th):Int:=1 + t.2.1.length + t.2.2.length
noncomputable def zil (t:Th) (z:Int):Option Int:=if z < t.1 then none else (thW t)[(z - t.1).toNat]?
noncomputable def wordAt (ts:List Th) (z:Int):Option Int:=ts.findSome? fun t=>zil t z
noncomputable def Lay:Int->List Th->Int->Prop
 | s,[],f=>f = s
 | s,t :: r,f=>t.1 = s∧Lay (s + thSz t) r f
theorem zen {ms ns:List Int} (hp:ms.Perm ns) (hs:ms.Pairwise (· ≤ ·)) (hr:ns.Pairwise (· < ·)):ms = ns :=
 List.Perm.eq_of_pairwise (le:=(· ≤ ·)) (fun a b _ _ h1 h2=>Int.le_antisymm h1 h2) hs (hr.imp fun h=>Int.le_of_lt h) hp
end L2
set_option Elab.async false
set_option linter.all false
set_option maxRecDepth 100000
namespace L2
open PySem PySem.Spec PyProof.Rows
noncomputable def rEqE (neg:Bool):R2:=fun x y H Q=>∃ l b xs,x = .ref l∧y = .ref b∧seqV H l = some xs∧zcY H l = some true∧seqV H b = some []∧zcY H b = some true∧Q (.bl (if neg then !xs.isEmpty else xs.isEmpty)) H
theorem zec {A:Around} {s:Shared} {us:List Value} (h:us.length = 0) (ws:List Value) :
  ∀ j (h1:j < us.toArray.size) (h2:j < ws.toArray.size),SeqAt.EqAt A s us.toArray[j] ws.toArray[j] ((fun _=>true) j):=by
 intro j h1 h2
 simp only [List.size_toArray] at h1
 omega
section
variable {X:Cx}
theorem ziH (hu:X.A.units + 1 < cLine):OpR X (compareOp .Eq) (rEqE false):=by
 intro pins s σ H x y v u Q I rx ry h
 obtain ⟨l,b,xs,rfl,rfl,h1,k1,h2,k2,q⟩:=h
 cases rx
 cases ry
 obtain ⟨us,r1,p1,z1⟩:=I.list (zbM (K:=X.K) h1 k1)
 obtain ⟨ws,r2,p2,z2⟩:=I.list (zbM (K:=X.K) h2 k2)
 have l1:=r1.length
 have l2:=r2.length
 cases xs with
 | nil =>
  refine SeqAt.eq_listAt p1.isList p2.isList (by simp at l1 l2 ⊢; omega) (by omega) (zec (by simpa using l1.symm) ws) ⟨.bl _,H,I,rfl,?_⟩
  have e:(List.range us.toArray.size).all (fun _=>true) = true:=by simp
  rw [e]
  exact q
 | cons x xs =>
  refine SeqAt.eq_list_lengthsAt p1.isList p2.isList (by simp at l1 l2 ⊢; omega) (by omega) ⟨.bl _,H,I,rfl,?_⟩
  exact q
theorem zhs (hu:X.A.units + 1 < cLine):OpR X (compareOp .NotEq) (rEqE true):=by
 intro pins s σ H x y v u Q I rx ry h
 obtain ⟨l,b,xs,rfl,rfl,h1,k1,h2,k2,q⟩:=h
 cases rx
 cases ry
 obtain ⟨us,r1,p1,z1⟩:=I.list (zbM (K:=X.K) h1 k1)
 obtain ⟨ws,r2,p2,z2⟩:=I.list (zbM (K:=X.K) h2 k2)
 have l1:=r1.length
 have l2:=r2.length
 cases xs with
 | nil =>
  refine SeqAt.RcNeAt.lists p1.isList p2.isList (by simp at l1 l2 ⊢; omega) (by omega) (zec (by simpa using l1.symm) ws) _ _ _ _ ⟨.bl _,H,I,rfl,?_⟩
  have e:(List.range us.toArray.size).all (fun _=>true) = true:=by simp
  rw [e]
  exact q
 | cons x xs =>
  refine SeqAt.RcNeAt.lists_lengths p1.isList p2.isList (by simp at l1 l2 ⊢; omega) (by omega) _ _ _ _ ⟨.bl _,H,I,rfl,?_⟩
  exact q
end
end L2
set_option Elab.async false
set_option linter.all false
set_option maxRecDepth 100000
namespace L2
open PySem PySem.Spec PyProof.Rows
section
variable {prog:Program} {w:World} {K:Type} [DecidableEq K] {knd:KeyKind prog w K} {A:Around} {E:Value->Shared->Prop} {s:Shared}
end
theorem compS {cap:List (Option Nat)} {tl:TE} {g:TG} {tt:TT} {te:TE} {σ:St} {H H1:Hp} {Q:VK} (z:Str) (hr:∀ Q,Q (.str z) H1->tl σ H Q) (ha:z.cps.all (· < 128) = true) (Pv:Addr->Nat->List V->Hp->Prop) (h0:∀ D,H1 D = none->Pv D 0 [] (upd H1 D (.lst [])))
  (hl:∀ D,H1 D = none->∀ i ys H,i ≤ z.cps.size->Pv D i ys H->H D = some (.lst ys)∧ys.length ≤ i) (hz:z.cps.size ≤ sizeLine)
  (hs:∀ D,H1 D = none->∀ i c ys H,z.cps[i]? = some c->Pv D i ys H->g (.str ⟨#[c]⟩) (zaG cap σ) H fun σ4 H4=>tt σ4 H4 fun b H5=>if b = true then te σ4 H5 fun y H6=>H6 D = some (.lst ys)∧Pv D (i + 1) (ys ++ [y]) (upd H6 D (.lst (ys ++ [y]))) else Pv D (i + 1) ys H5)
  (hd:∀ D,H1 D = none->∀ ys H,Pv D z.cps.size ys H->Q (.ref D) H):zbJ cap (iStr tl) g tt te σ H Q:=by
 refine hr _ ⟨z,rfl,ha,fun D hD=>⟨fun i m ys H=>m = z.cps.size - i∧i ≤ z.cps.size∧Pv D i ys H,⟨z.cps.size,by simp,Nat.zero_le _,h0 D hD⟩,?_⟩⟩
 rintro i m ys H2 ⟨rfl,hi,p⟩
 obtain ⟨e1,e2⟩:=hl D hD i ys H2 hi p
 refine ⟨e1,?_⟩
 by_cases c:i < z.cps.size
 ·refine .inr ⟨c,by omega,Pv D (i + 1),fun ys' H' p'=>⟨z.cps.size - (i + 1),by omega,rfl,c,p'⟩,fun x H3 y=>?_⟩
  obtain ⟨rfl,c',e,rfl⟩:=y
  exact hs D hD i c' ys _ e p
 ·have e:i = z.cps.size:=by omega
  subst e
  exact .inl ⟨Nat.le_refl _,hd D hD ys H2 p⟩
end L2
set_option Elab.async false
set_option linter.all false
set_option maxRecDepth 100000
namespace L2
open PySem PySem.Spec PyProof.Rows
section
variable {prog:Program} {w:World} {A:Around} {E:Value->Shared->Prop} {s:Shared} {a₀:Array Keyed}
theorem zip_self (vs:List Value):vs.toArray.zip vs.toArray = (vs.map fun v=>(v,v)).toArray:=by
 apply Array.toList_inj.mp
 rw [Array.toList_zip]
 show vs.zip vs = vs.map fun v=>(v,v)
 induction vs with
 | nil=>rfl
 | cons v r ih=>rw [List.zip_cons_cons,List.map_cons,ih]
end
section
variable {prog:Program} {w:World} {A:Around} {E:Value->Shared->Prop} {s:Shared} {T:String} {r d:Addr} {n:Nat} {P:Nat->Value->Prop} {OK:Heap->Prop} {Q:Value->Shared->Prop}
end
section
variable {X:Cx}
end
end L2
set_option Elab.async false
set_option linter.all false
set_option maxRecDepth 100000
namespace L2
open PySem PySem.Spec PyProof.Rows
noncomputable def stepO (ord:List Int) (h:Int):List Int:=if h = 0 ∨ h ∈ ord then ord else ord ++ [h]
noncomputable def layO (ord hs:List Int):List Int:=hs.foldl stepO ord
noncomputable def thAt (ts:List Th) (z:Int):Th:=(ts.find? fun t=>t.1 == z).getD (0,[],[])
noncomputable def zhI (ts:List Th) (z:Int):List Int:=(thAt ts z).2.1
noncomputable def zhm (ts:List Th) (roots ord:List Int):List Int:=roots ++ ord.flatMap (zhI ts)
structure Cart (ts:List Th) (roots ord:List Int):Prop where
 fix:layO [] (zhm ts roots ord) = ord
 led:∀ n,n < ord.length->ord.take (n + 1) <+: layO [] (zhm ts roots (ord.take n))
end L2
set_option Elab.async false
set_option linter.all false
set_option maxRecDepth 100000
namespace L2
open PySem PySem.Spec PyProof.Rows
noncomputable def Ite (K:PySem.W.Frag) (l:Addr):It :=
 ⟨fun i H=>∃ xs x,SqL K H l xs∧xs[i]? = some x,
  fun i H v H'=>∃ p x,v = .ref p∧H p = none∧H' = upd H p (.tup [.int i,x])∧∀ xs,SqL K H l xs->xs[i]? = some x,
  fun i H=>∃ xs,SqL K H l xs∧xs.length ≤ i⟩
structure EnSt (e it l:Addr) (i:Nat) (h:Heap):Prop where
 e:∃ old,IsEnum h e it i old
 h1:h.IsListIter it l i
theorem zga {P:Program} {w:World} {K:PySem.W.Frag} {es:List Expr} {tk:Nat} {tpos:Pos} (e it l:Addr) (ne:e ≠ it):Turn P w K (.Tuple es tk tpos) (Ite K l) [e,it] e (EnSt e it l) where
 mem:=by simp
 obj:=fun i h st b hb=>by
  simp only [List.mem_cons,List.not_mem_nil,or_false] at hb
  rcases hb with rfl | rfl
  ·obtain ⟨old,g⟩:=st.e
   exact ⟨_,g,fun v z=>by cases (show Data.fields _ = Data.cell v from z)⟩
  ·obtain ⟨o,g,_,d⟩:=st.h1
   exact ⟨o,g,fun v z=>by rw [d] at z; cases z⟩
 keep:=fun i h h' st k=>by
  obtain ⟨old,g⟩:=st.e
  exact ⟨⟨old,k e (by simp) _ g⟩,st.h1.at fun o g=>k it (by simp) o g⟩
 item:=by
  intro X hP hw hK hc i pins s σ H E I hf st hg
  subst hP hw hK
  obtain ⟨xs,x,hq,hx⟩:=hg
  obtain ⟨us,r1,p1,z1⟩:=I.list hq
  obtain ⟨u,eu,ru⟩:=r1.get hx
  obtain ⟨old,ge⟩:=st.e
  refine wpAny_pyNext_enum_item ge st.h1 p1.isList (x:=u) (by simpa using eu) ne fun h' a1 a2 a3 a4 a5=>?_
  refine ⟨_,rfl,wpAny_letOwnedTupleGo_enum a1 fun h2 b1 b2=>?_⟩
  have lt1:e < s.heap.objs.size:=Heap.lt_size ge
  have lt2:it < s.heap.objs.size:=by obtain ⟨o,g,_⟩:=st.h1; exact Heap.lt_size g
  have hlt:∀ c ∈ [e,it],c < s.heap.objs.size:=fun c hc=>by
   simp only [List.mem_cons,List.not_mem_nil,or_false] at hc
   rcases hc with rfl | rfl
   ·exact lt1
   ·exact lt2
  have kk:∀ b o,b ∉ [e,it]->s.heap.get? b = some o->h2.get? b = some o:=fun b o hb g=>by
   simp only [List.mem_cons,List.not_mem_nil,or_false,not_or] at hb
   exact b2.extBut b o hb.1 (a5 b o hb.1 hb.2 g)
  have gp:=b2.extBut _ _ (Nat.ne_of_gt lt1) a3
  have hn:H s.heap.objs.size = none:=I.hok.fresh (Nat.le_refl _)
  have nit:∀ b u,H b = some u->b ∉ [e,it]:=fun b u g w=>by rw [(hf b w).1] at g; cases g
  have hL:X.env.locals ∉ [e,it]:=fun w=>(hf _ w).2.1 rfl
  have I2:Inv X pins σ (upd H s.heap.objs.size (.tup [.int i,x])) { s with heap:=h2,toks:=s.toks + 1 }:=by
   refine I.step (g':=s.gens) (d':=s.drawn) (t':=s.toks + 1) (ch:=[e,it]) (fun b hb=>⟨(hf b hb).2.2.2.1,(hf b hb).2.1,(hf b hb).2.2.2.2.1,(hf b hb).2.2.2.2.2⟩) (fun b o _ _ hc g _=>kk b o hc g) (fun b o _ _ hc g _=>⟨o.slots,kk b o hc g⟩)
    (fun b o _ g n=>by rw [zaj (Nat.ne_of_lt (Heap.lt_size g))]; exact n) (fun b o hc g=>⟨o,kk b o hc g⟩) (fun _ _ g=>zab g hn) (fun _ _ _ g=>zab g hn) (fun b ps g=>⟨#[],by rw [zab g hn]; simp⟩) (fun m hm=>?_) (fun b w g=>?_) I.bare
   ·obtain ⟨o,es,ep,ho,r⟩:=hm
    exact ⟨o,es,ep,kk _ o hL ho,r⟩
   ·by_cases hb:b = s.heap.objs.size
    ·subst hb
     rw [zaa] at g
     cases g
     exact ⟨by rw [sizeLine_eq]; show 2 ≤ 16777216; decide,[.int i s.toks,u],.cons ⟨_,rfl⟩ (.cons ru .nil),⟨_,gp,rfl,_,rfl⟩⟩
    ·rw [zaj hb] at g
     refine (I.hok b w g).stay (fun c v hc q=>kk c v ?_ q) (fun _ q=>zab q hn) fun _ _ q=>zab q hn
     rcases hc with t | t
     ·rw [t]; exact nit b w g
     ·exact nit c _ t
  refine ⟨.ref s.heap.objs.size,_,I2,rfl,⟨_,x,rfl,hn,rfl,fun zs hz=>by rw [I.list_inj hz hq]; exact hx⟩,⟨⟨u,by have:=b1; simpa using this⟩,a2.extBut b2.extBut ne.symm⟩,fun b hb=>?_⟩
  rw [zaj (Nat.ne_of_lt (hlt b hb))]
  exact (hf b hb).1
 done:=by
  intro X hP hw hK hc i pins s σ H E I hf st hg
  subst hP hw hK
  obtain ⟨xs,hq,hor⟩:=hg
  obtain ⟨us,r1,p1,z1⟩:=I.list hq
  obtain ⟨old,ge⟩:=st.e
  have ln:=r1.length
  refine wpAny_pyNext_enum_end (I.ok.hd hc) ge st.h1 p1.isList (by simp; omega) fun h' kk=>⟨rfl,I.turnedL (t':=s.toks) (ch:=[e,it]) (fun b o hb g=>?_) hf⟩
  simp only [List.mem_cons,List.not_mem_nil,or_false,not_or] at hb
  exact kk b o hb.2 g
 self:=fun _ _ _ _ _ st h=>by
  obtain ⟨old,ge⟩:=st.e
  exact wpAny_pyIter_enum ge h
section
variable {X:Cx}
noncomputable def zik (K:PySem.W.Frag) (ta:TA):TI:=fun σ H R=>ta σ H fun vs H1=>∃ l,vs = [.ref l]∧(∃ xs,SqL K H1 l xs)∧R (Ite K l) H1
theorem zev {es:List Expr} {tk:Nat} {tpos:Pos} {a:Expr} {ta:TA} {p pos:Pos} (hg:Gl X "enumerate") (hm:X.mg "enumerate" = none) (ha:PA X [a] ta) (hs:starEach [a] X.env = [(false,eval a X.env)]:=by rfl) (hs2:starEach [] X.env = []:=by rfl) :
  PI X (.Tuple es tk tpos) (.Call (.Name "enumerate" p) [a] [] pos) (zik X.K ta):=by
 intro pins s σ H R I h
 refine Call_ (zbY I hg hm boot_enumerate (PyProof.Rows.callWith_type1 (thn (ha pos pins s σ H _ I h) fun us s1 ⟨vs,H1,I1,r1,q1⟩=>?_) (by rw [hs,hs2]) (by rw [hs2]; rfl)))
 obtain ⟨l,rfl,⟨xs,hq⟩,q⟩:=q1
 obtain ⟨u1,rfl,ru1⟩:=zcn r1
 cases ru1
 obtain ⟨us,rv,p1,z1⟩:=I1.list hq
 refine call_enumerate_list p1.isList fun h2 g1 g2 g3 g4=>wpAny_pyIter_enum g1 ?_
 refine ⟨_,[s1.heap.objs.size + 1,s1.heap.objs.size],_,_,H1,rfl,I1.kept (t':=s1.toks) g4,zga _ _ l (Nat.ne_of_gt (Nat.lt_succ_self _)),⟨⟨_,g1⟩,g2⟩,fun b hb=>?_,q⟩
 have hb2:s1.heap.objs.size ≤ b:=by
  simp only [List.mem_cons,List.not_mem_nil,or_false] at hb
  rcases hb with rfl | rfl
  ·exact Nat.le_add_right _ _
  ·exact Nat.le_refl _
 exact I1.fpOk hb2 (I1.hok.fresh hb2)
end
end L2
set_option Elab.async false
set_option linter.all false
set_option maxRecDepth 100000
namespace PySem
namespace F
theorem owner_set_iterator:Manifest.owners.lookup (String.ofList ['r','o','t','a','r','e','t','i','_','t','e','s'].reverse) = some Manifest.sig_set_iterator:=by kernel_rfl
theorem slot_set_iterator_next:Slot "set_iterator" "__next__" "set_iterator.__next__" :=
 .of (owner:="set_iterator") (n:="__next__") (by rw [typeLookup_type,builtinLookup_eq_fast]; kernel_rfl) (by decide +kernel) (by decide +kernel) (by decide +kernel)
  (by first | exact .inl (by decide +kernel) | exact .inr (by decide +kernel)) (by rw [isSubtype_type]; kernel_rfl)
theorem slot_set_iterator_iter:Slot "set_iterator" "__iter__" "set_iterator.__iter__" :=
 .of (owner:="set_iterator") (n:="__iter__") (by rw [typeLookup_type,builtinLookup_eq_fast]; kernel_rfl) (by decide +kernel) (by decide +kernel) (by decide +kernel)
  (by first | exact .inl (by decide +kernel) | exact .inr (by decide +kernel)) (by rw [isSubtype_type]; kernel_rfl)
theorem entry_set_iterator_next:entryFor table "set_iterator.__next__" = some Builtin.«set_iterator.__next__»:=entryFor_of_tree (by kernel_rfl)
theorem entry_set_iterator_iter:entryFor table "set_iterator.__iter__" = some Builtin.«dict_keyiterator.__iter__» :=
 entryFor_alias (id':="dict_keyiterator.__iter__") (by kernel_rfl) rfl (by decide +kernel) (by kernel_rfl)
theorem entry_set_iter:entryFor table "set.__iter__" = some Builtin.«frozenset.__iter__» :=
 entryFor_alias (id':="frozenset.__iter__") (by kernel_rfl) rfl (by decide +kernel) (by kernel_rfl)
theorem args_set_iterator_next_1 (a:Value):argsOk "set_iterator.__next__" ⟨[a],[]⟩:=by
 unfold argsOk; rw [signature?_of (id:="set_iterator.__next__") (n:=['_','_','t','x','e','n','_','_']) (o:=['r','o','t','a','r','e','t','i','_','t','e','s']) (by kernel_rfl) owner_set_iterator]; kernel_rfl
theorem args_set_iterator_iter_1 (a:Value):argsOk "set_iterator.__iter__" ⟨[a],[]⟩:=by
 unfold argsOk; rw [signature?_of (id:="set_iterator.__iter__") (n:=['_','_','r','e','t','i','_','_']) (o:=['r','o','t','a','r','e','t','i','_','t','e','s']) (by kernel_rfl) owner_set_iterator]; kernel_rfl
end F
structure SetWalked (w:World) (a:Addr) (es:Array (Int × Value)) (ep:Nat) (t:SetTable):Prop where
 fits:t.fits es.size = true
 plain:t.plain = true
 led:t.led = !w.params.followText "set-order"
 rise:∀ i j,i < j->j < es.size->t.place.getD i 0 < t.place.getD j 0
noncomputable def zbw (t:SetTable) (i:Nat):Nat:=if i = 0 then 0 else t.place.getD (i - 1) 0 + 1
noncomputable def Heap.IsSetIter (h:Heap) (it a:Addr) (sl i n ep:Nat):Prop :=
 h.get? it = some { cls:=.type "set_iterator",data:=.fields #[.int sl 0,.int i 0,.ref a,.int n 0,.int ep 0] }
theorem zcx (xs:Array Nat) (j p:Nat) (h1:∀ i,i < p->xs.getD i j < j) (h2:∀ i,p ≤ i->i < xs.size->¬ xs.getD i j < j) :
  ∀ (fuel lo hi:Nat),lo ≤ p->p ≤ hi->hi ≤ xs.size->hi - lo ≤ fuel->SetTable.below.go xs j fuel lo hi = p
 | 0,lo,hi,a,b,c,d=>by unfold SetTable.below.go; omega
 | fuel + 1,lo,hi,a,b,c,d=>by
  unfold SetTable.below.go
  by_cases e:lo < hi
  ·rw [if_pos e]
   dsimp only
   by_cases f:xs.getD ((lo + hi) / 2) j < j
   ·rw [if_pos f]
    have:(lo + hi) / 2 < p:=by
     by_cases g:(lo + hi) / 2 < p
     ·exact g
     ·exact absurd f (h2 _ (by omega) (by omega))
    exact zcx xs j p h1 h2 fuel _ _ (by omega) b c (by omega)
   ·rw [if_neg f]
    have:p ≤ (lo + hi) / 2:=by
     by_cases g:(lo + hi) / 2 < p
     ·exact absurd (h1 _ g) f
     ·omega
    exact zcx xs j p h1 h2 fuel _ _ a this (by omega) (by omega)
  ·rw [if_neg e]; omega
theorem zg8 {t:SetTable} {n i:Nat} (hn:t.place.size = n) (hr:∀ i j,i < j->j < n->t.place.getD i 0 < t.place.getD j 0) (hi:i ≤ n):SetTable.below t.place (zbw t i) = i:=by
 have gd:∀ k d,k < n->t.place.getD k d = t.place.getD k 0:=fun k d h=>by
  simp only [Array.getD_eq_getD_getElem?,Array.getElem?_eq_getElem (show k < t.place.size by omega),Option.getD_some]
 refine zcx _ _ i (fun k hk=>?_) (fun k hk hk2=>?_) _ _ _ (Nat.zero_le _) (by omega) (Nat.le_refl _) (by omega)
 ·rw [gd k _ (by omega)]
  unfold zbw
  rw [if_neg (by omega)]
  by_cases c:k = i - 1
  ·rw [c]; omega
  ·have:=hr k (i - 1) (by omega) (by omega); omega
 ·rw [gd k _ (by omega)]
  unfold zbw
  by_cases c:i = 0
  ·rw [if_pos c]; omega
  ·rw [if_neg c]
   have:=hr (i - 1) k (by omega) (by omega)
   omega
end PySem
namespace PySem
section
variable {prog:Program} {w:World} {A:Around} {E:Value->Shared->Prop} {s:Shared}
noncomputable def za4 (w:World) (a:Addr) (es:Array (Int × Value)) (ep:Nat):Array (Int × Value):=if w.params.followText "set-order" then pickOrder (w.params.setOrder a ep) es else es
theorem zco {a:Addr} {es:Array (Int × Value)} {ep:Nat} {t:SetTable} {Q:Value->Shared->Prop} (ho:s.heap.get? a = some { cls:=.type "set",data:=.set es ep t }) (hw:SetWalked w a es ep t)
  (hQ:Q (.ref s.heap.objs.size) { s with heap:=s.heap.push { cls:=.type "set_iterator",data:=.fields #[.int 0 0,.int 0 0,.ref a,.int es.size 0,.int ep 0] } }) :
  wpAny (model prog w) A (pyIter (.ref a)) Q E s:=by
 have hT:s.TypeIs (.ref a) "set":=⟨_,ho,rfl⟩
 refine wpAny_pyIter_slot hT F.slot_set_iter (wpAny_call_entry F.slot_set_iter hT F.entry_set_iter ?_ (F.args_set_iter_1 _))
 unfold Builtin.«frozenset.__iter__» Builtin.Frozenset.slot0 slotArgs
 simp only [List.isEmpty_nil,Bool.not_true,Bool.false_eq_true,↓reduceIte,bind_assoc,List.length_nil,bne_self_eq_false]
 unfold Builtin.Frozenset.addrOf Builtin.Frozenset.sizeOf
 refine wpAny_bind (wpAny_pure ?_)
 try dsimp only
 refine wpAny_bind (wpAny_pure ?_)
 refine wpAny_bind (wpAny_bind (wpAny_setEntries_of ho rfl hw.fits (wpAny_pure ?_)))
 refine wpAny_bind ?_
 unfold setDrawn
 refine wpAny_bind (wpAny_setState_of ho rfl hw.fits ?_)
 dsimp only
 unfold setsByText
 refine wpAny_bind (wpAny_bind (wpAny_askSetting (wpAny_pure ?_)))
 refine wpAny_pure ?_
 rw [if_neg (by
  show ¬ (!_ && (!t.plain && _)) = true
  rw [hw.plain]
  simp)]
 refine wpAny_bind (wpAny_pure ?_)
 refine wpAny_bind (wpAny_setEpoch_of ho rfl hw.fits ?_)
 unfold newFields
 refine wpAny_bind (wpAny_newObj_type (wpAny_pure ⟨_,rfl,"set_iterator",_,⟨_,Heap.get?_push_size _ rfl,rfl⟩,F.slot_set_iterator_next.lookup,?_⟩))
 exact hQ
theorem Heap.IsSetIter.typeIs {it a sl i n ep} (x:s.heap.IsSetIter it a sl i n ep):s.TypeIs (.ref it) "set_iterator":=⟨_,x,rfl⟩
theorem zbE {it a:Addr} {sl i n ep:Nat} {Q:Value->Shared->Prop} (hit:s.heap.IsSetIter it a sl i n ep) (h:Q (.ref it) s):wpAny (model prog w) A (pyIter (.ref it)) Q E s:=by
 refine wpAny_pyIter_slot hit.typeIs F.slot_set_iterator_iter (wpAny_call_entry F.slot_set_iterator_iter hit.typeIs F.entry_set_iterator_iter ?_ (F.args_set_iterator_iter_1 _))
 show wpAny _ _ (ret (.ref it)) _ _ s
 exact wpAny_pure ⟨_,rfl,"set_iterator",_,hit.typeIs,F.slot_set_iterator_next.lookup,h⟩
noncomputable def zby (w:World) (t:SetTable) (sl i:Nat):Prop:=w.params.followText "set-order" = true ∨ sl = zbw t i
theorem zbX {a:Addr} {es:Array (Int × Value)} {ep sl i:Nat} {t:SetTable} {Q:Option (Value × Nat)->Shared->Prop} (ho:s.heap.get? a = some { cls:=.type "set",data:=.set es ep t }) (hw:SetWalked w a es ep t)
  (hs:zby w t sl i) (hi:i ≤ es.size) (h1:∀ x,(za4 w a es ep)[i]? = some x->∀ sl',zby w t sl' (i + 1)->Q (some (x.2,sl')) s) (h2:(za4 w a es ep)[i]? = none->Q none s) :
  wpAny (model prog w) A (setNext a sl i ep) Q E s:=by
 unfold setNext setsByText
 refine wpAny_bind (wpAny_setState_of ho rfl hw.fits ?_)
 dsimp only
 refine wpAny_bind (wpAny_bind (wpAny_askSetting (wpAny_pure ?_)))
 cases ht:w.params.followText "set-order" with
 | true =>
  rw [show (model prog w).w.params.followText "set-order" = true from ht]
  rw [if_pos rfl]
  rw [if_neg (by simp)]
  unfold setWalk setsByText
  refine wpAny_bind (wpAny_bind (wpAny_setState_of ho rfl hw.fits ?_))
  dsimp only
  refine wpAny_bind (wpAny_bind (wpAny_askSetting (wpAny_pure ?_)))
  rw [show (model prog w).w.params.followText "set-order" = true from ht]
  rw [if_pos rfl]
  refine wpAny_bind (wpAny_askSetting ?_)
  refine wpAny_pure (wpAny_pure ?_)
  have eo:za4 w a es ep = pickOrder (w.params.setOrder a ep) es:=by unfold za4; rw [if_pos ht]
  rw [eo] at h1 h2
  show Q (((pickOrder (w.params.setOrder a ep) es)[i]?).map fun e=>(e.2,sl)) s
  cases e:(pickOrder (w.params.setOrder a ep) es)[i]? with
  | none=>exact h2 e
  | some x=>exact h1 x e sl (.inl ht)
 | false =>
  rw [show (model prog w).w.params.followText "set-order" = false from ht]
  rw [if_neg (by simp)]
  rw [if_neg (by
   show ¬ (!t.plain && _) = true
   rw [hw.plain]
   simp)]
  have hl:t.led = true:=by rw [hw.led,ht]; rfl
  have eo:za4 w a es ep = es:=by unfold za4; rw [if_neg (by rw [ht]; simp)]
  rw [eo] at h1 h2
  have hsz:t.place.size = es.size:=by have:=hw.fits; simp only [SetTable.fits,Bool.and_eq_true,beq_iff_eq] at this; exact this.1
  have hst:sl = zbw t i:=by rcases hs with z | z; (· rw [ht] at z; cases z); exact z
  rw [hst,zg8 hsz hw.rise hi]
  refine wpAny_bind (show wpAny (model prog w) A (if (!t.led && !es.isEmpty) = true then unsupported "set:maker-not-led" else pure ()) _ E s from ?_)
  rw [hl,if_neg (by simp)]
  refine wpAny_pure (wpAny_pure ?_)
  by_cases c:i < es.size
  ·have e1:es[i]? = some es[i]:=Array.getElem?_eq_getElem c
   have e2:t.place[i]? = some (t.place[i]'(by omega)):=Array.getElem?_eq_getElem (by omega)
   rw [e1,e2]
   refine h1 _ e1 _ (.inr ?_)
   unfold zbw
   rw [if_neg (by omega),Nat.add_sub_cancel]
   simp [Array.getD_eq_getD_getElem?,e2]
  ·have e1:es[i]? = none:=Array.getElem?_eq_none (by omega)
   rw [e1]
   exact h2 e1
theorem zbv {it a:Addr} {es:Array (Int × Value)} {ep sl i:Nat} {t:SetTable} {x:Int × Value} {Q:Option Value->Shared->Prop} (hit:s.heap.IsSetIter it a sl i es.size ep)
  (ho:s.heap.get? a = some { cls:=.type "set",data:=.set es ep t }) (hw:SetWalked w a es ep t) (hs:zby w t sl i) (hi:i ≤ es.size) (hx:(za4 w a es ep)[i]? = some x)
  (hQ:∀ h' sl',zby w t sl' (i + 1)->h'.IsSetIter it a sl' (i + 1) es.size ep->Heap.SameBut it s.heap h'->Q (some x.2) { s with heap:=h' }) :
  wpAny (model prog w) A (pyNext (.ref it)) Q E s:=by
 unfold pyNext
 refine wpAny_bind (wpAny_attempt (wpAny_callSpecial?_slot (name:=Str.ofString "__next__") hit.typeIs F.slot_set_iterator_next
  (wpAny_call_entry F.slot_set_iterator_next hit.typeIs F.entry_set_iterator_next ?_ (F.args_set_iterator_next_1 _))))
 unfold Builtin.«set_iterator.__next__» slotArgs
 simp only [List.isEmpty_nil,Bool.not_true,Bool.false_eq_true,↓reduceIte,bind_assoc,List.length_nil,bne_self_eq_false]
 refine wpAny_bind (wpAny_pure ?_)
 refine wpAny_bind (wpAny_fieldsOf hit rfl ?_)
 dsimp only
 refine wpAny_bind (wpAny_setEntries_of ho rfl hw.fits ?_)
 rw [if_neg (by simp)]
 simp only [Int.toNat_natCast]
 refine wpAny_bind (zbX ho hw hs hi (fun y hy sl' hs'=>?_) (fun h=>by rw [hx] at h; cases h))
 rw [hx] at hy
 cases hy
 dsimp only
 refine wpAny_bind (wpAny_setField (vs:=#[.int sl 0,.int i 0,.ref a,.int es.size 0,.int ep 0]) hit rfl (by simp) ?_)
 have g1:=Heap.get?_update_self (Obj.mapFields (·.setIfInBounds 0 (rawInt ((sl':Nat):Int)))) hit rfl
 refine wpAny_bind (wpAny_setField (vs:=#[.int sl' 0,.int i 0,.ref a,.int es.size 0,.int ep 0]) g1 rfl (by simp) ?_)
 have g2:=Heap.get?_update_self (Obj.mapFields (·.setIfInBounds 1 (rawInt (((i:Nat):Int) + 1)))) g1 rfl
 refine wpAny_pure ⟨_,rfl,wpAny_pure (hQ _ sl' hs' ?_ ((Heap.SameBut.update ..).trans (Heap.SameBut.update ..)))⟩
 exact g2
theorem zbD {it a:Addr} {es:Array (Int × Value)} {ep sl i:Nat} {t:SetTable} {Q:Option Value->Shared->Prop} (hh:A.handled = none) (hit:s.heap.IsSetIter it a sl i es.size ep)
  (ho:s.heap.get? a = some { cls:=.type "set",data:=.set es ep t }) (hw:SetWalked w a es ep t) (hs:zby w t sl i) (hi:i ≤ es.size) (hx:(za4 w a es ep)[i]? = none)
  (hQ:∀ h',Heap.ExtBut it s.heap h'->Q none { s with heap:=h' }) :
  wpAny (model prog w) A (pyNext (.ref it)) Q E s:=by
 unfold pyNext
 refine wpAny_bind (wpAny_attempt (wpAny_callSpecial?_slot (name:=Str.ofString "__next__") hit.typeIs F.slot_set_iterator_next
  (wpAny_call_entry F.slot_set_iterator_next hit.typeIs F.entry_set_iterator_next ?_ (F.args_set_iterator_next_1 _))))
 unfold Builtin.«set_iterator.__next__» slotArgs
 simp only [List.isEmpty_nil,Bool.not_true,Bool.false_eq_true,↓reduceIte,bind_assoc,List.length_nil,bne_self_eq_false]
 refine wpAny_bind (wpAny_pure ?_)
 refine wpAny_bind (wpAny_fieldsOf hit rfl ?_)
 dsimp only
 refine wpAny_bind (wpAny_setEntries_of ho rfl hw.fits ?_)
 rw [if_neg (by simp)]
 simp only [Int.toNat_natCast]
 refine wpAny_bind (zbX ho hw hs hi (fun y hy sl' hs'=>by rw [hx] at hy; cases hy) (fun _=>?_))
 dsimp only
 refine wpAny_bind (wpAny_setField (vs:=#[.int sl 0,.int i 0,.ref a,.int es.size 0,.int ep 0]) hit rfl (by simp) ?_)
 show wpAny _ _ (newExc (.type "StopIteration") [] >>= _) _ _ _
 refine wpAny_bind ?_
 simp only [newExc,newTuple]
 refine wpAny_bind (wpAny_newObj_type ?_ (by size_fits))
 refine wpAny_bind (m:=firstArgMember _ _) (wpAny_of_eq (a:=Value.none) (by first | rfl | (simp only [firstArgMember]; rfl)) ?_)
 refine wpAny_newObj_type ?_ (by size_fits)
 simp only [raiseNew]
 refine wpAny_bind (wpAny_handled ?_)
 rw [show A.in1.handled = none from hh]
 refine wpAny_bind (wpAny_pure (wpAny_throw ?_))
 refine wpAny_bind (wpAny_isInstance (T:="StopIteration") (b:=true) ⟨_,Heap.get?_push_size _ rfl,rfl⟩ isSubtype_stop ?_)
 exact wpAny_pure (hQ _ (((Heap.SameBut.update ..).extBut.push _).push _))
theorem zbZ {α:Type}:∀ {l:List α} {i:Nat} (h:i < l.length),(l[i] :: l.eraseIdx i).Perm l
 | x :: r,0,_=>.refl _
 | x :: r,i + 1,h=>by
  have h':i < r.length:=by simpa using h
  show (r[i] :: x :: r.eraseIdx i).Perm (x :: r)
  exact (List.Perm.swap ..).trans ((zbZ h').cons _)
theorem zcj {α:Type} (next:Nat->Nat):∀ (fuel k:Nat) (left:List α) (out:Array α),left.length ≤ fuel->(pickOrder.go next fuel k left out).toList.Perm (out.toList ++ left)
 | 0,k,left,out,h=>by
  have:left = []:=List.eq_nil_of_length_eq_zero (by omega)
  subst this
  unfold pickOrder.go
  simp
 | fuel + 1,k,left,out,h=>by
  unfold pickOrder.go
  cases e:left[next k % left.length]? with
  | none =>
   have:left = []:=by
    cases left with
    | nil=>rfl
    | cons x r =>
     have:=Nat.mod_lt (next k) (show 0 < (x :: r).length by simp)
     rw [List.getElem?_eq_getElem this] at e; cases e
   subst this
   simp
  | some x =>
   obtain ⟨hl,hx⟩:=List.getElem?_eq_some_iff.mp e
   dsimp only
   refine (zcj next fuel (k + 1) _ _ (by rw [List.length_eraseIdx,if_pos hl]; omega)).trans ?_
   rw [Array.toList_push,List.append_assoc]
   refine List.Perm.append_left _ ?_
   have:=(zbZ hl)
   rw [hx] at this
   exact this
theorem zcN (w:World) (a:Addr) (es:Array (Int × Value)) (ep:Nat):(za4 w a es ep).toList.Perm es.toList:=by
 unfold za4
 split
 ·have:=zcj (w.params.setOrder a ep) es.size 0 es.toList #[] (by simp)
  simpa [pickOrder] using this
 ·exact .refl _
theorem zbQ (w:World) (a:Addr) (es:Array (Int × Value)) (ep:Nat):(za4 w a es ep).size = es.size:=by
 have:=(zcN w a es ep).length_eq
 simpa using this
theorem Walks.setKeys (hh:A.handled = none) (I a:Addr) (hne:a ≠ I) {es:Array (Int × Value)} {ep:Nat} {t:SetTable} (hw:SetWalked w a es ep t) :
  Walks prog w A I [I,a] [I] es.size (fun i v=>∃ x,(za4 w a es ep)[i]? = some x∧v = x.2) (fun i h=>(∃ sl,zby w t sl i∧h.IsSetIter I a sl i es.size ep)∧h.get? a = some { cls:=.type "set",data:=.set es ep t }∧i ≤ es.size) where
 sub:=fun b hb=>by simp at hb; simp [hb]
 frame:=fun _ _ _ st hk=>by
  obtain ⟨⟨sl,h1,h2⟩,h3,h4⟩:=st
  exact ⟨⟨sl,h1,hk I (by simp) _ h2⟩,hk a (by simp) _ h3,h4⟩
 item:=fun i s Q E hi st hQ=>by
  obtain ⟨⟨sl,h1,h2⟩,h3,h4⟩:=st
  obtain ⟨x,hx⟩:∃ p,(za4 w a es ep)[i]? = some p:=⟨_,Array.getElem?_eq_getElem (by rw [zbQ]; exact hi)⟩
  refine zbv h2 h3 hw h1 h4 hx fun h' sl' hs' hi' sb=>?_
  exact hQ _ h' s.toks ⟨x,hx,rfl⟩ ⟨⟨sl',hs',hi'⟩,sb.extBut a _ hne h3,hi⟩ fun b o hb e=>sb.extBut b o (fun h=>hb (by simp [h])) e
 done:=fun s Q E st hQ=>by
  obtain ⟨⟨sl,h1,h2⟩,h3,h4⟩:=st
  exact zbD hh h2 h3 hw h1 h4 (Array.getElem?_eq_none (by rw [zbQ]; exact Nat.le_refl _)) fun h' he'=>hQ h' s.toks fun b o hb e=>he' b o (fun h=>hb (by simp [h])) e
 self:=fun _ _ _ _ st hQ=>by
  obtain ⟨⟨sl,h1,h2⟩,h3,h4⟩:=st
  exact zbE h2 hQ
end
end PySem
namespace PySem
noncomputable def zaZ (x:Int) (led:Bool):SetTable:=((SetTable.fresh 0 0 led).put (((SetTable.fresh 0 0 led).freeSlot x).getD (0,false)).1).1
noncomputable def zb6 (x y:Int) (led:Bool):SetTable × Nat:=(zaZ x led).put (((zaZ x led).freeSlot y).getD (0,false)).1
noncomputable def ze9 (x:Int) (led:Bool):Bool:=((SetTable.fresh 0 0 led).freeSlot x).map (·.2) == some false && (zaZ x led).fits 1 && (zaZ x led).plain && ((zaZ x led).led == led) && !(zaZ x led).tooFull
noncomputable def ze7 (x y:Int) (led:Bool):Bool:=((zaZ x led).freeSlot y).map (·.2) == some false && (zb6 x y led).1.fits 2 && (zb6 x y led).1.plain && ((zb6 x y led).1.led == led) && !(zb6 x y led).1.tooFull && decide ((zb6 x y led).1.place.getD 0 0 < (zb6 x y led).1.place.getD 1 0)
theorem one_ok:∀ x:Nat,x < 48->ze9 x true = true∧ze9 x false = true:=by decide +kernel
theorem two_ok:∀ x:Nat,x < 48->∀ y:Nat,y < 48->x ≠ y->ze7 x y true = true∧ze7 x y false = true:=by decide +kernel
theorem hash_small:∀ x:Nat,x < 48->hashInt x = x:=by decide +kernel
end PySem
namespace PySem
section
variable {prog:Program} {w:World} {A:Around} {E:Value->Shared->Prop} {s:Shared}
theorem zc5 {a:Addr} {es es':Array (Int × Value)} {ep:Nat} {t t':SetTable} {v:Int} {tk:Nat} {Q:Bool->Shared->Prop} (ho:s.heap.get? a = some { cls:=.type "set",data:=.set es ep t }) (hf:t.fits es.size = true)
  (hel:ElemsOf (intKind prog w) es.toList) (hb:es.size + 1 < scanBound) (hz:es'.size ≤ sizeLine) (hnew:List.findIdx? (fun e=>(intKind prog w).is v e.2) es.toList = none) (hL:layNew t es (hashInt v) (.int v tk) = (es',t',false,false)) (hp:t'.plain = true) (hfull:t'.tooFull = false)
  (h:∀ h',Heap.SameBut a s.heap h'->h'.get? a = some { cls:=.type "set",data:=.set es' (ep + 1) t' }->Q true { s with heap:=h' }) :
  wpAny (model prog w) A (setAddHashed a (.int v tk) ((intKind prog w).hash v)) Q E s:=by
 have hkey:(intKind prog w).is v (.int v tk) = true:=by simp [intKind,Value.isInt]
 unfold setAddHashed setAddHashedIn
 refine wpAny_holding (wpAny_bind (wpAny_setState_of ho rfl hf ?_))
 dsimp only
 rw [byScan_of (knd:=intKind prog w) rfl (by omega) hel]
 simp only [↓reduceIte]
 unfold setAddByScan
 refine wpAny_bind ?_
 refine wpAny_bind (wpAny_rule ?_)
 refine wpAny_bind (wpAny_setScan_of hkey ho rfl hf hel ?_)
 rw [hnew]
 dsimp only
 rw [show (intKind prog w).hash v = hashInt v from rfl,hL]
 dsimp only
 have hgw:∀ {s₁:Shared} {Q':Unit->Shared->Prop},Q' () s₁->wpAny (model prog w) A (match false with | true=>rule "set.scan.the-table-gave-way" | false=>pure ()) Q' E s₁:=fun hq=>wpAny_pure hq
 refine wpAny_bind (hgw ?_)
 rw [if_pos hp]
 rw [hashByValue_scannable 8 rfl]
 refine wpAny_bind (wpAny_pure ?_)
 rw [show plainKind (.int v tk) = true from rfl,if_pos rfl]
 refine wpAny_bind (wpAny_storeSet_of ho rfl ?_ hz)
 rw [hfull,if_neg (by simp)]
 refine wpAny_pure ?_
 dsimp only
 refine wpAny_pure (h _ (Heap.SameBut.update s.heap a (Obj.putSet es' t')) ?_)
 have:=Heap.get?_update_self (Obj.putSet es' t') ho rfl
 exact this
theorem zfv {a:Addr} {es:Array (Int × Value)} {ep j:Nat} {t:SetTable} {v:Int} {tk:Nat} {Q:Bool->Shared->Prop} (ho:s.heap.get? a = some { cls:=.type "set",data:=.set es ep t }) (hf:t.fits es.size = true)
  (hel:ElemsOf (intKind prog w) es.toList) (hb:es.size + 1 < scanBound) (hold:List.findIdx? (fun e=>(intKind prog w).is v e.2) es.toList = some j)
  (h:Q false s) :
  wpAny (model prog w) A (setAddHashed a (.int v tk) ((intKind prog w).hash v)) Q E s:=by
 have hkey:(intKind prog w).is v (.int v tk) = true:=by simp [intKind,Value.isInt]
 unfold setAddHashed setAddHashedIn
 refine wpAny_holding (wpAny_bind (wpAny_setState_of ho rfl hf ?_))
 dsimp only
 rw [byScan_of (knd:=intKind prog w) rfl (by omega) hel]
 simp only [↓reduceIte]
 unfold setAddByScan
 refine wpAny_bind ?_
 refine wpAny_bind (wpAny_rule ?_)
 refine wpAny_bind (wpAny_setScan_of hkey ho rfl hf hel ?_)
 rw [hold]
 dsimp only
 exact wpAny_pure (wpAny_pure h)
theorem ze6 {x:Int} {u:Value} {led:Bool} (h:ze9 x led = true):layNew (.fresh 0 0 led) #[] x u = (#[(x,u)],zaZ x led,false,false):=by
 simp only [ze9,Bool.and_eq_true,beq_iff_eq] at h
 obtain ⟨⟨⟨⟨h1,h2⟩,h3⟩,h4⟩,h5⟩:=h
 unfold layNew
 cases e:(SetTable.fresh 0 0 led).freeSlot x with
 | none=>rw [e] at h1; cases h1
 | some p =>
  obtain ⟨sl,b⟩:=p
  rw [e] at h1
  cases (show b = false from Option.some.inj h1)
  have eo:zaZ x led = ((SetTable.fresh 0 0 led).put sl).1:=by unfold zaZ; rw [e]; rfl
  dsimp only
  rw [← eo]
  have ep:((SetTable.fresh 0 0 led).put sl).2 = 0:=rfl
  rw [ep]
  have ei:SetTable.insertAt (#[]:Array (Int × Value)) 0 (x,u) = #[(x,u)]:=rfl
  rw [ei]
  show (_,(zaZ x led).orStandIn 1,false,!(zaZ x led).fits 1) = _
  unfold SetTable.orStandIn
  rw [h2]; rfl
theorem zff {x y:Int} {u v:Value} {led:Bool} (h:ze7 x y led = true):∃ es':Array (Int × Value),layNew (zaZ x led) #[(x,u)] y v = (es',(zb6 x y led).1,false,false)∧es'.toList.Perm [(x,u),(y,v)]:=by
 simp only [ze7,Bool.and_eq_true,beq_iff_eq] at h
 obtain ⟨⟨⟨⟨⟨h1,h2⟩,h3⟩,h4⟩,h5⟩,h6⟩:=h
 have hp:=layNew_perm (zaZ x led) #[(x,u)] y v
 refine ⟨(layNew (zaZ x led) #[(x,u)] y v).1,?_,hp⟩
 have hs:(layNew (zaZ x led) #[(x,u)] y v).1.size = 2:=by
  have:=hp.length_eq
  simpa using this
 revert hs
 unfold layNew
 cases e:(zaZ x led).freeSlot y with
 | none=>rw [e] at h1; cases h1
 | some p =>
  obtain ⟨sl,b⟩:=p
  rw [e] at h1
  cases (show b = false from Option.some.inj h1)
  have eo:zb6 x y led = (zaZ x led).put sl:=by unfold zb6; rw [e]; rfl
  dsimp only
  rw [← eo]
  intro hs
  rw [hs]
  unfold SetTable.orStandIn
  rw [h2]; rfl
end
end PySem
namespace PySem
section
variable {prog:Program} {w:World} {A:Around} {R:Result->Shared->Prop} {I:Addr} {fp wr:List Addr} {G:Array GenState->Array GenState->Prop} {n:Nat} {P:Nat->Value->Prop} {St:Nat->Shared->Prop}
theorem zgU (W:WalksS prog w A.in1 I fp wr G n P St) (S:Addr) (hSf:S ∉ fp) (val:Nat->Int) (hval:∀ i v,P i v->∃ t,v = .int (val i) t) (J:Nat->Heap->Prop)
  (hJ:∀ i h h',J i h->(∀ o,h.get? S = some o->h'.get? S = some o)->J i h')
  (hadd:∀ i (s:Shared) tk (Q:Bool->Shared->Prop) (E:Value->Shared->Prop),i < n->J i s.heap->(∀ b h',Heap.SameBut S s.heap h'->J (i + 1) h'->Q b { s with heap:=h' })->wpAny (model prog w) A.in1 (setAddHashed S (.int (val i) tk) ((intKind prog w).hash (val i))) Q E s) :
  ∀ (k i:Nat) (s:Shared),n - i = k->i ≤ n->St i s->J i s.heap ->
   (∀ s',Moved (S :: wr) G s s'->J n s'.heap->R (.ok (.ret .none)) s') ->
   codeAny (model prog w) A (.builtin "set.update.loop" ⟨[.ref S,.ref I],[]⟩) R s:=by
 have hSw:S ∉ wr:=fun h=>hSf (W.sub _ h)
 have hsub:∀ b ∈ wr,b ∈ S :: wr:=fun b hb=>List.mem_cons_of_mem _ hb
 intro k
 induction k with
 | zero =>
  intro i s hk hi hst hS hR
  have hin:i = n:=by omega
  subst hin
  refine codeAny_builtin PyProof.Rows.F.entry_set_update_loop ?_
  rw [Around.under_plainId PyProof.Rows.F.plain_set_update_loop _]
  show wpAny _ A.in1 (pyNext (.ref I) >>= _) _ _ s
  refine wpAny_bind (W.done s _ _ hst fun s' hm=>?_)
  show wpAny _ A.in1 (ret Value.none) _ _ s'
  exact wpAny_pure (hR s' (hm.mono hsub) (hJ _ _ _ hS fun o e=>hm.heap S _ hSw e))
 | succ k ih =>
  intro i s hk hi hst hS hR
  have hlt:i < n:=by omega
  refine codeAny_builtin PyProof.Rows.F.entry_set_update_loop ?_
  rw [Around.under_plainId PyProof.Rows.F.plain_set_update_loop _]
  show wpAny _ A.in1 (pyNext (.ref I) >>= _) _ _ s
  refine wpAny_bind (W.item i s _ _ hlt hst fun v s' hP hst' hm=>?_)
  obtain ⟨t,rfl⟩:=hval i v hP
  have hS':J i s'.heap:=hJ _ _ _ hS fun o e=>hm.heap S _ hSw e
  show wpAny _ A.in1 (holding [Value.int (val i) t] (setAdd S (.int (val i) t)) >>= _) _ _ s'
  refine wpAny_bind (wpAny_holding ?_)
  unfold setAdd
  refine wpAny_holding ?_
  refine wpAny_bind ((intKind prog w).pyHash (k:=val i) (intKind_is _ _ _ _) ?_)
  refine hadd i { s' with toks:=s'.toks + 1 } t _ _ hlt hS' fun b h' hsb hSi=>?_
  refine wpAny_pure ⟨plainId_quiet PyProof.Rows.F.plain_set_update_loop _,ih (i + 1) _ (by omega) hlt (W.frame _ s' _ _ hst' (Nat.le_succ _) fun b hb o e=>?_) hSi fun s'' hm'' hS''=>?_⟩
  ·rw [hsb.2 b (fun h:b = S=>hSf (by rw [← h]; exact hb))]; exact e
  ·refine hR s'' (Moved.trans W.gtrans ((hm.mono hsub).then_heap (Nat.le_succ _) fun b o hb e=>?_) hm'') hS''
   rw [hsb.2 b (fun h:b = S=>hb (by rw [h]; exact List.mem_cons_self))]; exact e
end
section
variable {prog:Program} {w:World} {A:Around} {E:Value->Shared->Prop} {s:Shared}
theorem zcW (a:Value) {Q₁:Value->Shared->Prop}
  (h:Q₁ (.ref s.heap.objs.size) { s with heap:=s.heap.push { cls:=.type "set",dict:=none,data:=.set #[] 0 (.fresh 0 0 (!w.params.followText "set-order")) } }) :
  codeAny (model prog w) A (.call (.builtin "set.__new__") ⟨[.type "set",a],[]⟩) (wants Q₁ E) s:=by
 refine codeAny_of_tree ?_
 show wpAny _ A.in1 (do checkBuiltinCall "set.__new__" ⟨[.type "set",a],[]⟩; again (.builtin "set.__new__" ⟨[.type "set",a],[]⟩)) _ _ s
 refine wpAny_bind (wpAny_of_eq (F.newCall_set_1 a) (wpAny_pure ⟨plainId_quiet F.plain_set_new _,codeAny_builtin F.entry_set_new ?_⟩))
 rw [Around.under_plainId F.plain_set_new _]
 unfold Builtin.«set.__new__» Builtin.Frozenset.newClass
 have hsub:=sub_set_self
 obtain ⟨hp,g,d,tk,os⟩:=s
 dsimp only
 wp_walk
 refine wpAny_askSetting (wpAny_pure ?_)
 dsimp only
 simp only [newObj]
 refine wpAny_bind (wpAny_alloc (wpAny_pure ?_))
 exact wpAny_pure h
set_option maxHeartbeats 3200000 in
theorem zeu {l:Addr} {items:Array Value} (val:Nat->Int) (J:Nat->Heap->Prop) {Q:Value->Shared->Prop}
  (hh:A.handled = none) (hl:s.heap.IsList l items) (hval:∀ (i:Nat) (v:Value),items[i]? = some v->∃ t,v = .int (val i) t)
  (h0:J 0 (s.heap.push { cls:=.type "set",dict:=none,data:=.set #[] 0 (.fresh 0 0 (!w.params.followText "set-order")) }))
  (hJ:∀ i h h',J i h->(∀ o,h.get? s.heap.objs.size = some o->h'.get? s.heap.objs.size = some o)->J i h')
  (hadd:∀ i (A:Around) (s1:Shared) tk (Q:Bool->Shared->Prop) (E:Value->Shared->Prop),i < items.size->J i s1.heap->(∀ b h',Heap.SameBut s.heap.objs.size s1.heap h'->J (i + 1) h'->Q b { s1 with heap:=h' })->wpAny (model prog w) A (setAddHashed s.heap.objs.size (.int (val i) tk) ((intKind prog w).hash (val i))) Q E s1)
  (h:∀ (h':Heap) (tk:Nat),J items.size h'->(∀ b o,b < s.heap.objs.size->s.heap.get? b = some o->h'.get? b = some o)->Q (.ref s.heap.objs.size) { s with heap:=h',toks:=tk }) :
  wpAny (model prog w) A (call (.type "set") [.ref l]) Q E s:=by
 obtain ⟨c,tl,hmro⟩:=F.called_set.mro
 have hmade:=F.called_set.made
 have hsub:=F.called_set.sub
 refine wpAny_call (codeAny_of_tree ?_)
 show wpAny _ _ (callAny (.type "set") _) _ _ _
 refine wpAny_pure ⟨Code.quiet_builtin _ (by decide +kernel),codeAny_builtin F.entry_type_call ?_⟩
 rw [Around.under_plain (weight_type_call_type "set" [.ref l] []) rfl]
 have h1:=F.called_set.notType
 have h2:=F.called_set.canCreate
 have hct:=F.typeCall_set_1 (.ref l)
 repeat (any_goals (first | assumption | wp_step))
 refine codeAny_mono (zcW (.ref l) (E:=E) (Q₁:=fun obj s₁=>obj = .ref s.heap.objs.size∧s₁ = { s with heap:=s.heap.push { cls:=.type "set",dict:=none,data:=.set #[] 0 (.fresh 0 0 (!w.params.followText "set-order")) } }) ⟨rfl,rfl⟩) fun r s₁ hr=>?_
 revert h0
 generalize (!w.params.followText "set-order") = led at hr
 intro h0
 cases r with
 | error e=>exact hr
 | ok fl =>
  cases fl with
  | ret obj =>
   obtain ⟨rfl,rfl⟩:=hr
   have hS:(s.heap.push { cls:=.type "set",dict:=none,data:=.set #[] 0 (.fresh 0 0 led) }).get? s.heap.objs.size = some { cls:=.type "set",dict:=none,data:=.set #[] 0 (.fresh 0 0 led) }:=Heap.get?_push_size _ rfl
   have hT:Shared.TypeIs { s with heap:=s.heap.push { cls:=.type "set",dict:=none,data:=.set #[] 0 (.fresh 0 0 led) } } (.ref s.heap.objs.size) "set":=⟨_,hS,rfl⟩
   have hli:=F.called_set.init.lookup
   have hbi:=F.called_set.init.bind (.ref s.heap.objs.size)
   repeat (any_goals (first | assumption | wp_step))
   refine codeAny_mono (codeAny_call_builtin (R:=wants (fun r s₂=>r = .none∧∃ h' tk,s₂ = { s with heap:=h',toks:=tk }∧J items.size h' ∧
     (∀ b o,b < s.heap.objs.size->s.heap.get? b = some o->h'.get? b = some o)) E) F.called_set.init.plain F.entry_set_init (check_set_init_1 hT ?_)) fun r₂ s₂ hr₂=>?_
   ·obtain ⟨ol,hol,hcl,nl,hdl⟩:=hl
    obtain ⟨ocls,odict,odata,oslots⟩:=ol
    simp only at hcl hdl
    subst hcl; subst hdl
    have hol':(s.heap.push { cls:=.type "set",dict:=none,data:=.set #[] 0 (.fresh 0 0 led) }).get? l = some { cls:=.type "list",dict:=odict,data:=.seq items nl,slots:=oslots }:=Heap.get?_push_of_some _ hol
    have hsls:=F.sub_list_set
    have hslf:=F.sub_list_frozenset
    have hne:(Value.type "list" == Value.type "dict") = false:=by decide
    have hl1:(s.heap.push { cls:=.type "set",dict:=none,data:=.set #[] 0 (.fresh 0 0 led) }).IsList l items:=⟨_,hol',rfl,nl,rfl⟩
    unfold Builtin.«set.__init__» noKeywords Builtin.Frozenset.updateFrom
    generalize hPI:pyIter = PI
    wp_walk
    subst hPI
    refine wpAny_pyIter_list hl1 ?_
    refine wpAny_bind (wpAny_runValue ?_)
    have hlS:l < s.heap.objs.size:=Heap.lt_size hol
    have hh3:A.in1.in1.in1.handled = none:=by simp [hh]
    have hneI:l ≠ (s.heap.push { cls:=.type "set",dict:=none,data:=.set #[] 0 (.fresh 0 0 led) }).objs.size:=by
     rw [Heap.size_push]; exact Nat.ne_of_lt (Nat.lt_succ_of_lt hlS)
    have hSf:s.heap.objs.size ∉ [(s.heap.push { cls:=.type "set",dict:=none,data:=.set #[] 0 (.fresh 0 0 led) }).objs.size,l]:=by
     rw [Heap.size_push]; simp only [List.mem_cons,List.mem_singleton,List.not_mem_nil,or_false,not_or]
     exact ⟨Nat.ne_of_lt (Nat.lt_succ_self _),Nat.ne_of_gt hlS⟩
    refine zgU ((Walks.list hh3 _ l hneI items).toS) s.heap.objs.size hSf val hval J hJ (fun i s1 tk Q E hi j k=>hadd i _ s1 tk Q E hi j k) (items.size - 0) 0 _ (by omega) (Nat.zero_le _)
     ⟨⟨_,Heap.get?_push_size _ rfl,rfl,rfl⟩,(hl1.push _)⟩ (hJ _ _ _ h0 fun o e=>Heap.get?_push_of_some _ e) ?hR
    case hR =>
     intro s' hm hS'
     obtain ⟨h',g',d',tk',os'⟩:=s'
     have eg:g' = s.gens:=hm.gens
     have ed:d' = s.drawn:=hm.drawn
     have eo:os' = s.os:=hm.os
     subst eg; subst ed; subst eo
     show wpAny _ _ _ _ _ _
     refine wpAny_pure ?_
     show wpAny _ _ (ret Value.none) _ _ _
     refine wpAny_pure ⟨rfl,h',tk',rfl,hS',fun b o hb e=>?_⟩
     have hb1:b ≠ s.heap.objs.size:=Nat.ne_of_lt hb
     have hb2:b ≠ (s.heap.push { cls:=.type "set",dict:=none,data:=.set #[] 0 (.fresh 0 0 led) }).objs.size:=by
      rw [Heap.size_push]; exact Nat.ne_of_lt (Nat.lt_succ_of_lt hb)
     exact hm.heap b o (by simp only [List.mem_cons,List.mem_singleton,List.not_mem_nil,or_false,not_or]; exact ⟨hb1,hb2⟩) (Heap.get?_push_of_some _ (Heap.get?_push_of_some _ e))
   ·cases r₂ with
    | error e=>exact hr₂
    | ok fl₂ =>
     cases fl₂ with
     | ret r =>
      obtain ⟨rfl,h',tk,rfl,hS',hk'⟩:=hr₂
      repeat (any_goals (first | assumption | wp_step))
      exact h _ _ hS' hk'
     | _=>exact hr₂.elim
  | _=>exact hr.elim
end
end PySem
namespace PySem.W
section
variable {prog:Program} {w:World} {A:Around} {E:Value->Shared->Prop} {s:Shared} {r:Addr} {Q:Bool->Shared->Prop}
theorem zd1 (hT:s.TypeIs (.ref r) "set") (h:Q false s):wpAny (model prog w) A (Builtin.List.listLengthHint (.ref r)) Q E s:=by
 unfold Builtin.List.listLengthHint
 refine wpAny_bind (wpAny_specialOf hT PySem.F.slot_set_len.lookup ?_)
 generalize hid:("set.__len__":String) = id0
 wp_delta
 rw [show splitId id0 = some ("set","__len__") from by subst hid; decide +kernel]
 subst hid
 refine wpAny_bind (wpAny_isInstance (T:="set") (b:=true) hT (by rw [isSubtype_type]; kernel_rfl) ?_)
 refine wpAny_ite_split (fun hab=>absurd hab (by decide)) (fun _=>?_)
 refine wpAny_ite_split (fun _=>?_) (fun hab=>absurd (by decide +kernel) hab)
 refine wpAny_bind (wpAny_typeOf hT ?_)
 exact wpAny_pure h
end
theorem kdl_set {prog:Program} {w:World} {a:Addr} {es:Array (Int × Value)} {ep:Nat} {t:SetTable} (hw:SetWalked w a es ep t) :
  KdlSrc prog w "set" a a es.size (fun i v=>∃ x,(za4 w a es ep)[i]? = some x∧v = x.2) (fun h=>h.get? a = some { cls:=.type "set",data:=.set es ep t }) where
 type:=fun _ hm=>⟨_,hm,rfl⟩
 there:=fun _ hm=>⟨Heap.lt_size hm,Heap.lt_size hm⟩
 keep:=fun _ _ hm hk=>hk a (.inl rfl) _ hm
 notList:=by decide
 notTuple:=by decide
 hint:=fun _ _ _ _ hm hq=>zd1 ⟨_,hm,rfl⟩ hq
 iter:=fun _ _ hh hm=>⟨_,_,(fun _ _ hq=>zco hm hw hq),Walks.setKeys hh _ a (Nat.ne_of_lt (Heap.lt_size hm)) hw,⟨⟨0,.inr rfl,Heap.get?_push_size _ rfl⟩,Heap.get?_push_of_some _ hm,Nat.zero_le _⟩⟩
end PySem.W
set_option Elab.async false
set_option linter.all false
set_option maxRecDepth 100000
namespace L2
open PySem PySem.Spec PyProof.Rows
noncomputable def SetO (w:World) (a:Addr) (ns:List Int):HO:=.ext fun h=>∃ es ep t ms,h.get? a = some { cls:=.type "set",data:=.set es ep t }∧SetWalked w a es ep t∧IntsAre (es.toList.map (·.2)) ms∧ms.Perm ns
theorem intsAre_perm:∀ {vs us:List Value} {ns:List Int},us.Perm vs->IntsAre vs ns->∃ ms,IntsAre us ms∧ms.Perm ns:=by
 intro vs us ns p
 induction p generalizing ns with
 | nil=>intro h; exact ⟨ns,h,.refl _⟩
 | cons x _ ih =>
  intro h
  cases h with
  | cons n t r =>
   obtain ⟨ms,h1,h2⟩:=ih r
   exact ⟨n :: ms,.cons n t h1,h2.cons _⟩
 | swap x y l =>
  intro h
  cases h with
  | cons n t r =>
   cases r with
   | cons m u r=>exact ⟨m :: n :: _,.cons m u (.cons n t r),.swap ..⟩
 | trans _ _ ih1 ih2 =>
  intro h
  obtain ⟨ms,h1,h2⟩:=ih2 h
  obtain ⟨ms',h3,h4⟩:=ih1 h1
  exact ⟨ms',h3,h4.trans h2⟩
section
variable {X:Cx}
theorem zbu {w:World} (hw:X.w = w) (hc:X.calm = true):zbt X (.builtin "sorted") (fun xs H Q=>∃ a ns,xs = [.ref a]∧H a = some (SetO w a ns)∧ns.length < 64 ∧
  ∀ (l:Addr) (ns':List Int),H l = none->ns'.Perm ns->ns'.Pairwise (· ≤ ·)->Q (.ref l) (upd H l (.lst (ns'.map V.int)))):=by
 subst hw
 intro pins s σ H xs us Q I r h
 obtain ⟨a,ns,rfl,ha,hlt,q⟩:=h
 obtain ⟨u,rfl,ru⟩:=zcn r
 cases ru
 obtain ⟨⟨es,ep,t,ms,hg,hw,hI,hp⟩,_,_⟩:=I.hok a _ ha
 have hlen:es.size = ns.length:=by
  have:=IntsAre.length hI
  rw [List.length_map,Array.length_toList,hp.length_eq] at this
  exact this
 have hvals:∀ vs:List Value,vs.length = es.size->(∀ (j:Nat) (v:Value),vs[j]? = some v->∃ x,(za4 X.w a es ep)[j]? = some x∧v = x.2)->vs.Perm (es.toList.map (·.2)):=fun vs h1 h2=>by
  have e:vs = (za4 X.w a es ep).toList.map (·.2):=by
   refine List.ext_getElem? fun j=>?_
   by_cases c:j < vs.length
   ·obtain ⟨x,e1,e2⟩:=h2 j _ (List.getElem?_eq_getElem c)
    rw [List.getElem?_eq_getElem c,List.getElem?_map,Array.getElem?_toList,e1,e2]; rfl
   ·rw [List.getElem?_eq_none (by omega),List.getElem?_eq_none (by rw [List.length_map,Array.length_toList,zbQ]; omega)]
  rw [e]
  exact (zcN X.w a es ep).map _
 refine zc2 (PySem.W.kdl_set hw) (I.ok.hd hc) hg (by omega) (fun vs h1 h2=>?_) fun D h' tk e vs ms1 ns' out hk hD ho h1 h2 hI1 hO hp1 hs=>?_
 ·obtain ⟨ms',h3,_⟩:=intsAre_perm (hvals vs h1 h2) hI
  exact ⟨ms',h3⟩
 ·obtain ⟨ms',h3,h4⟩:=intsAre_perm (hvals vs h1 h2) hI
  have em:ms' = ms1:=zb2 (intsAre_vals h3) hI1
  subst em
  have pp:=(hp1.trans h4).trans hp
  have hz':(ns'.map V.int).length ≤ sizeLine:=by rw [List.length_map,pp.length_eq,sizeLine_eq]; omega
  obtain ⟨hn,I'⟩:=I.laidN (t':=tk) (o:=.lst (ns'.map V.int)) hk hD ⟨hz',out.toList,e,intsAre_vals hO,by rw [Array.toArray_toList]; exact ho⟩
  exact ⟨.ref D,_,I',rfl,q D ns' hn pp hs⟩
noncomputable def zcq (x y:Int):List Int:=if x = y then [x] else [x,y]
theorem zce {w:World} (hw:X.w = w) (hc:X.calm = true):zbt X (.type "set") (fun xs H Q=>∃ l x y,xs = [.ref l]∧H l = some (.lst [.int x,.int y])∧0 ≤ x∧x < 48∧0 ≤ y∧y < 48 ∧
  ∀ a:Addr,H a = none->Q (.ref a) (upd H a (SetO w a (zcq x y)))):=by
 subst hw
 intro pins s σ H xs us Q I r h
 obtain ⟨l,x,y,rfl,hl,x0,x1,y0,y1,q⟩:=h
 obtain ⟨u,rfl,ru⟩:=zcn r
 cases ru
 obtain ⟨its,rv,p,hz⟩:=I.list (.of hl)
 obtain ⟨ux,uy,rfl,rx,ry⟩:=zif rv
 obtain ⟨tx,rfl⟩:=rx
 obtain ⟨ty,rfl⟩:=ry
 obtain ⟨xN,rfl⟩:=Int.eq_ofNat_of_zero_le x0
 obtain ⟨yN,rfl⟩:=Int.eq_ofNat_of_zero_le y0
 have xl:xN < 48:=by omega
 have yl:yN < 48:=by omega
 have hx:=hash_small xN xl
 have hy:=hash_small yN yl
 have o1:ze9 xN (!X.w.params.followText "set-order") = true:=by
  cases (!X.w.params.followText "set-order")
  ·exact (one_ok xN xl).2
  ·exact (one_ok xN xl).1
 have o2:xN ≠ yN->ze7 xN yN (!X.w.params.followText "set-order") = true:=fun ne=>by
  cases (!X.w.params.followText "set-order")
  ·exact (two_ok xN xl yN yl ne).2
  ·exact (two_ok xN xl yN yl ne).1
 generalize hled:(!X.w.params.followText "set-order") = led at o1 o2
 have b1:=o1
 simp only [ze9,Bool.and_eq_true,beq_iff_eq,Bool.not_eq_true'] at b1
 obtain ⟨⟨⟨⟨_,f1⟩,p1⟩,d1⟩,u1⟩:=b1
 have kOf:∀ (n t:Nat),n < 48->ElemsOf (intKind X.prog X.w) [((n:Int),Value.int n t)]:=fun n t hn e he=>by
  rw [List.mem_singleton.mp he]
  exact ⟨⟨(n:Int),by simp [intKind,Value.isInt],(hash_small n hn).symm⟩,rfl⟩
 have len0:([Value.int xN tx,Value.int yN ty].toArray).size = 2:=rfl
 refine zeu (items:=[Value.int xN tx,Value.int yN ty].toArray) (fun i=>if i = 0 then (xN:Int) else yN)
  (fun i h=>∃ es ep t,h.get? s.heap.objs.size = some { cls:=.type "set",data:=.set es ep t }∧(i = 0->es = #[]∧t = .fresh 0 0 led)∧(i = 1->(∃ t1,es = #[((xN:Int),Value.int xN t1)])∧t = zaZ xN led)∧(i = 2->SetWalked X.w s.heap.objs.size es ep t∧∃ ms,IntsAre (es.toList.map (·.2)) ms∧ms.Perm (zcq xN yN)))
  (I.ok.hd hc) p.isList (fun i v hv=>?_) ⟨_,_,_,Heap.get?_push_size _ rfl,fun _=>⟨rfl,by rw [hled]⟩,fun z=>by omega,fun z=>by omega⟩ (fun i h h' j k=>?_) (fun i A s1 tk Q E hi j k=>?_) fun h' tk j hk=>?_
 ·match i,hv with
  | 0,hv=>simp at hv; exact ⟨tx,by rw [← hv]; rfl⟩
  | 1,hv=>simp at hv; exact ⟨ty,by rw [← hv]; rfl⟩
  | n + 2,hv=>simp at hv
 ·obtain ⟨es,ep,t,h1,h2⟩:=j
  exact ⟨es,ep,t,k _ h1,h2⟩
 ·obtain ⟨es,ep,t,h1,h2,h3,h4⟩:=j
  match i,hi with
  | 0,_ =>
   obtain ⟨rfl,rfl⟩:=h2 rfl
   show wpAny _ _ (setAddHashed _ (.int (xN:Int) tk) ((intKind X.prog X.w).hash (xN:Int))) _ _ _
   refine zc5 h1 rfl (fun e he=>by simp at he) (by decide) (es':=#[((xN:Int),Value.int xN tk)]) (by rw [sizeLine_eq]; simp) rfl (by rw [hx]; exact ze6 o1) p1 u1 fun h' sb g=>k _ h' sb ⟨_,_,_,g,fun z=>by omega,fun _=>⟨⟨tk,rfl⟩,rfl⟩,fun z=>by omega⟩
  | 1,_ =>
   obtain ⟨⟨t1,rfl⟩,rfl⟩:=h3 rfl
   show wpAny _ _ (setAddHashed _ (.int (yN:Int) tk) ((intKind X.prog X.w).hash (yN:Int))) _ _ _
   by_cases c:xN = yN
   ·subst c
    refine zfv (j:=0) h1 f1 (kOf xN t1 xl) (by simp [scanBound]) (by simp [intKind,Value.isInt]) ?_
    refine k _ s1.heap (Heap.SameBut.refl _ _) ⟨_,_,_,h1,fun z=>by omega,fun z=>by omega,fun _=>⟨⟨f1,p1,by rw [d1,hled],fun i j hij hj=>by simp at hj; omega⟩,[(xN:Int)],.cons _ _ .nil,?_⟩⟩
    unfold zcq
    rw [if_pos rfl]
   ·have ok2:=o2 c
    obtain ⟨es',hL,hp⟩:=zff (x:=(xN:Int)) (y:=(yN:Int)) (u:=Value.int xN t1) (v:=Value.int yN tk) ok2
    have b2:=ok2
    simp only [ze7,Bool.and_eq_true,beq_iff_eq,Bool.not_eq_true',decide_eq_true_eq] at b2
    obtain ⟨⟨⟨⟨⟨_,f2⟩,p2⟩,d2⟩,u2⟩,r2⟩:=b2
    have sz:es'.size = 2:=by have:=hp.length_eq; simpa using this
    refine zc5 h1 f1 (kOf xN t1 xl) (by simp [scanBound]) (by rw [sz,sizeLine_eq]; decide) ?_ (by rw [hy]; exact hL) p2 u2 fun h' sb g=>k _ h' sb ⟨_,_,_,g,fun z=>by omega,fun z=>by omega,fun _=>⟨⟨by rw [sz]; exact f2,p2,by rw [d2,hled],fun i j hij hj=>?_⟩,?_⟩⟩
    ·have c':¬ (xN:Int) = yN:=by omega
     have c2:¬ xN = yN:=c
     simp [intKind,Value.isInt,c',c2]
    ·have e1:i = 0:=by omega
     have e2:j = 1:=by omega
     rw [e1,e2]; exact r2
    ·obtain ⟨ms,g1,g2⟩:=intsAre_perm (vs:=[Value.int xN t1,Value.int yN tk]) (us:=es'.toList.map (·.2)) (by simpa using hp.map (·.2)) (.cons (xN:Int) t1 (.cons (yN:Int) tk .nil))
     refine ⟨ms,g1,?_⟩
     unfold zcq
     rw [if_neg (by omega)]
     exact g2
  | n + 2,h=>exact absurd h (by rw [len0]; omega)
 ·obtain ⟨es,ep,t,h1,_,_,h4⟩:=j
  obtain ⟨w1,ms,h5,h6⟩:=h4 rfl
  refine ⟨.ref s.heap.objs.size,_,I.laid (t':=tk) (o:=SetO X.w s.heap.objs.size (zcq xN yN)) (fun b u e=>hk b u (Heap.lt_size e) e) (Nat.le_refl _) ?_,rfl,q _ (I.hok.fresh (Nat.le_refl _))⟩
  exact ⟨⟨es,ep,t,ms,h1,w1,h5,h6⟩,⟨_,h1⟩,fun ha hb ⟨es,ep,t,ms,h1,r⟩ k=>⟨es,ep,t,ms,k _ h1,r⟩⟩
end
end L2
set_option Elab.async false
set_option linter.all false
set_option maxRecDepth 100000
namespace L2
open PySem PySem.Spec PyProof.Rows
inductive RepD (H:Hp):V->PyData->Prop
 | non:RepD H .non .none
 | bl (b:Bool):RepD H (.bl b) (.bool b)
 | int (i:Int):RepD H (.int i) (.int i)
 | str (x:Str):RepD H (.str x) (.str x)
 | lst {p:Addr} {vs:List V} {ds:List PyData}:H p = some (.lst vs)->vs.length = ds.length->(∀ (i:Nat) (v:V) (d:PyData),vs[i]? = some v->ds[i]? = some d->RepD H v d)->RepD H (.ref p) (.list ds)
 | tup {p:Addr} {vs:List V} {ds:List PyData}:H p = some (.tup vs)->vs.length = ds.length->(∀ (i:Nat) (v:V) (d:PyData),vs[i]? = some v->ds[i]? = some d->RepD H v d)->RepD H (.ref p) (.tuple ds)
theorem zdt {h:Heap}:∀ {vs:List V} {its:List Value} {ds:List PyData},Vals vs its->vs.length = ds.length->(∀ (i:Nat) (v:V) (d:PyData) (u:Value),vs[i]? = some v->ds[i]? = some d->RelV v u->∃ as,Reads h u d as)->∃ as,ReadsAll h its ds as
 | [],_,[],.nil,_,_=>⟨_,.nil⟩
 | [],_,_ :: _,.nil,l,_=>by simp at l
 | v :: vs,u :: its,[],.cons _ _,l,_=>by simp at l
 | v :: vs,u :: its,d :: ds,.cons r t,l,k=>by
  obtain ⟨as,h1⟩:=k 0 v d u rfl rfl r
  obtain ⟨bs,h2⟩:=zdt t (by simpa using l) fun i v d u a b c=>k (i + 1) v d u (by simpa using a) (by simpa using b) c
  exact ⟨_,.cons h1 h2⟩
theorem RepD.reads {P:Program} {w:World} {H:Hp} {h:Heap} (hok:HOk P w H h) {v:V} {d:PyData} (r:RepD H v d):∀ {u:Value},RelV v u->∃ as,Reads h u d as:=by
 induction r with
 | non=>intro u e; cases e; exact ⟨_,.none⟩
 | bl b=>intro u e; cases e; exact ⟨_,.bool b⟩
 | int i=>intro u e; obtain ⟨t,rfl⟩:=e; exact ⟨_,.int i t⟩
 | str x=>intro u e; obtain ⟨t,rfl⟩:=e; exact ⟨_,.str x t⟩
 | @lst p vs ds hp l _ ih =>
  intro u e
  cases e
  obtain ⟨_,its,n,rv,g⟩:=hok p _ hp
  obtain ⟨as,ra⟩:=zdt (h:=h) rv l fun i v d u a b c=>ih i v d a b c
  exact ⟨_,.list g rfl rfl ra⟩
 | @tup p vs ds hp l _ ih =>
  intro u e
  cases e
  obtain ⟨_,its,rv,g⟩:=hok p _ hp
  obtain ⟨o,g1,g2,n,g3⟩:=g
  obtain ⟨as,ra⟩:=zdt (h:=h) rv l fun i v d u a b c=>ih i v d a b c
  exact ⟨_,.tuple g1 g2 g3 ra⟩
noncomputable def rEqP (neg:Bool):R2:=fun x y H Q=>∃ dx dy,RepD H x dx∧RepD H y dy∧SeqAt.shaped dx = true∧SeqAt.shaped dy = true∧Q (.bl (if neg then !PyData.eqv dx dy else PyData.eqv dx dy)) H
section
variable {X:Cx}
theorem ziQ (hu:X.A.units + 64 < cLine):OpR X (compareOp .NotEq) (rEqP true):=by
 intro pins s σ H x y v u Q I rx ry h
 obtain ⟨dx,dy,r1,r2,s1,s2,q⟩:=h
 obtain ⟨as,q1⟩:=r1.reads I.hok rx
 obtain ⟨bs,q2⟩:=r2.reads I.hok ry
 exact SeqAt.compareNe_shaped q1 q2 s1 s2 hu ⟨.bl _,H,I,rfl,q⟩
end
section
variable {X:Cx} {K:PySem.W.Frag}
theorem zfr (hk:X.K = K):OpR X (compareOp .In) (rIn K false):=by subst hk; exact op_in_seq
theorem zdh (hk:X.K = K):zbt X (.type "list") (fun xs H Q=>∃ p ys,xs = [.ref p]∧(SqL K H p ys ∨ SqT K H p ys)∧∀ l,H l = none->Q (.ref l) (upd H l (.lst ys))):=by subst hk; exact call_list_of
end
end L2
set_option Elab.async false
set_option linter.all false
set_option maxRecDepth 100000
namespace L2
open PySem PySem.Spec PyProof.Rows
structure KDct (K:PySem.W.Frag) (a:Addr) (D:List (Str × V)):Prop where
 lo:(a == sysModules) = false
 at_:∃ o es ep,K.lookup a = some o∧o.ExactDict∧o.data = .dict es ep∧KTD.Rows RelV es.toList D
inductive KRp (K:PySem.W.Frag):V->PyData->Prop
 | non:KRp K .non .none
 | bl (b:Bool):KRp K (.bl b) (.bool b)
 | int (i:Int):KRp K (.int i) (.int i)
 | str (x:Str):KRp K (.str x) (.str x)
 | tup {a:Addr} {xs:List V} {ds:List PyData}:(∀ H,SqT K H a xs)->xs.length = ds.length->(∀ (i:Nat) (x:V) (d:PyData),xs[i]? = some x->ds[i]? = some d->KRp K x d)->KRp K (.ref a) (.tuple ds)
 | dct {a:Addr} {D:List (Str × V)} {ds:List (PyData × PyData)}:KDct K a D->D.length = ds.length->(∀ (i:Nat) (p:Str × V) (q:PyData × PyData),D[i]? = some p->ds[i]? = some q->q.1 = .str p.1)->(∀ (i:Nat) (p:Str × V) (q:PyData × PyData),D[i]? = some p->ds[i]? = some q->KRp K p.2 q.2)->KRp K (.ref a) (.dict ds)
noncomputable def zf3 (f:Value->Option PyData):List Value->Option (List PyData)
 | []=>some []
 | v :: r=>match f v,zf3 f r with
  | some d,some ds=>some (d :: ds)
  | _,_=>none
noncomputable def rdEs (f:Value->Option PyData):List DictEntry->Option (List (PyData × PyData))
 | []=>some []
 | e :: r=>match e.key,f e.val,rdEs f r with
  | .str x _,some d,some ds=>some ((.str x,d) :: ds)
  | _,_,_=>none
noncomputable def rdK (K:PySem.W.Frag):Nat->Value->Option PyData
 | 0,_=>none
 | n + 1,.none=>some .none
 | n + 1,.bool b=>some (.bool b)
 | n + 1,.int i _=>some (.int i)
 | n + 1,.str x _=>some (.str x)
 | n + 1,.ref a=>match K.lookup a with
  | some ⟨.type "tuple",_,.seq its _,_⟩=>if its.size ≤ 1000 then (zf3 (rdK K n) its.toList).map .tuple else none
  | some ⟨.type "dict",none,.dict es _,sl⟩=>if (a == sysModules) = false∧sl.size = 0 then (rdEs (rdK K n) es.toList).map .dict else none
  | _=>none
 | _,_=>none
theorem zgo {K:PySem.W.Frag} {n:Nat} (ih:∀ {v:Value} {d:PyData},rdK K n v = some d->∃ x,RelV x v∧KRp K x d):∀ {vs:List Value} {ds:List PyData},zf3 (rdK K n) vs = some ds->∃ xs,Vals xs vs∧xs.length = ds.length∧∀ (i:Nat) (x:V) (d:PyData),xs[i]? = some x->ds[i]? = some d->KRp K x d
 | [],ds,h=>by cases h; exact ⟨[],.nil,rfl,fun i x d e=>by simp at e⟩
 | v :: r,ds,h=>by
  unfold zf3 at h
  split at h
  ·rename_i d ds' h1 h2
   cases h
   obtain ⟨x,r1,k1⟩:=ih h1
   obtain ⟨xs,r2,l2,k2⟩:=zgo ih h2
   refine ⟨x :: xs,.cons r1 r2,by rw [List.length_cons,List.length_cons,l2],fun i x' d' e1 e2=>?_⟩
   cases i with
   | zero=>cases e1; cases e2; exact k1
   | succ i=>exact k2 i x' d' (by simpa using e1) (by simpa using e2)
  ·cases h
theorem zf6 {K:PySem.W.Frag} {n:Nat} (ih:∀ {v:Value} {d:PyData},rdK K n v = some d->∃ x,RelV x v∧KRp K x d):∀ {es:List DictEntry} {ds:List (PyData × PyData)},rdEs (rdK K n) es = some ds->∃ D:List (Str × V),KTD.Rows RelV es D∧D.length = ds.length∧∀ (i:Nat) (p:Str × V) (q:PyData × PyData),D[i]? = some p->ds[i]? = some q->q.1 = .str p.1∧KRp K p.2 q.2
 | [],ds,h=>by cases h; exact ⟨[],.nil,rfl,fun i x d e=>by simp at e⟩
 | e :: r,ds,h=>by
  unfold rdEs at h
  split at h
  ·rename_i x t d ds' hk h1 h2
   cases h
   obtain ⟨y,r1,k1⟩:=ih h1
   obtain ⟨D,r2,l2,k2⟩:=zf6 ih h2
   refine ⟨(x,y) :: D,.cons hk r1 r2,by rw [List.length_cons,List.length_cons,l2],fun i p q e1 e2=>?_⟩
   cases i with
   | zero=>cases e1; cases e2; exact ⟨rfl,k1⟩
   | succ i=>exact k2 i p q (by simpa using e1) (by simpa using e2)
  ·cases h
theorem zfY {K:PySem.W.Frag}:∀ {n:Nat} {v:Value} {d:PyData},rdK K n v = some d->∃ x,RelV x v∧KRp K x d
 | 0,_,_,h=>by unfold rdK at h; cases h
 | n + 1,v,d,h=>by
  unfold rdK at h
  split at h
  ·rename_i e; cases e
  ·cases h; exact ⟨.non,rfl,.non⟩
  ·cases h; exact ⟨.bl _,rfl,.bl _⟩
  ·cases h; exact ⟨.int _,⟨_,rfl⟩,.int _⟩
  ·cases h; exact ⟨.str _,⟨_,rfl⟩,.str _⟩
  ·rename_i m a e
   cases e
   refine ⟨.ref a,rfl,?_⟩
   split at h
   ·rename_i dd its nn sl hk
    split at h
    ·rename_i hz
     cases hh:zf3 (rdK K n) its.toList with
     | none=>rw [hh] at h; cases h
     | some ds =>
      rw [hh] at h
      cases h
      obtain ⟨xs,r,l,k⟩:=zgo (fun h=>zfY h) hh
      exact .tup (fun H=>.inr ⟨_,its,nn,hk,rfl,rfl,by rw [sizeLine_eq]; omega,r⟩) l k
    ·cases h
   ·rename_i es ep sl hk
    split at h
    ·rename_i hc
     cases hh:rdEs (rdK K n) es.toList with
     | none=>rw [hh] at h; cases h
     | some ds =>
      rw [hh] at h
      cases h
      obtain ⟨D,r,l,k⟩:=zf6 (fun h=>zfY h) hh
      exact .dct ⟨hc.1,_,es,ep,hk,⟨rfl,rfl,by simpa using hc.2⟩,rfl,r⟩ l (fun i p q h1 h2=>(k i p q h1 h2).1) fun i p q h1 h2=>(k i p q h1 h2).2
    ·cases h
   ·cases h
  ·cases h
theorem zed {K:PySem.W.Frag} {n:Nat} {a:Addr} {d:PyData} (h:rdK K n (.ref a) = some d):KRp K (.ref a) d:=by
 obtain ⟨x,r,k⟩:=zfY h
 cases x with
 | ref b=>cases (show Value.ref a = Value.ref b from r); exact k
 | int i=>obtain ⟨t,e⟩:=r; cases e
 | str i=>obtain ⟨t,e⟩:=r; cases e
 | byt i=>obtain ⟨t,e⟩:=r; cases e
 | flt i=>obtain ⟨t,e⟩:=r; cases e
 | non=>cases r
 | bl b=>cases r
 | ty n=>cases r
section
variable {prog:Program} {w:World} {A:Around} {E:Value->Shared->Prop} {s:Shared} {a:Addr} {D:List (Str × V)} {k:Str} {tk:Tok}
noncomputable def zhe (h:Heap) (a:Addr) (D:List (Str × V)):Prop:=KTD.TabOf RelV h a D
theorem zhe.typeIs (T:zhe s.heap a D):s.TypeIs (.ref a) "dict":=let ⟨_,o,_,_,ho,hc,_⟩:=T; ⟨o,ho,hc.1⟩
theorem zhk {Q:Option Value->Shared->Prop} (T:zhe s.heap a D) (h1:∀ x v,KTD.datumAt k D = some x->RelV x v->Q (some v) { s with toks:=s.toks + 1 }) (h2:KTD.datumAt k D = none->Q none { s with toks:=s.toks + 1 }) :
  wpAny (model prog w) A (dictGet a (.str k tk)) Q E s:=by
 obtain ⟨_,o,es,ep,ho,hc,hd,hr⟩:=T
 unfold dictGet
 try with_reducible refine wpAny_holding ?_
 refine wpAny_bind (wpAny_pyHash_str (wpAny_bind (KTD.kt_dictFind_strs (s:={ s with toks:=s.toks + 1 }) ho hd (by obtain ⟨l⟩:=es; simpa using hr.exact) ?_)))
 have hq:Q (findBy (fun k v=>v.isStr k) es k) { s with toks:=s.toks + 1 }:=by
  have hf:findBy (fun k v=>v.isStr k) es k = (es.toList.find? fun e=>e.key.isStr k).map (·.val):=by
   obtain ⟨l⟩:=es
   simp [findBy]
  rw [hf]
  cases hat:KTD.datumAt k D with
  | some d=>obtain ⟨v,hv,hfl⟩:=hr.find_some hat; rw [hv]; exact h1 d v hat hfl
  | none=>rw [hr.find_none hat]; exact h2 hat
 rw [findBy_of_findIdx?] at hq
 cases hi:es.findIdx? fun e=>e.key.isStr k with
 | none=>rw [hi] at hq; exact wpAny_pure hq
 | some i=>rw [hi] at hq; exact wpAny_bind (wpAny_dictEntries (s:={ s with toks:=s.toks + 1 }) ho hd (wpAny_pure hq))
end
theorem KDct.here {X:Cx} {pins:List (Addr × Obj)} {σ:St} {H:Hp} {s:Shared} {a:Addr} {D:List (Str × V)} (I:Inv X pins σ H s) (g:KDct X.K a D):zhe s.heap a D:=by
 obtain ⟨lo,o,es,ep,hk,hc,hd,hr⟩:=g
 exact ⟨lo,o,es,ep,I.kIn a o hk,hc,hd,hr⟩
noncomputable def tKGet (K:PySem.W.Frag) (td ty:TE):TE:=fun σ H Q=>td σ H fun x H1=>ty σ H1 fun y H2=>∃ a D k v,x = .ref a∧y = .str k∧KDct K a D∧KTD.datumAt k D = some v∧Q v H2
section
variable {X:Cx} {o i e:Expr} {pos apos cpos:Pos} {td ty:TE} {K:PySem.W.Frag}
theorem zfZ (hk:X.K = K) (ho:PE X o td) (hi:PE X i ty) (hs:NoSl i):PE X (.Subscript o i pos) (tKGet K td ty):=by
 subst hk
 intro pins s σ H Q I h
 refine zgk PySem.F.slot_dict_getitem.lookup hs (thn (ho pins s σ H _ I h) fun u s1 ⟨x,H1,I1,rx,q1⟩=>thn (hi pins s1 σ H1 _ I1 q1) fun iv s2 ⟨y,H2,I2,ry,a,D,k,v,ex,ey,g,hv,q2⟩=>?_)
 subst ex ey
 obtain rfl:u = Value.ref a:=rx
 obtain ⟨tk,rfl⟩:=ry
 have T:=g.here I2
 refine ⟨T.typeIs,?_⟩
 unfold getItem
 try with_reducible refine wpAny_holding ?_
 refine wpAny_bind (wpAny_sequenceKey T.typeIs (by decide) ?_)
 refine wpAny_bind (wpAny_callSpecial?_slot (name:=Str.ofString "__getitem__") T.typeIs slot_dict_getitem
  (wpAny_call_entry slot_dict_getitem T.typeIs entry_dict_getitem ?_ (args_dict_getitem _ _)))
 show wpAny _ _ (dictGet a (.str k tk) >>= _) _ _ _
 refine wpAny_bind (zhk T (fun x v' ha hv'=>?_) fun hn=>?_)
 ·rw [hv] at ha
  cases ha
  exact wpAny_pure ⟨v',rfl,wpAny_pure ⟨v,H2,I2.tok _,hv',q2⟩⟩
 ·rw [hv] at hn; cases hn
end
end L2
set_option Elab.async false
set_option linter.all false
set_option maxRecDepth 100000
namespace L2
open PySem PySem.Spec PyProof.Rows
section
variable {X:Cx}
theorem zhK {bs:List Bool}:∀ {us:List Value} {i:Nat} {v:Value},Vals (bs.map V.bl) us->us[i]? = some v->v = .bool (bs.getD i false):=by
 intro us i v r e
 have hl:i < us.length:=by
  rcases Nat.lt_or_ge i us.length with h | h
  ·exact h
  ·rw [List.getElem?_eq_none h] at e; cases e
 have hl2:i < (bs.map V.bl).length:=by rw [r.length]; exact hl
 have e2:(bs.map V.bl)[i]? = some (.bl (bs.getD i false)):=by
  rw [List.length_map] at hl2
  rw [List.getElem?_map,List.getElem?_eq_getElem hl2,List.getD_eq_getElem?_getD,List.getElem?_eq_getElem hl2]
  rfl
 obtain ⟨u,h1,h2⟩:=Vals.get r e2
 rw [e] at h1
 cases h1
 exact h2
theorem zcX (bs:List Bool):((List.range bs.length).all fun i=>bs.getD i false) = bs.all id:=by
 rw [Bool.eq_iff_iff,List.all_eq_true,List.all_eq_true]
 constructor
 ·intro h x hx
  obtain ⟨i,hi,rfl⟩:=List.mem_iff_getElem.mp hx
  have:=h i (List.mem_range.mpr hi)
  rw [List.getD_eq_getElem?_getD,List.getElem?_eq_getElem hi] at this
  exact this
 ·intro h i hi
  have hi:=List.mem_range.mp hi
  have:=h _ (List.getElem_mem hi)
  rw [List.getD_eq_getElem?_getD,List.getElem?_eq_getElem hi]
  exact this
theorem zg5 (hc:X.calm = true):zbt X (.builtin "all") (fun xs H Q=>∃ (l:Addr) (bs:List Bool),xs = [.ref l]∧seqV H l = some (bs.map V.bl)∧zcY H l = some true∧Q (.bl (bs.all id)) H):=by
 intro pins s σ H xs us Q I r h
 obtain ⟨l,bs,rfl,hl,hk,q⟩:=h
 obtain ⟨u,rfl,ru⟩:=zcn r
 cases ru
 obtain ⟨its,rv,pl,hz⟩:=I.list (zbM hl hk)
 have hlt:l < s.heap.objs.size:=by obtain ⟨o,e,_⟩:=pl.isList; exact Heap.lt_size e
 refine call_all_walkS (wpAny_pyIter_list pl.isList ?_)
 have hlen:its.toArray.size = bs.length:=by rw [List.size_toArray,← rv.length,List.length_map]
 refine ⟨s.heap.objs.size,_,_,_,_,_,_,fun i=>bs.getD i false,rfl,(Walks.list (A:=X.A.in1) (show X.A.in1.handled = none from I.ok.hd hc) s.heap.objs.size l (Nat.ne_of_lt hlt) its.toArray).toS,?_,?_,?_⟩
 ·exact ⟨⟨_,Heap.get?_push_size _ rfl,rfl,rfl⟩,pl.isList.push _⟩
 ·intro i v s2 Q2 E2 hv hQ
  have e:=zhK rv (i:=i) (v:=v) (by simpa using hv)
  subst e
  exact wpAny_truthy_bool hQ
 ·intro s' hm
  obtain ⟨h',g',d',k',o'⟩:=s'
  obtain rfl:g' = s.gens:=hm.gens
  obtain rfl:d' = s.drawn:=hm.drawn
  obtain rfl:o' = s.os:=hm.os
  have kk:∀ b o,s.heap.get? b = some o->h'.get? b = some o:=fun b o e=>hm.heap b o (fun z=>absurd (Heap.lt_size e) (by rw [List.mem_singleton.mp z]; exact Nat.lt_irrefl _)) (Heap.get?_push_of_some _ e)
  refine ⟨.bl (bs.all id),H,I.kept (t':=k') kk,?_,q⟩
  show _ = _
  rw [hlen,zcX]
theorem zfj {A:Around} {E:Value->Shared->Prop} {Q:Value->Shared->Prop} {pins:List (Addr × Obj)} {σ:St} {H:Hp} {s:Shared} {b:Bool} {tp:Addr} {its:List Value} {x:V} {u t:Value} (I:Inv X pins σ H s) (rx:RelV x u) (ty:TyOf X.K H x t) (tpA:IsTup s.heap tp its.toArray) (e:PySem.W.kitAny X.K t its = some b) (h:∀ tk,Q (.bool b) { s with toks:=tk }) :
  wpAny (model X.prog X.w) A (call (.builtin "isinstance") [u,.ref tp]) Q E s:=by
 obtain ⟨⟨oc,od,da,sl⟩,g1,g2,n,g3⟩:=tpA
 cases (show oc = _ from g2)
 cases (show da = _ from g3)
 cases ty with
 | non=>cases (show u = Value.none from rx); exact PySem.W.kia_tup PySem.W.kitx_none I.kIn True.intro g1 e (fun z=>nomatch z) h
 | bl y=>cases (show u = Value.bool y from rx); exact PySem.W.kia_tup PySem.W.kitx_bool I.kIn True.intro g1 e (fun z=>nomatch z) h
 | int i=>obtain ⟨t,q⟩:=(show ∃ t,u = Value.int i t from rx); cases q; exact PySem.W.kia_tup PySem.W.kitx_int I.kIn True.intro g1 e (fun z=>nomatch z) h
 | str y=>obtain ⟨t,q⟩:=(show ∃ t,u = Value.str y t from rx); cases q; exact PySem.W.kia_tup PySem.W.kitx_str I.kIn True.intro g1 e (fun z=>nomatch z) h
 | flt y=>obtain ⟨t,q⟩:=(show ∃ t,u = Value.float y t from rx); cases q; exact PySem.W.kia_tup PySem.W.kitx_float I.kIn True.intro g1 e (fun z=>nomatch z) h
 | @lst a xs ea =>
  cases (show u = Value.ref a from rx)
  obtain ⟨_,_,n,_,h1⟩:=(show zaU X.prog X.w H s.heap a (.lst xs) from I.hok a _ ea)
  exact PySem.W.kia_tup PySem.W.kitx_list I.kIn ⟨_,h1,rfl⟩ g1 e (fun z=>nomatch z) h
 | @frz a ob xs ea =>
  cases (show u = Value.ref a from rx)
  obtain ⟨_,_,_,n,_,h1⟩:=(show zaU X.prog X.w H s.heap a (.frz ob (.lst xs)) from I.hok a _ ea)
  exact PySem.W.kia_tup PySem.W.kitx_list I.kIn ⟨_,h1,rfl⟩ g1 e (fun z=>nomatch z) h
 | @tup a xs ea =>
  cases (show u = Value.ref a from rx)
  obtain ⟨_,_,_,p⟩:=(show zaU X.prog X.w H s.heap a (.tup xs) from I.hok a _ ea)
  obtain ⟨o,h1,h2,_⟩:=p
  exact PySem.W.kia_tup PySem.W.kitx_tuple I.kIn ⟨o,h1,h2⟩ g1 e (fun z=>nomatch z) h
 | @dK a kvs ea =>
  cases (show u = Value.ref a from rx)
  obtain ⟨_,_,vs,_,p⟩:=(show zaU X.prog X.w H s.heap a (.dK kvs) from I.hok a _ ea)
  obtain ⟨o,es,ep,h1,h2,_⟩:=p
  exact PySem.W.kia_tup PySem.W.kitx_dict I.kIn ⟨o,h1,h2.1⟩ g1 e (fun z=>nomatch z) h
 | @dT a kvs ea =>
  cases (show u = Value.ref a from rx)
  obtain ⟨_,_,xs,_,o,es,ep,h1,h2,_⟩:=(show zaU X.prog X.w H s.heap a (.dT kvs) from I.hok a _ ea)
  exact PySem.W.kia_tup PySem.W.kitx_dict I.kIn ⟨o,h1,h2.1⟩ g1 e (fun z=>nomatch z) h
 | @ins a C dx fs ea cl ha hn htk hm =>
  cases (show u = Value.ref a from rx)
  obtain ⟨mA,O,_⟩:=zfQ I.hok ea
  obtain ⟨od,J,_⟩:=O.look
  exact PySem.W.kia_tup (PySem.W.kitx_own (cl.get _) cl.hd ha hn htk hm) I.kIn J g1 e (fun z=>nomatch z) h
noncomputable def lotT (t:String):Bool:=t == "list" || t == "tuple"
theorem call_isLT:zbt X (.builtin "isinstance") (fun xs H Q=>∃ x p t,xs = [x,.ref p]∧H p = some (.tup [.ty "list",.ty "tuple"])∧tyF x H = some t∧Q (.bl (lotT t)) H):=by
 intro pins s σ H xs us Q I r h
 obtain ⟨x,p,t,rfl,hp,ht,q⟩:=h
 obtain ⟨ty,h7⟩:=zhA (K:=X.K) ht
 obtain ⟨u,v,rfl,ru,rv⟩:=Vals.two r
 cases (show v = Value.ref p from rv)
 obtain ⟨_,its,rvs,tA⟩:=(show zaU X.prog X.w H s.heap p (.tup _) from I.hok p _ hp)
 obtain ⟨u1,u2,rfl,r1,r2⟩:=Vals.two rvs
 cases (show u1 = Value.type "list" from r1)
 cases (show u2 = Value.type "tuple" from r2)
 refine zfj I ru ty tA (b:=lotT t) ?_ fun tk=>⟨.bl _,H,I.tok _,rfl,q⟩
 rcases h7 with rfl | rfl | rfl | rfl | rfl | rfl | rfl <;> rfl
theorem zaz {H1 H:Hp} {D:Addr} {u:HO} (S:Same H1 H) (hD:H1 D = none):Same H1 (upd H D u):=fun q o h=>by
 rw [zaj (fun e=>by rw [e,hD] at h; cases h)]
 exact S q o h
theorem zds {α β:Type} (f:α->Option β) (xs:List α) (i:Nat) (x:α) (h:xs[i]? = some x):(xs.take (i + 1)).filterMap f = (xs.take i).filterMap f ++ (f x).toList:=by
 rw [List.take_succ,h,List.filterMap_append]
 cases e:f x <;> simp [e]
theorem zeT {K:PySem.W.Frag} {cap:List (Option Nat)} {tl:TE} {g:TG} {tt:TT} {te:TE} {σ:St} {H H1:Hp} {Q:VK} (a:Addr) (xs:List V) (f:V->Option V) (hr:∀ Q,Q (.ref a) H1->tl σ H Q) (hq:SqL K H1 a xs) (hz:xs.length ≤ sizeLine)
  (hs:∀ x H (R:V->Hp->Prop) (N:Hp->Prop),x ∈ xs->Same H1 H->(∀ y H',f x = some y->Same H H'->R y H')->(f x = none->∀ H',Same H H'->N H')->g x (zaG cap σ) H fun σ4 H4=>tt σ4 H4 fun b H5=>if b = true then te σ4 H5 R else N H5)
  (hd:∀ D H',H1 D = none->Same H1 H'->H' D = some (.lst (xs.filterMap f))->Q (.ref D) H'):zbJ cap (zcs K tl) g tt te σ H Q:=by
 refine zeo a xs hr hq (fun D i ys H2=>Same H1 H2∧H2 D = some (.lst ys)∧ys = (xs.take i).filterMap f) (fun D hD=>⟨zaz (fun _ _ h=>h) hD,zaa,rfl⟩) ?_ hz ?_ ?_
 ·rintro D hD i ys H2 hi ⟨S,h2,e⟩
  refine ⟨S.seq hq,h2,?_⟩
  rw [e]
  exact Nat.le_trans (List.length_filterMap_le _ _) (by rw [List.length_take]; omega)
 ·rintro D hD i x ys H2 hx ⟨S,h2,e⟩
  refine hs x H2 _ _ (List.mem_of_getElem? hx) S (fun y H' ey S2=>⟨S2 _ _ h2,zaz (fun q o h=>S2 _ _ (S _ _ h)) hD,zaa,?_⟩) (fun ey H' S2=>⟨fun q o h=>S2 _ _ (S _ _ h),S2 _ _ h2,?_⟩)
  ·rw [zds f xs i x hx,ey,e]; rfl
  ·rw [zds f xs i x hx,ey,e]; simp
 ·rintro D hD ys H2 ⟨S,h2,e⟩
  refine hd D H2 hD S ?_
  rw [h2,e,List.take_length]
theorem zhz {K:PySem.W.Frag} {cap:List (Option Nat)} {ta:TA} {g:TG} {tt:TT} {te:TE} {σ:St} {H H1:Hp} {Q:VK} (l1 l2:Addr) (xs ys:List V) (f:V × V->Option V) (hr:∀ Q,Q [.ref l1,.ref l2] H1->ta σ H Q) (hq1:SqL K H1 l1 xs) (hq2:SqL K H1 l2 ys) (hz:xs.length ≤ sizeLine)
  (hs:∀ p H (R:V->Hp->Prop) (N:Hp->Prop) (b:Addr),p ∈ xs.zip ys->Same H1 H->H b = some (.tup [p.1,p.2])->(∀ y H',f p = some y->Same H H'->R y H')->(f p = none->∀ H',Same H H'->N H')->g (.ref b) (zaG cap σ) H fun σ4 H4=>tt σ4 H4 fun b H5=>if b = true then te σ4 H5 R else N H5)
  (hd:∀ D H',H1 D = none->Same H1 H'->H' D = some (.lst ((xs.zip ys).filterMap f))->Q (.ref D) H'):zbJ cap (iZip K ta) g tt te σ H Q:=by
 refine hr _ ⟨l1,l2,rfl,⟨xs,hq1⟩,⟨ys,hq2⟩,fun D hD=>?_⟩
 have hzl:(xs.zip ys).length = min xs.length ys.length:=List.length_zip
 refine ⟨fun i m zs H2=>m = (xs.zip ys).length - i∧i ≤ (xs.zip ys).length∧Same H1 H2∧H2 D = some (.lst zs)∧zs = ((xs.zip ys).take i).filterMap f,⟨(xs.zip ys).length,by simp,Nat.zero_le _,zaz (fun _ _ h=>h) hD,zaa,rfl⟩,?_⟩
 rintro i m zs H2 ⟨rfl,hi,S,h2,e⟩
 refine ⟨h2,?_⟩
 have q1:=S.seq hq1
 have q2:=S.seq hq2
 by_cases hlt:i < (xs.zip ys).length
 ·have lx:i < xs.length:=by omega
  have ly:i < ys.length:=by omega
  have hz2:zs.length ≤ i:=by rw [e]; exact Nat.le_trans (List.length_filterMap_le _ _) (by rw [List.length_take]; omega)
  refine .inr ⟨⟨xs,ys,xs[i],ys[i],q1,q2,by simp [lx],by simp [ly]⟩,by omega,fun zs' H'=>Same H1 H'∧H' D = some (.lst zs')∧zs' = ((xs.zip ys).take (i + 1)).filterMap f,fun zs' H' p'=>⟨(xs.zip ys).length - (i + 1),by omega,rfl,hlt,p'⟩,fun v H' y=>?_⟩
  obtain ⟨b,x,y,rfl,hb,rfl,e1,e2⟩:=y
  have ex:=e1 _ q1
  have ey:=e2 _ q2
  have ep:(xs.zip ys)[i]? = some (x,y):=by rw [List.getElem?_zip_eq_some]; exact ⟨ex,ey⟩
  have S1:Same H2 (upd H2 b (.tup [x,y])):=fun q o h=>zab h hb
  refine hs (x,y) _ _ _ b (List.mem_of_getElem? ep) (fun q o h=>S1 _ _ (S _ _ h)) zaa (fun z H' ez S2=>⟨S2 _ _ (S1 _ _ h2),zaz (fun q o h=>S2 _ _ (S1 _ _ (S _ _ h))) hD,zaa,?_⟩) (fun ez H' S2=>⟨fun q o h=>S2 _ _ (S1 _ _ (S _ _ h)),S2 _ _ (S1 _ _ h2),?_⟩)
  ·rw [zds f _ i _ ep,ez,e]; rfl
  ·rw [zds f _ i _ ep,ez,e]; simp
 ·have e':i = (xs.zip ys).length:=by omega
  subst e'
  refine .inl ⟨⟨xs,ys,q1,q2,by omega⟩,hd D H2 hD S ?_⟩
  rw [h2,e,List.take_length]
theorem zeW {β:Type} (f:Nat->Option β) (i:Nat):(List.range (i + 1)).filterMap f = (List.range i).filterMap f ++ (f i).toList:=by
 rw [List.range_succ,List.filterMap_append]
 cases e:f i <;> simp [e]
theorem zi2 {cap:List (Option Nat)} {ta:TA} {g:TG} {tt:TT} {te:TE} {σ:St} {H H1:Hp} {Q:VK} (n:Int) (f:Nat->Option V) (hr:∀ Q,Q [.int n] H1->ta σ H Q) (n0:-(2 ^ 62) ≤ n) (n1:n < 2 ^ 62) (hz:n.toNat ≤ sizeLine)
  (hs:∀ i H (R:V->Hp->Prop) (N:Hp->Prop),i < n.toNat->Same H1 H->(∀ y H',f i = some y->Same H H'->R y H')->(f i = none->∀ H',Same H H'->N H')->g (.int (0 + i)) (zaG cap σ) H fun σ4 H4=>tt σ4 H4 fun b H5=>if b = true then te σ4 H5 R else N H5)
  (hd:∀ D H',H1 D = none->Same H1 H'->H' D = some (.lst ((List.range n.toNat).filterMap f))->Q (.ref D) H'):zbJ cap (zfc ta) g tt te σ H Q:=by
 refine zhJ n hr n0 n1 (fun D i ys H2=>Same H1 H2∧H2 D = some (.lst ys)∧ys = (List.range i).filterMap f) (fun D hD=>⟨zaz (fun _ _ h=>h) hD,zaa,rfl⟩) ?_ hz ?_ ?_
 ·rintro D hD i ys H2 hi ⟨S,h2,e⟩
  refine ⟨h2,?_⟩
  rw [e]
  exact Nat.le_trans (List.length_filterMap_le _ _) (by rw [List.length_range]; omega)
 ·rintro D hD i ys H2 hi ⟨S,h2,e⟩
  refine hs i H2 _ _ hi S (fun y H' ey S2=>⟨S2 _ _ h2,zaz (fun q o h=>S2 _ _ (S _ _ h)) hD,zaa,?_⟩) (fun ey H' S2=>⟨fun q o h=>S2 _ _ (S _ _ h),S2 _ _ h2,?_⟩)
  ·rw [zeW f i,ey,e]; rfl
  ·rw [zeW f i,ey,e]; simp
 ·rintro D hD ys H2 ⟨S,h2,e⟩
  refine hd D H2 hD S ?_
  rw [h2,e]
end
end L2
set_option Elab.async false
set_option linter.all false
set_option maxRecDepth 100000
namespace L2
open PySem PySem.Spec PyProof.Rows
section
variable {X:Cx}
end
end L2
set_option Elab.async false
set_option linter.all false
set_option maxRecDepth 100000
namespace L2
open PySem PySem.Spec PyProof.Rows
section
variable {X:Cx} {es:List Expr} {t te:TA} {s:Str} {i:Int} {j:Nat} {p:Pos}
theorem zam (h:PA X es t):PA X (.Constant (.str s) j p :: es) (zcp (tC (.str s)) t):=zae zaB h rfl
theorem zai (h:PA X es t):PA X (.Constant (.int i) j p :: es) (zcp (tC (.int i)) t):=zae zag h rfl
theorem zac {x:Str} {te:TE} (h1:PE X (.Name x p) te) (h:PA X es t):PA X (.Name x p :: es) (zcp te t):=zae h1 h rfl
end
theorem zbm {X:Cx} {i:Nat} {x:Str} {es:List Expr} {t:TA} {pos pos' p:Pos} (hN:X.N.Nodup) (hi:X.N[i]? = some x) (hx:Loc X.env.scope x) (he:PA X es t) (hf:X.fn x = true ∨ X.env.scope.names.lookup x = some .local:=by first | exact .inl rfl | exact .inr rfl | assumption) :
  PS X (.Assign [.Name x pos'] (.List es p) pos) (tAsg (tLst t) (zcJ i)):=zaw hN hi hx (zav he) rfl hf
section
variable {X:Cx} {e:Expr} {te:TE} {p p1 p2 pos cpos:Pos} {j:Nat} {K:PySem.W.Frag}
end
end L2
set_option Elab.async false
set_option linter.all false
set_option maxRecDepth 100000
namespace L2
open PySem PySem.Spec PyProof.Rows
section
variable {prog:Program} {w:World} {A:Around}
end
section
variable {X:Cx} {e:Expr} {te:TE} {p p1 p2 p3 p4 pos:Pos} {j:Nat} {K:PySem.W.Frag}
end
section
variable {X:Cx}
end
end L2
set_option Elab.async false
set_option linter.all false
set_option maxRecDepth 100000
namespace L2
open PySem PySem.Spec PyProof.Rows
theorem zbg {M:Model} {A:Around} {E:Value->Shared->Prop} {s:Shared} {a:Addr} {Q:Option Obj->Shared->Prop} (h:Q (s.heap.get? a) s):wpAny M A (loadIfAlive a) Q E s:=by
 intro Γ p hb
 show Sem.wp M Γ (Sem.loadIfAlive a Sem.pure) _ _ p s
 rw [Sem.wp_loadIfAlive]
 exact h
section
variable {prog:Program} {w:World} {A:Around}
theorem zhP {E:Value->Shared->Prop} {s:Shared} {Q:Value->Shared->Prop} {a b:Value} {oI oJ:Obj} (fI:oI.isFreed = false) (fJ:oJ.isFreed = false)
  (ha:∀ (A:Around) (E:Value->Shared->Prop) (Q:Value->Shared->Prop),Q (.ref s.heap.objs.size) { s with heap:=s.heap.push oI }->wpAny (model prog w) A (pyIter a) Q E s)
  (hb:∀ (A:Around) (E:Value->Shared->Prop) (Q:Value->Shared->Prop),Q (.ref (s.heap.push oI).objs.size) { s with heap:=(s.heap.push oI).push oJ }->wpAny (model prog w) A (pyIter b) Q E { s with heap:=s.heap.push oI })
  (h:∀ (i j ti to z:Addr) (h':Heap),i = s.heap.objs.size->j = (s.heap.push oI).objs.size->(∀ c o,s.heap.get? c = some o->h'.get? c = some o)->h'.get? i = some oI->h'.get? j = some oJ->s.heap.get? i = none->s.heap.get? j = none->s.heap.get? ti = none->s.heap.get? to = none->s.heap.get? z = none->IsPair h' ti (.ref i) (.ref j)->IsPair h' to .none .none->IsZip h' z ti to .none->[i,j,ti,to,z].Nodup->Q (.ref z) { s with heap:=h' }) :
  wpAny (model prog w) A (call (.type "zip") [a,b]) Q E s:=by
 refine callType_newIn (newId:="zip.__new__") (S:=fun A R s'=>s' = s∧∀ z h',(∃ o,Heap.get? h' z = some o∧o.cls = .type "zip")->Q (.ref z) { s with heap:=h' }->R (.ok (.ret (.ref z))) { s with heap:=h' }) PySem.F.called_zip (by decide) (by rfl) (PySem.F.newCall_zip_2 _ _) (fun obj=>by rfl) PySem.F.entry_zip_new (fun A R s' hS=>?_) ?_
 ·obtain ⟨rfl,hR⟩:=hS
  refine wpAny_bind ?_
  refine wpAny_bind (m:=isType (.type "zip")) (wpAny_pure (a:=true) ?_)
  refine wpAny_bind (m:=isSubtype (.type "zip") (.type "zip")) ?_
  rw [PySem.F.called_zip.sub]
  refine wpAny_pure (wpAny_pure ?_)
  refine wpAny_bind (m:=Builtin.SmallTypes.iterAll [a,b]) ?_
  refine wpAny_bind ?_
  refine wpAny_bind ?_
  refine wpAny_bind (wpAny_holding (ha _ _ _ (wpAny_pure ?_)))
  refine wpAny_bind ?_
  refine wpAny_bind (wpAny_holding (hb _ _ _ (wpAny_pure ?_)))
  refine wpAny_pure (wpAny_pure ?_)
  refine wpAny_bind (wpAny_newTuple ?_ (by simp [sizeLine_eq]))
  refine wpAny_bind (wpAny_newTuple ?_ (by simp [sizeLine_eq]))
  refine wpAny_bind ?_
  refine wpAny_bind (m:=alloc _) (wpAny_alloc (wpAny_pure (wpAny_pure ?_)))
  obtain ⟨h1,e1⟩:∃ h1,h1 = s'.heap.push oI:=⟨_,rfl⟩
  obtain ⟨h2,e2⟩:∃ h2,h2 = h1.push oJ:=⟨_,rfl⟩
  obtain ⟨h3,e3⟩:∃ h3,h3 = h2.push { cls:=.type "tuple",data:=.seq #[.ref s'.heap.objs.size,.ref h1.objs.size] }:=⟨_,rfl⟩
  obtain ⟨h4,e4⟩:∃ h4,h4 = h3.push { cls:=.type "tuple",data:=.seq #[.none,.none] }:=⟨_,rfl⟩
  obtain ⟨h5,e5⟩:∃ h5,h5 = h4.push { cls:=.type "zip",data:=.fields #[.none,.bool false,.bool false,.ref h2.objs.size,.ref h3.objs.size] }:=⟨_,rfl⟩
  have k1:∀ c o,s'.heap.get? c = some o->h1.get? c = some o:=fun c o q=>by rw [e1]; exact Heap.get?_push_of_some _ q
  have k2:∀ c o,h1.get? c = some o->h2.get? c = some o:=fun c o q=>by rw [e2]; exact Heap.get?_push_of_some _ q
  have k3:∀ c o,h2.get? c = some o->h3.get? c = some o:=fun c o q=>by rw [e3]; exact Heap.get?_push_of_some _ q
  have k4:∀ c o,h3.get? c = some o->h4.get? c = some o:=fun c o q=>by rw [e4]; exact Heap.get?_push_of_some _ q
  have k5:∀ c o,h4.get? c = some o->h5.get? c = some o:=fun c o q=>by rw [e5]; exact Heap.get?_push_of_some _ q
  have g1:h1.get? s'.heap.objs.size = some oI:=by rw [e1]; exact Heap.get?_push_size _ fI
  have g2:h2.get? h1.objs.size = some oJ:=by rw [e2]; exact Heap.get?_push_size _ fJ
  have g3:h3.get? h2.objs.size = some { cls:=.type "tuple",data:=.seq #[.ref s'.heap.objs.size,.ref h1.objs.size] }:=by rw [e3]; exact Heap.get?_push_size _ rfl
  have g4:h4.get? h3.objs.size = some { cls:=.type "tuple",data:=.seq #[.none,.none] }:=by rw [e4]; exact Heap.get?_push_size _ rfl
  have g5:h5.get? h4.objs.size = some { cls:=.type "zip",data:=.fields #[.none,.bool false,.bool false,.ref h2.objs.size,.ref h3.objs.size] }:=by rw [e5]; exact Heap.get?_push_size _ rfl
  have l1:=Heap.lt_size g1
  have l2:=Heap.lt_size g2
  have l3:=Heap.lt_size g3
  have l4:=Heap.lt_size g4
  have no:∀ c,s'.heap.objs.size ≤ c->s'.heap.get? c = none:=fun c hc=>by
   cases q:s'.heap.get? c with
   | none=>rfl
   | some o=>exact absurd (Nat.lt_of_lt_of_le (Heap.lt_size q) hc) (Nat.lt_irrefl _)
  have fin5:R (.ok (.ret (.ref h4.objs.size))) { s' with heap:=h5 }:=by
   refine hR _ _ ⟨_,g5,rfl⟩ (h s'.heap.objs.size h1.objs.size h2.objs.size h3.objs.size h4.objs.size h5 rfl (by rw [e1]) (fun c o q=>k5 _ _ (k4 _ _ (k3 _ _ (k2 _ _ (k1 _ _ q))))) (k5 _ _ (k4 _ _ (k3 _ _ (k2 _ _ g1)))) (k5 _ _ (k4 _ _ (k3 _ _ g2))) (no _ (Nat.le_refl _)) (no _ (Nat.le_of_lt l1)) (no _ (Nat.le_of_lt (Nat.lt_trans l1 l2))) (no _ (Nat.le_of_lt (Nat.lt_trans l1 (Nat.lt_trans l2 l3)))) (no _ (Nat.le_of_lt (Nat.lt_trans l1 (Nat.lt_trans l2 (Nat.lt_trans l3 l4))))) (k5 _ _ (k4 _ _ g3)) (k5 _ _ g4) g5 ?_)
   have l1':s'.heap.objs.size < h1.objs.size:=l1
   have l2':h1.objs.size < h2.objs.size:=l2
   have l3':h2.objs.size < h3.objs.size:=l3
   have l4':h3.objs.size < h4.objs.size:=l4
   simp only [List.nodup_cons,List.mem_cons,List.not_mem_nil,or_false,not_false_eq_true,List.nodup_nil,and_true,not_or]
   refine ⟨⟨?_,?_,?_,?_⟩,⟨?_,?_,?_⟩,⟨?_,?_⟩,?_⟩ <;> intro z <;> have z':(_:Nat) = _:=z <;> omega
  subst e5
  subst e4
  subst e3
  subst e2
  subst e1
  exact fin5
 ·refine ⟨rfl,fun z h' ⟨o,e1,e2⟩ hq=>⟨⟨o,e1,e2⟩,hq⟩⟩
structure NxSrc (prog:Program) (w:World) (I d:Addr) (n:Nat) (P:Nat->Value->Prop) (St:Nat->Heap->Prop):Prop where
 item:∀ (A:Around) (E:Value->Shared->Prop) (s:Shared) (Q:Value->Shared->Prop) (i:Nat),i < n->St i s.heap->(∀ v h' tk,P i v->St (i + 1) h'->Heap.SameBut I s.heap h'->Q v { s with heap:=h',toks:=tk })->wpAny (model prog w) A (Builtin.SmallTypes.nextOf (.ref I)) Q E s
 done:∀ (A:Around) (E:Value->Shared->Prop) (s:Shared) (Q:Value->Shared->Prop),A.handled = none->St n s.heap->(∀ h' e,Heap.ExtBut I s.heap h'->(∃ o,h'.get? e = some o∧o.cls = .type "StopIteration")->E (.ref e) { s with heap:=h' })->wpAny (model prog w) A (Builtin.SmallTypes.nextOf (.ref I)) Q E s
 there:∀ (i:Nat) (h:Heap),St i h->∃ o,h.get? I = some o
 frame:∀ (i:Nat) (h h':Heap),St i h->(∀ b o,b = I ∨ b = d->h.get? b = some o->h'.get? b = some o)->St i h'
noncomputable def ZAt (h:Heap) (z ti to:Addr):Prop:=∃ (f0:Value) (f1:Bool),h.get? z = some { cls:=.type "zip",data:=.fields #[f0,.bool f1,.bool false,.ref ti,.ref to] }∧(f0 = .none ∨ ∃ (a:Addr) (o:Obj),f0 = rawInt a∧h.get? a = some o)
set_option maxHeartbeats 2000000 in
theorem zg4 {E:Value->Shared->Prop} {s:Shared} {Q:Option Value->Shared->Prop} {z ti to i j d1 d2:Addr} {a b:Value} {n k:Nat} {P1 P2:Nat->Value->Prop} {S1 S2:Nat->Heap->Prop}
  (N1:NxSrc prog w i d1 n P1 S1) (N2:NxSrc prog w j d2 n P2 S2) (ap:[i,j,ti,to,z].Nodup) (n1:d1 ∉ [j,to,z]) (n2:d2 ∉ [i,to,z])
  (hz:ZAt s.heap z ti to) (ht:IsPair s.heap ti (.ref i) (.ref j)) (ho:IsPair s.heap to a b) (kn:k < n) (h1:S1 k s.heap) (h2:S2 k s.heap)
  (h:∀ (r:Addr) (v u a' b':Value) (h':Heap) (tk:Nat),P1 k v->P2 k u->s.heap.get? r = none->IsPair h' r v u->ZAt h' z ti to->IsPair h' to a' b'->S1 (k + 1) h'->S2 (k + 1) h'->(∀ c o,c ∉ [z,to,i,j]->s.heap.get? c = some o->h'.get? c = some o)->Q (some (.ref r)) { s with heap:=h',toks:=tk }) :
  wpAny (model prog w) A (pyNext (.ref z)) Q E s:=by
 obtain ⟨f0,f1,ez,hf⟩:=hz
 refine wpAny_bind (wpAny_attempt ?_)
 refine wpAny_callSpecial?_slot (T:="zip") ⟨_,ez,rfl⟩ PySem.F.slot_zip_next ?_
 refine wpAny_call_entry PySem.F.slot_zip_next ⟨_,ez,rfl⟩ PySem.F.entry_zip_next ?_ (PySem.F.args_zip_next_1 _)
 refine wpAny_bind (m:=slotArgs "__next__" 0 _) (wpAny_pure (a:=(Value.ref z,[])) ?_)
 refine wpAny_bind (wpAny_field ez rfl rfl ?_)
 refine wpAny_bind (wpAny_field ez rfl rfl ?_)
 refine wpAny_bind (m:=seqItems? (.ref ti)) (wpAny_bind (wpAny_load ht (wpAny_pure ?_)))
 simp only [List.nodup_cons,List.mem_cons,List.not_mem_nil,or_false,not_or,not_false_eq_true,List.nodup_nil,and_true] at ap n1 n2
 obtain ⟨⟨nij,niti,nito,niz⟩,⟨njti,njto,njz⟩,⟨ntito,ntiz⟩,ntoz⟩:=ap
 obtain ⟨m1,m2,m3⟩:=n1
 obtain ⟨p1,p2,p3⟩:=n2
 rcases hf with rfl | ⟨aa,oo,rfl,ha⟩
 ·refine wpAny_bind (m:=Builtin.SmallTypes.ownedTupleIsFree (.ref z)) (wpAny_bind (wpAny_field ez rfl rfl (wpAny_pure ?_)))
  refine wpAny_bind (wpAny_rule ?_)
  refine wpAny_bind (wpAny_field ez rfl rfl ?_)
  refine wpAny_bind (wpAny_setField ez rfl (by simp) ?_)
  have kA:∀ c,c ≠ z->(s.heap.update z (Obj.mapFields fun x=>x.setIfInBounds 0 Value.ellipsis)).get? c = s.heap.get? c:=fun c hc=>Heap.get?_update_other _ _ (Ne.symm hc)
  have zA:(s.heap.update z (Obj.mapFields fun x=>x.setIfInBounds 0 Value.ellipsis)).get? z = some { cls:=.type "zip",data:=.fields #[.ellipsis,.bool f1,.bool false,.ref ti,.ref to] }:=Heap.get?_update_self _ ez rfl
  have szA:(s.heap.update z (Obj.mapFields fun x=>x.setIfInBounds 0 Value.ellipsis)).objs.size = s.heap.objs.size:=Heap.size_update _ _ _
  revert kA zA szA
  generalize s.heap.update z (Obj.mapFields fun x=>x.setIfInBounds 0 Value.ellipsis) = hA
  intro kA zA szA
  have s1A:S1 k hA:=N1.frame k s.heap hA h1 fun b o hb q=>by
   rw [kA b (by rcases hb with rfl | rfl; exact niz; exact m3)]; exact q
  have s2A:S2 k hA:=N2.frame k s.heap hA h2 fun b o hb q=>by
   rw [kA b (by rcases hb with rfl | rfl; exact njz; exact p3)]; exact q
  have oA:IsPair hA to a b:=by show hA.get? to = _; rw [kA to ntoz]; exact ho
  refine wpAny_bind ?_
  refine wpAny_bind ?_
  refine wpAny_bind (wpAny_onRaise ?_)
  refine wpAny_bind (N1.item _ _ _ _ k kn s1A fun v hB tk pv s1B sb=>wpAny_pure ?_)
  have oB:IsPair hB to a b:=by show hB.get? to = _; rw [sb.2 to (Ne.symm nito)]; exact oA
  have zB:=(sb.2 z (Ne.symm niz)).trans zA
  have s2B:S2 k hB:=N2.frame k hA hB s2A fun b o hb q=>by
   rw [sb.2 b (by rcases hb with rfl | rfl; exact Ne.symm nij; exact p1)]; exact q
  refine wpAny_bind (m:=seqItems? (.ref to)) (wpAny_bind (wpAny_load oB (wpAny_pure ?_)))
  refine wpAny_bind (wpAny_updateSeq oB rfl ?_ (by simp [sizeLine_eq]) (by simp [sizeLine_eq]))
  refine wpAny_bind (wpAny_letGo (wpAny_pure ?_))
  have kC:∀ c,c ≠ to->(hB.update to (Obj.mapSeq fun x=>x.setIfInBounds 0 v)).get? c = hB.get? c:=fun c hc=>Heap.get?_update_other _ _ (Ne.symm hc)
  have oC:IsPair (hB.update to (Obj.mapSeq fun x=>x.setIfInBounds 0 v)) to v b:=get?_update_seq (c:="tuple") (n:=0) oB (fun x=>x.setIfInBounds 0 v)
  have szC:(hB.update to (Obj.mapSeq fun x=>x.setIfInBounds 0 v)).objs.size = hB.objs.size:=Heap.size_update _ _ _
  dsimp only
  revert kC oC szC
  generalize hB.update to (Obj.mapSeq fun x=>x.setIfInBounds 0 v) = hC
  intro kC oC szC
  have s1C:S1 (k + 1) hC:=N1.frame _ hB hC s1B fun b o hb q=>by
   rw [kC b (by rcases hb with rfl | rfl; exact nito; exact m2)]; exact q
  have s2C:S2 k hC:=N2.frame _ hB hC s2B fun b o hb q=>by
   rw [kC b (by rcases hb with rfl | rfl; exact njto; exact p2)]; exact q
  have zC:=(kC z (Ne.symm ntoz)).trans zB
  refine wpAny_bind ?_
  refine wpAny_bind (wpAny_onRaise ?_)
  refine wpAny_bind (N2.item _ _ _ _ k kn s2C fun u hD tk2 pu s2D sd=>wpAny_pure ?_)
  have oD:IsPair hD to v b:=by show hD.get? to = _; rw [sd.2 to (Ne.symm njto)]; exact oC
  have zD:=(sd.2 z (Ne.symm njz)).trans zC
  have s1D:S1 (k + 1) hD:=N1.frame _ hC hD s1C fun b o hb q=>by
   rw [sd.2 b (by rcases hb with rfl | rfl; exact nij; exact m1)]; exact q
  refine wpAny_bind (m:=seqItems? (.ref to)) (wpAny_bind (wpAny_load oD (wpAny_pure ?_)))
  refine wpAny_bind (wpAny_updateSeq oD rfl ?_ (by simp [sizeLine_eq]) (by simp [sizeLine_eq]))
  refine wpAny_bind (wpAny_letGo (wpAny_pure ?_))
  have kE:∀ c,c ≠ to->(hD.update to (Obj.mapSeq fun x=>x.setIfInBounds 1 u)).get? c = hD.get? c:=fun c hc=>Heap.get?_update_other _ _ (Ne.symm hc)
  have oE:IsPair (hD.update to (Obj.mapSeq fun x=>x.setIfInBounds 1 u)) to v u:=get?_update_seq (c:="tuple") (n:=0) oD (fun x=>x.setIfInBounds 1 u)
  have szE:(hD.update to (Obj.mapSeq fun x=>x.setIfInBounds 1 u)).objs.size = hD.objs.size:=Heap.size_update _ _ _
  dsimp only
  revert kE oE szE
  generalize hD.update to (Obj.mapSeq fun x=>x.setIfInBounds 1 u) = hE
  intro kE oE szE
  have zE:=(kE z (Ne.symm ntoz)).trans zD
  refine wpAny_pure ?_
  refine wpAny_bind (m:=seqItems? (.ref to)) (wpAny_bind (wpAny_load oE (wpAny_pure ?_)))
  refine wpAny_bind (wpAny_newTuple ?_ (by simp [sizeLine_eq]))
  obtain ⟨hF,eF⟩:∃ hF,hF = hE.push { cls:=.type "tuple",data:=.seq #[v,u] }:=⟨_,rfl⟩
  have kF:∀ c o,hE.get? c = some o->hF.get? c = some o:=fun c o q=>by rw [eF]; exact Heap.get?_push_of_some _ q
  have rF:hF.get? hE.objs.size = some { cls:=.type "tuple",data:=.seq #[v,u] }:=by rw [eF]; exact Heap.get?_push_size _ rfl
  show wpAny _ _ _ _ _ { s with heap:=hE.push { cls:=.type "tuple",data:=.seq #[v,u] },toks:=tk2 }
  rw [← eF]
  have zF:=kF _ _ zE
  refine wpAny_bind (m:=Builtin.SmallTypes.ownedTupleHandOut (.ref z) (.ref hE.objs.size)) (wpAny_bind (wpAny_setField zF rfl (by simp) ?_))
  have zG:(hF.update z (Obj.mapFields fun x=>x.setIfInBounds 0 (rawInt hE.objs.size))).get? z = some { cls:=.type "zip",data:=.fields #[rawInt hE.objs.size,.bool f1,.bool false,.ref ti,.ref to] }:=Heap.get?_update_self _ zF rfl
  have kG:∀ c,c ≠ z->(hF.update z (Obj.mapFields fun x=>x.setIfInBounds 0 (rawInt hE.objs.size))).get? c = hF.get? c:=fun c hc=>Heap.get?_update_other _ _ (Ne.symm hc)
  dsimp only
  revert zG kG
  generalize hF.update z (Obj.mapFields fun x=>x.setIfInBounds 0 (rawInt hE.objs.size)) = hG
  intro zG kG
  refine wpAny_setField zG rfl (by simp) ?_
  have zK:(hG.update z (Obj.mapFields fun x=>x.setIfInBounds 1 (.bool false))).get? z = some { cls:=.type "zip",data:=.fields #[rawInt hE.objs.size,.bool false,.bool false,.ref ti,.ref to] }:=Heap.get?_update_self _ zG rfl
  have kK:∀ c,c ≠ z->(hG.update z (Obj.mapFields fun x=>x.setIfInBounds 1 (.bool false))).get? c = hG.get? c:=fun c hc=>Heap.get?_update_other _ _ (Ne.symm hc)
  dsimp only
  revert zK kK
  generalize hG.update z (Obj.mapFields fun x=>x.setIfInBounds 1 (.bool false)) = hK
  intro zK kK
  have nrz:hE.objs.size ≠ z:=fun e=>by
   have:=Heap.lt_size zE
   rw [← e] at this
   exact Nat.lt_irrefl _ this
  have rK:hK.get? hE.objs.size = some { cls:=.type "tuple",data:=.seq #[v,u] }:=by rw [kK _ nrz,kG _ nrz]; exact rF
  refine wpAny_pure ⟨_,rfl,wpAny_pure ?_⟩
  have kAll:∀ c o,c ≠ z->hE.get? c = some o->hK.get? c = some o:=fun c o hc q=>by rw [kK c hc,kG c hc]; exact kF c o q
  have sz0:hE.objs.size = s.heap.objs.size:=by rw [szE,sd.1,szC,sb.1,szA]
  refine h hE.objs.size v u v u hK tk2 pv pu ?_ rK ⟨_,false,zK,.inr ⟨hE.objs.size,_,rfl,rK⟩⟩ (kAll to _ (ntoz) oE) ?_ ?_ ?_
  ·rw [sz0]
   cases q:s.heap.get? s.heap.objs.size with
   | none=>rfl
   | some o=>exact absurd (Heap.lt_size q) (Nat.lt_irrefl _)
  ·refine N1.frame _ hD hK s1D fun b o hb q=>kAll b o ?_ ?_
   ·rcases hb with rfl | rfl
    ·exact niz
    ·exact m3
   ·rw [kE b (by rcases hb with rfl | rfl; exact nito; exact m2)]; exact q
  ·refine N2.frame _ hD hK s2D fun b o hb q=>kAll b o ?_ ?_
   ·rcases hb with rfl | rfl
    ·exact njz
    ·exact p3
   ·rw [kE b (by rcases hb with rfl | rfl; exact njto; exact p2)]; exact q
  ·intro c o hc q
   simp only [List.mem_cons,List.not_mem_nil,or_false,not_or] at hc
   refine kAll c o hc.1 ?_
   rw [kE c hc.2.1,sd.2 c hc.2.2.2,kC c hc.2.1,sb.2 c hc.2.2.1,kA c hc.1]
   exact q
 ·refine wpAny_bind (m:=Builtin.SmallTypes.ownedTupleIsFree (.ref z)) (wpAny_bind (wpAny_field ez rfl rfl ?_))
  refine wpAny_bind (zbg ?_)
  rw [show ((aa:Int)).toNat = aa from rfl,ha]
  refine wpAny_bind (m:=field (.ref z) 1) (wpAny_field ez rfl rfl ?_)
  cases f1 with
  | true =>
   refine wpAny_pure ?_
   have zA:s.heap.get? z = some { cls:=.type "zip",data:=.fields #[rawInt aa,.bool true,.bool false,.ref ti,.ref to] }:=ez
   have kA:∀ c,c ≠ z->s.heap.get? c = s.heap.get? c:=fun _ _=>rfl
   have szA:s.heap.objs.size = s.heap.objs.size:=rfl
   have s1A:=h1
   have s2A:=h2
   refine wpAny_bind ?_
   refine wpAny_bind ?_
   refine wpAny_bind (wpAny_holding ?_)
   refine wpAny_bind (N1.item _ _ _ _ k kn s1A fun v hB tk pv s1B sb=>wpAny_pure (wpAny_pure ?_))
   have s2B:S2 k hB:=N2.frame k _ hB s2A fun b o hb q=>by
    rw [sb.2 b (by rcases hb with rfl | rfl; exact Ne.symm nij; exact p1)]; exact q
   refine wpAny_bind ?_
   refine wpAny_bind (wpAny_holding ?_)
   refine wpAny_bind (N2.item _ _ _ _ k kn s2B fun u hD tk2 pu s2D sd=>wpAny_pure (wpAny_pure ?_))
   have s1D:S1 (k + 1) hD:=N1.frame _ hB hD s1B fun b o hb q=>by
    rw [sd.2 b (by rcases hb with rfl | rfl; exact nij; exact m1)]; exact q
   refine wpAny_pure ?_
   refine wpAny_bind (wpAny_newTuple ?_ (by simp [sizeLine_eq]))
   refine wpAny_pure ⟨_,rfl,wpAny_pure ?_⟩
   have kD:∀ c,c ≠ z->c ≠ i->c ≠ j->hD.get? c = s.heap.get? c:=fun c h1 h2 h3=>(sd.2 c h3).trans ((sb.2 c h2).trans (kA c h1))
   have zD:=(sd.2 z (Ne.symm njz)).trans ((sb.2 z (Ne.symm niz)).trans zA)
   have szD:hD.objs.size = s.heap.objs.size:=sd.1.trans (sb.1.trans szA)
   obtain ⟨hF,eF⟩:∃ hF,hF = hD.push { cls:=.type "tuple",data:=.seq #[v,u] }:=⟨_,rfl⟩
   have kF:∀ c o,hD.get? c = some o->hF.get? c = some o:=fun c o q=>by rw [eF]; exact Heap.get?_push_of_some _ q
   have rF:hF.get? hD.objs.size = some { cls:=.type "tuple",data:=.seq #[v,u] }:=by rw [eF]; exact Heap.get?_push_size _ rfl
   have aD:∃ o,hD.get? aa = some o:=by
    by_cases e1:aa = z
    ·rw [e1]; exact ⟨_,zD⟩
    ·by_cases e2:aa = i
     ·rw [e2,sd.2 i nij]; exact N1.there _ _ s1B
     ·by_cases e3:aa = j
      ·rw [e3]; exact N2.there _ _ s2D
      ·exact ⟨oo,by rw [kD aa e1 e2 e3]; exact ha⟩
   obtain ⟨o2,ho2⟩:=aD
   show Q _ { s with heap:=hD.push { cls:=.type "tuple",data:=.seq #[v,u] },toks:=tk2 }
   rw [← eF]
   refine h hD.objs.size v u a b hF tk2 pv pu ?_ rF ⟨_,_,kF _ _ zD,.inr ⟨aa,o2,rfl,kF _ _ ho2⟩⟩ ?_ ?_ ?_ ?_
   ·rw [szD]
    cases q:s.heap.get? s.heap.objs.size with
    | none=>rfl
    | some o=>exact absurd (Heap.lt_size q) (Nat.lt_irrefl _)
   ·exact kF _ _ (by rw [kD to ntoz (Ne.symm nito) (Ne.symm njto)]; exact ho)
   ·exact N1.frame _ hD hF s1D fun b o _ q=>kF b o q
   ·exact N2.frame _ hD hF s2D fun b o _ q=>kF b o q
   ·intro c o hc q
    simp only [List.mem_cons,List.not_mem_nil,or_false,not_or] at hc
    exact kF c o (by rw [kD c hc.1 hc.2.2.1 hc.2.2.2]; exact q)
  | false =>
   refine wpAny_bind (wpAny_setField ez rfl (by simp) (wpAny_pure ?_))
   have kA:∀ c,c ≠ z->(s.heap.update z (Obj.mapFields fun x=>x.setIfInBounds 1 (.bool true))).get? c = s.heap.get? c:=fun c hc=>Heap.get?_update_other _ _ (Ne.symm hc)
   have zA:(s.heap.update z (Obj.mapFields fun x=>x.setIfInBounds 1 (.bool true))).get? z = some { cls:=.type "zip",data:=.fields #[rawInt aa,.bool true,.bool false,.ref ti,.ref to] }:=Heap.get?_update_self _ ez rfl
   have szA:(s.heap.update z (Obj.mapFields fun x=>x.setIfInBounds 1 (.bool true))).objs.size = s.heap.objs.size:=Heap.size_update _ _ _
   dsimp only
   revert kA zA szA
   generalize s.heap.update z (Obj.mapFields fun x=>x.setIfInBounds 1 (.bool true)) = hA
   intro kA zA szA
   have s1A:S1 k hA:=N1.frame k s.heap hA h1 fun b o hb q=>by
    rw [kA b (by rcases hb with rfl | rfl; exact niz; exact m3)]; exact q
   have s2A:S2 k hA:=N2.frame k s.heap hA h2 fun b o hb q=>by
    rw [kA b (by rcases hb with rfl | rfl; exact njz; exact p3)]; exact q
   refine wpAny_bind ?_
   refine wpAny_bind ?_
   refine wpAny_bind (wpAny_holding ?_)
   refine wpAny_bind (N1.item _ _ _ _ k kn s1A fun v hB tk pv s1B sb=>wpAny_pure (wpAny_pure ?_))
   have s2B:S2 k hB:=N2.frame k _ hB s2A fun b o hb q=>by
    rw [sb.2 b (by rcases hb with rfl | rfl; exact Ne.symm nij; exact p1)]; exact q
   refine wpAny_bind ?_
   refine wpAny_bind (wpAny_holding ?_)
   refine wpAny_bind (N2.item _ _ _ _ k kn s2B fun u hD tk2 pu s2D sd=>wpAny_pure (wpAny_pure ?_))
   have s1D:S1 (k + 1) hD:=N1.frame _ hB hD s1B fun b o hb q=>by
    rw [sd.2 b (by rcases hb with rfl | rfl; exact nij; exact m1)]; exact q
   refine wpAny_pure ?_
   refine wpAny_bind (wpAny_newTuple ?_ (by simp [sizeLine_eq]))
   refine wpAny_pure ⟨_,rfl,wpAny_pure ?_⟩
   have kD:∀ c,c ≠ z->c ≠ i->c ≠ j->hD.get? c = s.heap.get? c:=fun c h1 h2 h3=>(sd.2 c h3).trans ((sb.2 c h2).trans (kA c h1))
   have zD:=(sd.2 z (Ne.symm njz)).trans ((sb.2 z (Ne.symm niz)).trans zA)
   have szD:hD.objs.size = s.heap.objs.size:=sd.1.trans (sb.1.trans szA)
   obtain ⟨hF,eF⟩:∃ hF,hF = hD.push { cls:=.type "tuple",data:=.seq #[v,u] }:=⟨_,rfl⟩
   have kF:∀ c o,hD.get? c = some o->hF.get? c = some o:=fun c o q=>by rw [eF]; exact Heap.get?_push_of_some _ q
   have rF:hF.get? hD.objs.size = some { cls:=.type "tuple",data:=.seq #[v,u] }:=by rw [eF]; exact Heap.get?_push_size _ rfl
   have aD:∃ o,hD.get? aa = some o:=by
    by_cases e1:aa = z
    ·rw [e1]; exact ⟨_,zD⟩
    ·by_cases e2:aa = i
     ·rw [e2,sd.2 i nij]; exact N1.there _ _ s1B
     ·by_cases e3:aa = j
      ·rw [e3]; exact N2.there _ _ s2D
      ·exact ⟨oo,by rw [kD aa e1 e2 e3]; exact ha⟩
   obtain ⟨o2,ho2⟩:=aD
   show Q _ { s with heap:=hD.push { cls:=.type "tuple",data:=.seq #[v,u] },toks:=tk2 }
   rw [← eF]
   refine h hD.objs.size v u a b hF tk2 pv pu ?_ rF ⟨_,_,kF _ _ zD,.inr ⟨aa,o2,rfl,kF _ _ ho2⟩⟩ ?_ ?_ ?_ ?_
   ·rw [szD]
    cases q:s.heap.get? s.heap.objs.size with
    | none=>rfl
    | some o=>exact absurd (Heap.lt_size q) (Nat.lt_irrefl _)
   ·exact kF _ _ (by rw [kD to ntoz (Ne.symm nito) (Ne.symm njto)]; exact ho)
   ·exact N1.frame _ hD hF s1D fun b o _ q=>kF b o q
   ·exact N2.frame _ hD hF s2D fun b o _ q=>kF b o q
   ·intro c o hc q
    simp only [List.mem_cons,List.not_mem_nil,or_false,not_or] at hc
    exact kF c o (by rw [kD c hc.1 hc.2.2.1 hc.2.2.2]; exact q)
theorem zcS {E:Value->Shared->Prop} {s:Shared} {Q:Option Value->Shared->Prop} {e:Addr} (he:∃ o,s.heap.get? e = some o∧o.cls = .type "StopIteration") (q:Q none s) :
  wpAny (model prog w) A (do
   let b ← isInstance (.ref e) (.type "StopIteration")
   if b = true then pure none else throw (.ref e)) Q E s:=by
 refine wpAny_bind (wpAny_isInstance (T:="StopIteration") (b:=true) he (by rfl) ?_)
 rw [if_pos rfl]
 exact wpAny_pure q
set_option maxHeartbeats 2000000 in
theorem zha {E:Value->Shared->Prop} {s:Shared} {Q:Option Value->Shared->Prop} {z ti to i j d1:Addr} {n:Nat} {P1:Nat->Value->Prop} {S1:Nat->Heap->Prop} (hh:A.handled = none)
  (N1:NxSrc prog w i d1 n P1 S1) (niz:i ≠ z) (m3:d1 ≠ z)
  (hz:ZAt s.heap z ti to) (ht:IsPair s.heap ti (.ref i) (.ref j)) (h1:S1 n s.heap)
  (h:∀ (h':Heap),(∀ c o,c ∉ [z,to,i,j]->s.heap.get? c = some o->h'.get? c = some o)->Q none { s with heap:=h' }) :
  wpAny (model prog w) A (pyNext (.ref z)) Q E s:=by
 obtain ⟨f0,f1,ez,hf⟩:=hz
 refine wpAny_bind (wpAny_attempt ?_)
 refine wpAny_callSpecial?_slot (T:="zip") ⟨_,ez,rfl⟩ PySem.F.slot_zip_next ?_
 refine wpAny_call_entry PySem.F.slot_zip_next ⟨_,ez,rfl⟩ PySem.F.entry_zip_next ?_ (PySem.F.args_zip_next_1 _)
 refine wpAny_bind (m:=slotArgs "__next__" 0 _) (wpAny_pure (a:=(Value.ref z,[])) ?_)
 refine wpAny_bind (wpAny_field ez rfl rfl ?_)
 refine wpAny_bind (wpAny_field ez rfl rfl ?_)
 refine wpAny_bind (m:=seqItems? (.ref ti)) (wpAny_bind (wpAny_load ht (wpAny_pure ?_)))
 rcases hf with rfl | ⟨aa,oo,rfl,ha⟩
 ·refine wpAny_bind (m:=Builtin.SmallTypes.ownedTupleIsFree (.ref z)) (wpAny_bind (wpAny_field ez rfl rfl (wpAny_pure ?_)))
  refine wpAny_bind (wpAny_rule ?_)
  refine wpAny_bind (wpAny_field ez rfl rfl ?_)
  refine wpAny_bind (wpAny_setField ez rfl (by simp) ?_)
  have kA:∀ c,c ≠ z->(s.heap.update z (Obj.mapFields fun x=>x.setIfInBounds 0 Value.ellipsis)).get? c = s.heap.get? c:=fun c hc=>Heap.get?_update_other _ _ (Ne.symm hc)
  have zA:(s.heap.update z (Obj.mapFields fun x=>x.setIfInBounds 0 Value.ellipsis)).get? z = some { cls:=.type "zip",data:=.fields #[.ellipsis,.bool f1,.bool false,.ref ti,.ref to] }:=Heap.get?_update_self _ ez rfl
  dsimp only
  revert kA zA
  generalize s.heap.update z (Obj.mapFields fun x=>x.setIfInBounds 0 Value.ellipsis) = hA
  intro kA zA
  have s1A:S1 n hA:=N1.frame n s.heap hA h1 fun b o hb q=>by
   rw [kA b (by rcases hb with rfl | rfl; exact niz; exact m3)]; exact q
  refine wpAny_bind ?_
  refine wpAny_bind ?_
  refine wpAny_bind (wpAny_onRaise ?_)
  refine wpAny_bind (N1.done _ _ _ _ (show A.in1.handled = none from hh) s1A fun hB e he ⟨o,g,c⟩=>?_)
  have zB:=he z _ (Ne.symm niz) zA
  refine wpAny_setField zB rfl (by simp) ?_
  have kC:∀ c,c ≠ z->(hB.update z (Obj.mapFields fun x=>x.setIfInBounds 0 Value.none)).get? c = hB.get? c:=fun c hc=>Heap.get?_update_other _ _ (Ne.symm hc)
  have nez:e ≠ z:=fun q=>by rw [q,zB] at g; cases g; exact absurd (show Value.type "zip" = Value.type "StopIteration" from c) (by intro z; injection z with z; revert z; decide)
  dsimp only
  revert kC
  generalize hB.update z (Obj.mapFields fun x=>x.setIfInBounds 0 Value.none) = hC
  intro kC
  refine zcS ⟨o,by show hC.get? e = _; rw [kC e nez]; exact g,c⟩ (h hC fun c o hc q=>?_)
  simp only [List.mem_cons,List.not_mem_nil,or_false,not_or] at hc
  rw [kC c hc.1]
  exact he c o hc.2.2.1 (by rw [kA c hc.1]; exact q)
 ·refine wpAny_bind (m:=Builtin.SmallTypes.ownedTupleIsFree (.ref z)) (wpAny_bind (wpAny_field ez rfl rfl ?_))
  refine wpAny_bind (zbg ?_)
  rw [show ((aa:Int)).toNat = aa from rfl,ha]
  refine wpAny_bind (m:=field (.ref z) 1) (wpAny_field ez rfl rfl ?_)
  cases f1 with
  | true =>
   refine wpAny_pure ?_
   refine wpAny_bind ?_
   refine wpAny_bind ?_
   refine wpAny_bind (wpAny_holding ?_)
   refine wpAny_bind (N1.done _ _ _ _ (show A.in1.handled = none from hh) h1 fun hB e he ⟨o,g,c⟩=>?_)
   refine zcS ⟨o,g,c⟩ (h hB fun c o hc q=>?_)
   simp only [List.mem_cons,List.not_mem_nil,or_false,not_or] at hc
   exact he c o hc.2.2.1 q
  | false =>
   refine wpAny_bind (wpAny_setField ez rfl (by simp) (wpAny_pure ?_))
   have kA:∀ c,c ≠ z->(s.heap.update z (Obj.mapFields fun x=>x.setIfInBounds 1 (.bool true))).get? c = s.heap.get? c:=fun c hc=>Heap.get?_update_other _ _ (Ne.symm hc)
   dsimp only
   revert kA
   generalize s.heap.update z (Obj.mapFields fun x=>x.setIfInBounds 1 (.bool true)) = hA
   intro kA
   have s1A:S1 n hA:=N1.frame n s.heap hA h1 fun b o hb q=>by
    rw [kA b (by rcases hb with rfl | rfl; exact niz; exact m3)]; exact q
   refine wpAny_bind ?_
   refine wpAny_bind ?_
   refine wpAny_bind (wpAny_holding ?_)
   refine wpAny_bind (N1.done _ _ _ _ (show A.in1.handled = none from hh) s1A fun hB e he ⟨o,g,c⟩=>?_)
   refine zcS ⟨o,g,c⟩ (h hB fun c o hc q=>?_)
   simp only [List.mem_cons,List.not_mem_nil,or_false,not_or] at hc
   exact he c o hc.2.2.1 (by rw [kA c hc.1]; exact q)
structure Made (s0 h:Heap) (D:Addr) (P1 P2:Nat->Value->Prop) (rs:List Addr):Prop where
 at_:∀ (k:Nat) (r:Addr),rs[k]? = some r->s0.get? r = none∧r ≠ D∧∃ v u,P1 k v∧P2 k u∧IsPair h r v u
 nd:rs.Nodup
set_option maxHeartbeats 2000000 in
theorem zfi {R:Result->Shared->Prop} {s:Shared} {s0:Heap} {z ti to i j d1 d2 D:Addr} {n:Nat} {P1 P2:Nat->Value->Prop} {S1 S2:Nat->Heap->Prop} (hh:A.handled = none)
  (N1:NxSrc prog w i d1 n P1 S1) (N2:NxSrc prog w j d2 n P2 S2) (ap:[i,j,ti,to,z].Nodup) (n1:d1 ∉ [j,to,z]) (n2:d2 ∉ [i,to,z]) (nD:D ∉ [i,j,ti,to,z]) (nD1:d1 ≠ D) (nD2:d2 ≠ D) (hD0:s0.get? D = none) (n1000:n ≤ 1000)
  (fin:∀ (rs:List Addr) (h':Heap) (tk e:Nat),h'.get? D = some (seqObj "list" (rs.map Value.ref).toArray e)->rs.length = n->Made s0 h' D P1 P2 rs->(∀ c o,c ∉ [z,to,i,j]->s0.get? c = some o->h'.get? c = some o)->R (.ok (.ret .none)) { s with heap:=h',toks:=tk }) :
  ∀ (m k:Nat) (h:Heap) (tk e:Nat) (rs:List Addr) (a b:Value),n - k = m->k ≤ n->rs.length = k->h.get? D = some (seqObj "list" (rs.map Value.ref).toArray e)->Made s0 h D P1 P2 rs->(∀ r ∈ rs,r ∉ [z,to,i,j])->ZAt h z ti to->IsPair h ti (.ref i) (.ref j)->IsPair h to a b->S1 k h->S2 k h->(∀ c o,c ∉ [z,to,i,j]->s0.get? c = some o->h.get? c = some o) ->
   codeAny (model prog w) A (.builtin "list.extend.loop" { pos:=[.ref D,.ref z,.none] }) R { s with heap:=h,toks:=tk }:=by
 intro m
 induction m with
 | zero =>
  intro k h tk e rs a b hm kn lr hD M nr hz ht ho h1 h2 K
  have ek:k = n:=by omega
  subst ek
  refine codeAny_builtin PySem.F.entry_extend_loop ?_
  have ap':=ap
  simp only [List.nodup_cons,List.mem_cons,List.not_mem_nil,or_false,not_or,not_false_eq_true,List.nodup_nil,and_true] at ap' n1 nD
  refine wpAny_bind (zha (show (A.under _).handled = none from hh) N1 ap'.1.2.2.2 n1.2.2 hz ht h1 fun h' k'=>wpAny_pure ?_)
  refine fin rs h' tk e (k' D _ (by simp; exact ⟨nD.2.2.2.2,nD.2.2.2.1,nD.1,nD.2.1⟩) hD) lr ⟨fun q r hr=>?_,M.nd⟩ fun c o hc q=>k' c o hc (K c o hc q)
  obtain ⟨g1,g2,v,u,g3,g4,g5⟩:=M.at_ q r hr
  exact ⟨g1,g2,v,u,g3,g4,k' r _ (nr r (List.mem_of_getElem? hr)) g5⟩
 | succ m ih =>
  intro k h tk e rs a b hm kn lr hD M nr hz ht ho h1 h2 K
  refine codeAny_builtin PySem.F.entry_extend_loop ?_
  have ap':=ap
  have nD':=nD
  simp only [List.nodup_cons,List.mem_cons,List.not_mem_nil,or_false,not_or,not_false_eq_true,List.nodup_nil,and_true] at ap' nD'
  refine wpAny_bind (zg4 N1 N2 ap n1 n2 hz ht ho (by omega) h1 h2 fun r v u a' b' h' tk' pv pu hr hp hz' ho' s1' s2' k'=>?_)
  have dn:D ∉ [z,to,i,j]:=by simp; exact ⟨nD'.2.2.2.2,nD'.2.2.2.1,nD'.1,nD'.2.1⟩
  have hD':=k' D _ dn hD
  have rn:r ∉ [z,to,i,j]:=by
   simp only [List.mem_cons,List.not_mem_nil,or_false,not_or]
   obtain ⟨_,_,ez,_⟩:=hz
   obtain ⟨o1,e1⟩:=N1.there _ _ h1
   obtain ⟨o2,e2⟩:=N2.there _ _ h2
   have ho2:h.get? to = _:=ho
   have hr2:h.get? r = none:=hr
   refine ⟨fun q=>?_,fun q=>?_,fun q=>?_,fun q=>?_⟩
   ·rw [q,ez] at hr2; cases hr2
   ·rw [q,ho2] at hr2; cases hr2
   ·rw [q,e1] at hr2; cases hr2
   ·rw [q,e2] at hr2; cases hr2
  have hr2:h.get? r = none:=hr
  have nrD:r ≠ D:=fun q=>by rw [q,hD] at hr2; cases hr2
  have r0:s0.get? r = none:=by
   cases q:s0.get? r with
   | none=>rfl
   | some o=>rw [K r o rn q] at hr2; cases hr2
  have ls:(rs.map Value.ref).toArray.size ≤ 1000:=by rw [List.size_toArray,List.length_map]; omega
  refine wpAny_bind (listUpdate_at hD' rfl ?_ (by rw [sizeLine_eq]; omega) (by rw [Array.size_push,sizeLine_eq]; omega))
  have gD:=get?_update_seq (c:="list") hD' (fun x=>x.push (.ref r))
  have kL:∀ c,c ≠ D->(h'.update D (Obj.mapSeq fun x=>x.push (.ref r))).get? c = h'.get? c:=fun c hc=>Heap.get?_update_other _ _ (Ne.symm hc)
  dsimp only
  revert gD kL
  generalize (if ((rs.map Value.ref).toArray.push (Value.ref r)).size == (rs.map Value.ref).toArray.size then e else e + 1) = e'
  generalize h'.update D (Obj.mapSeq fun x=>x.push (.ref r)) = hL
  intro gD kL
  have gD2:hL.get? D = some (seqObj "list" ((rs ++ [r]).map Value.ref).toArray e'):=by
   rw [gD,List.map_append]
   simp
  refine wpAny_pure ⟨by first | rfl | with_unfolding_all rfl,ih (k + 1) hL tk' e' (rs ++ [r]) a' b' (by omega) (by omega) (by rw [List.length_append,lr]; rfl) gD2 ⟨fun q r' hr'=>?_,?_⟩ (fun r' hr'=>?_) ?_ ?_ ?_ ?_ ?_ fun c o hc q=>?_⟩
  ·rcases Nat.lt_trichotomy q rs.length with c | c | c
   ·rw [List.getElem?_append_left c] at hr'
    obtain ⟨g1,g2,v,u,g3,g4,g5⟩:=M.at_ q r' hr'
    exact ⟨g1,g2,v,u,g3,g4,by show hL.get? r' = _; rw [kL r' g2]; exact k' r' _ (nr r' (List.mem_of_getElem? hr')) g5⟩
   ·rw [List.getElem?_append_right (by omega),c,Nat.sub_self] at hr'
    cases hr'
    exact ⟨r0,nrD,v,u,by rw [c,lr]; exact pv,by rw [c,lr]; exact pu,by show hL.get? r = _; rw [kL r nrD]; exact hp⟩
   ·rw [List.getElem?_eq_none (by simp; omega)] at hr'
    cases hr'
  ·rw [List.nodup_append]
   refine ⟨M.nd,by simp,fun a ha b hb e=>?_⟩
   rw [List.mem_singleton.mp hb] at e
   obtain ⟨q,hq⟩:=List.mem_iff_getElem?.mp ha
   obtain ⟨_,_,v,u,_,_,g5⟩:=M.at_ q a hq
   have g6:h.get? a = _:=g5
   rw [e,hr2] at g6
   cases g6
  ·rcases List.mem_append.mp hr' with m' | m'
   ·exact nr r' m'
   ·rw [List.mem_singleton.mp m']; exact rn
  ·obtain ⟨f0,f1,ez,hf⟩:=hz'
   refine ⟨f0,f1,by rw [kL z (Ne.symm nD'.2.2.2.2)]; exact ez,?_⟩
   rcases hf with e0 | ⟨aa,oo,e0,ha⟩
   ·exact .inl e0
   ·by_cases q:aa = D
    ·exact .inr ⟨aa,_,e0,by rw [q]; exact gD2⟩
    ·exact .inr ⟨aa,oo,e0,by rw [kL aa q]; exact ha⟩
  ·show hL.get? ti = _
   rw [kL ti (Ne.symm nD'.2.2.1)]
   exact k' ti _ (by simp; exact ⟨ap'.2.2.1.2,ap'.2.2.1.1,fun q=>ap'.1.2.1 q.symm,fun q=>ap'.2.1.1 q.symm⟩) ht
  ·show hL.get? to = _
   rw [kL to (Ne.symm nD'.2.2.2.1)]
   exact ho'
  ·exact N1.frame _ h' hL s1' fun b o hb q=>by
    rw [kL b (by rcases hb with rfl | rfl; exact Ne.symm nD'.1; exact nD1)]; exact q
  ·exact N2.frame _ h' hL s2' fun b o hb q=>by
    rw [kL b (by rcases hb with rfl | rfl; exact Ne.symm nD'.2.1; exact nD2)]; exact q
  ·have ncD:c ≠ D:=fun z=>by rw [z,hD0] at q; cases q
   rw [kL c ncD]
   exact k' c o hc (K c o hc q)
set_option maxHeartbeats 2000000 in
theorem zdp {E:Value->Shared->Prop} {Q:Value->Shared->Prop} {s:Shared} {z ti to i j d1 d2:Addr} {n:Nat} {P1 P2:Nat->Value->Prop} {S1 S2:Nat->Heap->Prop} (hh:A.handled = none)
  (N1:NxSrc prog w i d1 n P1 S1) (N2:NxSrc prog w j d2 n P2 S2) (ap:[i,j,ti,to,z].Nodup) (n1:d1 ∉ [j,to,z]) (n2:d2 ∉ [i,to,z]) (t1:d1 < s.heap.objs.size) (t2:d2 < s.heap.objs.size) (n1000:n ≤ 1000)
  (hz:IsZip s.heap z ti to .none) (ht:IsPair s.heap ti (.ref i) (.ref j)) (ho:IsPair s.heap to .none .none) (h1:S1 0 s.heap) (h2:S2 0 s.heap)
  (fin:∀ (D:Addr) (rs:List Addr) (h':Heap) (tk e:Nat),s.heap.get? D = none->h'.get? D = some (seqObj "list" (rs.map Value.ref).toArray e)->rs.length = n->Made s.heap h' D P1 P2 rs->(∀ c o,c ∉ [z,to,i,j]->s.heap.get? c = some o->h'.get? c = some o)->Q (.ref D) { s with heap:=h',toks:=tk }) :
  wpAny (model prog w) A (call (.type "list") [.ref z]) Q E s:=by
 obtain ⟨D,eD⟩:∃ D,D = s.heap.objs.size:=⟨_,rfl⟩
 refine callType_codes (newId:="list.__new__") (initId:="list.__init__") (Q₁:=fun obj s1=>obj = .ref s.heap.objs.size∧s1 = { s with heap:=s.heap.push { cls:=.type "list",data:=.seq #[] } }) PySem.F.called_list (by rfl) PySem.F.entry_list_init (code_list_new _ ⟨rfl,rfl⟩) (fun obj s1 hq=>?_)
 obtain ⟨rfl,rfl⟩:=hq
 rw [← eD]
 obtain ⟨h0,e0⟩:∃ h0,h0 = s.heap.push { cls:=.type "list",data:=.seq #[] }:=⟨_,rfl⟩
 have k0:∀ c o,s.heap.get? c = some o->h0.get? c = some o:=fun c o q=>by rw [e0]; exact Heap.get?_push_of_some _ q
 have gD:h0.get? D = some (seqObj "list" #[] 0):=by rw [e0,eD]; exact Heap.get?_push_size _ rfl
 rw [← e0]
 refine ⟨⟨_,gD,rfl⟩,PySem.F.args_list_init_2 _ _,?_⟩
 have hz0:=k0 _ _ hz
 refine wpAny_bind (wpAny_listItems gD rfl ?_)
 refine wpAny_bind (PyProof.Rows.listUpdate_at gD rfl ?_ (by simp) (by simp))
 refine wpAny_bind (wpAny_letGo ?_)
 have gE:=PyProof.Rows.get?_update_seq (c:="list") gD (fun x=>#[])
 have kE:∀ c,c ≠ D->(h0.update D (Obj.mapSeq fun x=>#[])).get? c = h0.get? c:=fun c hc=>Heap.get?_update_other _ _ (Ne.symm hc)
 dsimp only
 revert gE kE
 generalize h0.update D (Obj.mapSeq fun x=>#[]) = hE
 generalize (if (#[]:Array Value).size == (#[]:Array Value).size then 0 else 0 + 1) = e'
 intro gE kE
 have lt:∀ c o,s.heap.get? c = some o->c ≠ D:=fun c o q=>by rw [eD]; exact Nat.ne_of_lt (Heap.lt_size q)
 have kS:∀ c o,s.heap.get? c = some o->hE.get? c = some o:=fun c o q=>by rw [kE c (lt c o q)]; exact k0 c o q
 have zE:=kS _ _ hz
 refine wpAny_bind (wpAny_typeOf (T:="zip") ⟨_,zE,rfl⟩ ?_)
 have nzD:D ≠ z:=fun q=>lt z _ hz q.symm
 rw [if_neg (by
  have e1:Builtin.List.listSameRef (Value.ref D) (Value.ref z) = false:=by
   unfold Builtin.List.listSameRef
   simpa using nzD
  rw [e1]
  decide)]
 refine wpAny_bind (wpAny_pyIter_zip zE ?_)
 refine wpAny_bind (wpAny_holding ?_)
 refine wpAny_bind (wpAny_specialOf (T:="zip") (r:=none) ⟨_,zE,rfl⟩ (by rfl) ?_)
 refine wpAny_bind (wpAny_specialOf (T:="zip") (r:=none) ⟨_,zE,rfl⟩ (by rfl) ?_)
 refine wpAny_pure ?_
 refine wpAny_bind (wpAny_rule ?_)
 refine wpAny_bind (m:=Builtin.List.listTouch (.ref D)) (wpAny_bind (PyProof.Rows.listUpdate_at gE rfl ?_ (by simp) (by simp)))
 have gF:=PyProof.Rows.get?_update_seq (c:="list") gE (fun x=>x.push Value.none)
 have kF:∀ c,c ≠ D->(hE.update D (Obj.mapSeq fun x=>x.push Value.none)).get? c = hE.get? c:=fun c hc=>Heap.get?_update_other _ _ (Ne.symm hc)
 dsimp only
 revert gF kF
 generalize hE.update D (Obj.mapSeq fun x=>x.push Value.none) = hF
 generalize (if ((#[]:Array Value).push Value.none).size == (#[]:Array Value).size then e' else e' + 1) = e2
 intro gF kF
 refine PyProof.Rows.listUpdate_at gF rfl ?_ (by simp [sizeLine_eq]) (by simp)
 have gG:=PyProof.Rows.get?_update_seq (c:="list") gF (fun x=>x.pop)
 have kG:∀ c,c ≠ D->(hF.update D (Obj.mapSeq fun x=>x.pop)).get? c = hF.get? c:=fun c hc=>Heap.get?_update_other _ _ (Ne.symm hc)
 dsimp only
 revert gG kG
 generalize hF.update D (Obj.mapSeq fun x=>x.pop) = hG
 generalize (if ((#[]:Array Value).push Value.none).pop.size == ((#[]:Array Value).push Value.none).size then e2 else e2 + 1) = e3
 intro gG kG
 have gG2:hG.get? D = some (seqObj "list" (([]:List Addr).map Value.ref).toArray e3):=by rw [gG]; simp
 have kH:∀ c o,s.heap.get? c = some o->hG.get? c = some o:=fun c o q=>by rw [kG c (lt c o q),kF c (lt c o q)]; exact kS c o q
 obtain ⟨oi,ei⟩:=N1.there _ _ h1
 obtain ⟨oj,ej⟩:=N2.there _ _ h2
 refine wpAny_pure ⟨by first | rfl | with_unfolding_all rfl,?_⟩
 refine zfi (A:=A.in1) (s:=s) (s0:=s.heap) (D:=D) (show A.in1.handled = none from hh) N1 N2 ap n1 n2 ?_ (by rw [eD]; exact Nat.ne_of_lt t1) (by rw [eD]; exact Nat.ne_of_lt t2) ?_ n1000 (fun rs h' tk e g1 g2 g3 g4=>⟨rfl,fin D rs h' tk e ?_ g1 g2 g3 g4⟩) n 0 hG s.toks e3 [] .none .none rfl (Nat.zero_le _) rfl gG2 ⟨(fun q r hr=>by cases hr),List.nodup_nil⟩ (fun r hr=>by cases hr) ⟨.none,false,kH _ _ hz,.inl rfl⟩ (kH _ _ ht) (kH _ _ ho) (N1.frame _ _ _ h1 fun b o _ q=>kH b o q) (N2.frame _ _ _ h2 fun b o _ q=>kH b o q) fun c o _ q=>kH c o q
 ·simp only [List.mem_cons,List.not_mem_nil,or_false,not_or]
  exact ⟨fun q=>lt i _ ei q.symm,fun q=>lt j _ ej q.symm,fun q=>lt ti _ ht q.symm,fun q=>lt to _ ho q.symm,nzD⟩
 ·cases q:s.heap.get? D with
  | none=>rfl
  | some o=>exact absurd rfl (lt D o q)
 ·cases q:s.heap.get? D with
  | none=>rfl
  | some o=>exact absurd rfl (lt D o q)
theorem zfe {α:Type} {E:Value->Shared->Prop} {s:Shared} {Q:α->Shared->Prop} (hh:A.handled = none) (h:∀ h' e,(∀ b o,s.heap.get? b = some o->Heap.get? h' b = some o)->(∃ o,Heap.get? h' e = some o∧o.cls = .type "StopIteration")->E (.ref e) { s with heap:=h' }):wpAny (model prog w) A (Builtin.SmallTypes.stopIteration (α:=α)) Q E s:=by
 refine wpAny_bind (m:=newExc (.type "StopIteration") []) (wpAny_bind (wpAny_newTuple ?_ (by simp)))
 refine wpAny_bind (m:=firstArgMember _ _) (wpAny_pure (a:=Value.none) ?_)
 refine wpAny_bind (m:=alloc _) (wpAny_alloc (wpAny_pure ?_))
 refine wpAny_raiseNew_none hh ?_
 refine h _ _ (fun b o q=>Heap.get?_push_of_some _ (Heap.get?_push_of_some _ q)) ⟨_,Heap.get?_push_size _ rfl,rfl⟩
theorem zh8 {I l:Addr} {its:Array Value}:NxSrc prog w I l its.size (fun k v=>its[k]? = some v) (fun k h=>h.IsListIter I l k∧h.IsList l its) where
 item:=fun A E s Q i hi ⟨h1,h2⟩ h=>wpAny_nextOf_list_item h1 h2 (Array.getElem?_eq_getElem hi) fun h' g1 g2=>h _ h' s.toks (Array.getElem?_eq_getElem hi) ⟨g1,by
  obtain ⟨o,e1,e2⟩:=h2
  refine ⟨o,?_,e2⟩
  rw [g2.2 l (fun e=>by
   obtain ⟨o',e3,e4,_⟩:=h1
   rw [e,e3] at e1
   cases e1
   rw [e4] at e2
   exact absurd e2.1 (by intro z; injection z with z; revert z; decide))]
  exact e1⟩ g2
 done:=fun A E s Q hh ⟨h1,h2⟩ h=>wpAny_nextOf_list_end hh h1 h2 (Array.getElem?_eq_none (Nat.le_refl _)) h
 there:=fun i h ⟨⟨o,e,_⟩,_⟩=>⟨o,e⟩
 frame:=fun i h h' ⟨⟨o,e1,e2⟩,⟨o',e3,e4⟩⟩ k=>⟨⟨o,k _ _ (.inl rfl) e1,e2⟩,⟨o',k _ _ (.inr rfl) e3,e4⟩⟩
theorem zh9 {I:Addr} {x:Str} {t:Tok}:NxSrc prog w I I x.cps.size (fun k v=>∃ c tk,x.cps[k]? = some c∧v = .str ⟨#[c]⟩ tk) (fun k h=>h.IsStrIter I "str_ascii_iterator" x t k) where
 item:=fun A E s Q i hi h1 h=>wpAny_nextOf_ascii_item h1 (Array.getElem?_eq_getElem hi) fun h' g1 g2=>h _ h' _ ⟨_,_,Array.getElem?_eq_getElem hi,rfl⟩ g1 g2
 done:=fun A E s Q hh h1 h=>wpAny_nextOf_ascii_end hh h1 (Array.getElem?_eq_none (Nat.le_refl _)) h
 there:=fun i h ⟨o,e,_⟩=>⟨o,e⟩
 frame:=fun i h h' ⟨o,e1,e2⟩ k=>⟨o,k _ _ (.inl rfl) e1,e2⟩
theorem zg2 {I t:Addr} {its:Array Value} (nI:t ≠ I):NxSrc prog w I t its.size (fun k v=>its[k]? = some v) (fun k h=>h.IsTupleIter I t k∧h.IsTuple t its) where
 item:=fun A E s Q i hi ⟨h1,h2⟩ h=>by
  obtain ⟨o,e1,e2,e3⟩:=id h1
  obtain ⟨o',e4,e5,n',e6⟩:=id h2
  refine wpAny_bind (wpAny_callSpecial?_slot (T:="tuple_iterator") ⟨o,e1,e2⟩ slot_tupleiter_next (wpAny_call_entry slot_tupleiter_next ⟨o,e1,e2⟩ entry_tupleiter_next ?_ (args_tupleiter_next _)))
  refine wpAny_bind (m:=slotArgs "__next__" 0 _) (wpAny_pure (a:=(Value.ref I,[])) ?_)
  refine wpAny_bind (wpAny_field e1 e3 rfl ?_)
  refine wpAny_bind (wpAny_field e1 e3 rfl ?_)
  refine wpAny_bind (m:=seqItems? (.ref t)) (wpAny_bind (wpAny_load e4 ?_))
  rw [e6]
  refine wpAny_pure ?_
  show wpAny _ _ (match its[i]? with | some x=>_ | none=>_) _ _ _
  rw [Array.getElem?_eq_getElem hi]
  refine wpAny_bind (wpAny_setField e1 e3 (by simp) (wpAny_pure ⟨_,rfl,wpAny_pure ?_⟩))
  obtain ⟨cl,di,da,sl⟩:=o
  have e2':cl = .type "tuple_iterator":=e2
  have e3':da = .fields #[.ref t,.int (i:Int) 0]:=e3
  subst e2' e3'
  have gI:(s.heap.update I (Obj.mapFields fun x=>x.setIfInBounds 1 (rawInt ((i:Int) + 1)))).get? I = some ⟨.type "tuple_iterator",di,.fields #[.ref t,.int ((i + 1:Nat):Int) 0],sl⟩:=Heap.get?_update_self _ e1 rfl
  have kI:∀ c,c ≠ I->(s.heap.update I (Obj.mapFields fun x=>x.setIfInBounds 1 (rawInt ((i:Int) + 1)))).get? c = s.heap.get? c:=fun c hc=>Heap.get?_update_other _ _ (Ne.symm hc)
  refine h _ _ s.toks (Array.getElem?_eq_getElem hi) ⟨⟨_,gI,rfl,rfl⟩,⟨o',by rw [kI t nI]; exact e4,e5,n',e6⟩⟩ ⟨Heap.size_update _ _ _,kI⟩
 done:=fun A E s Q hh ⟨h1,h2⟩ h=>by
  obtain ⟨o,e1,e2,e3⟩:=id h1
  obtain ⟨o',e4,e5,n',e6⟩:=id h2
  refine wpAny_bind (wpAny_callSpecial?_slot (T:="tuple_iterator") ⟨o,e1,e2⟩ slot_tupleiter_next (wpAny_call_entry slot_tupleiter_next ⟨o,e1,e2⟩ entry_tupleiter_next ?_ (args_tupleiter_next _)))
  refine wpAny_bind (m:=slotArgs "__next__" 0 _) (wpAny_pure (a:=(Value.ref I,[])) ?_)
  refine wpAny_bind (wpAny_field e1 e3 rfl ?_)
  refine wpAny_bind (wpAny_field e1 e3 rfl ?_)
  refine wpAny_bind (m:=seqItems? (.ref t)) (wpAny_bind (wpAny_load e4 ?_))
  rw [e6]
  refine wpAny_pure ?_
  show wpAny _ _ (match its[its.size]? with | some x=>_ | none=>_) _ _ _
  rw [Array.getElem?_eq_none (Nat.le_refl _)]
  refine wpAny_bind (wpAny_rule ?_)
  refine wpAny_bind (wpAny_setField e1 e3 (by simp) ?_)
  have kI:∀ c,c ≠ I->(s.heap.update I (Obj.mapFields fun x=>x.setIfInBounds 0 Value.none)).get? c = s.heap.get? c:=fun c hc=>Heap.get?_update_other _ _ (Ne.symm hc)
  exact zfe (show A.in1.handled = none from hh) fun h' e k he=>h h' e (fun b o hb q=>k b o (by rw [kI b hb]; exact q)) he
 there:=fun i h ⟨⟨o,e,_⟩,_⟩=>⟨o,e⟩
 frame:=fun i h h' ⟨⟨o,e1,e2⟩,⟨o',e3,e4⟩⟩ k=>⟨⟨o,k _ _ (.inl rfl) e1,e2⟩,⟨o',k _ _ (.inr rfl) e3,e4⟩⟩
end
end L2
set_option Elab.async false
set_option linter.all false
set_option maxRecDepth 100000
namespace L2
open PySem PySem.Spec PyProof.Rows
theorem Inv.many {X:Cx} {pins:List (Addr × Obj)} {σ:St} {H H':Hp} {s:Shared} {h':Heap} {t':Nat} (I:Inv X pins σ H s) (k:∀ b u,s.heap.get? b = some u->h'.get? b = some u)
  (old:∀ b u,s.heap.get? b = some u->H' b = H b) (same:∀ b o,H b = some o->H' b = some o) (ok:∀ b o,H' b = some o->H b = none->zaU X.prog X.w H' h' b o):Inv X pins σ H' { s with heap:=h',toks:=t' }:=by
 refine I.un ⟨fun b u q _ _ _=>k b u q,fun b u q _ _ _=>⟨u.slots,k b u q⟩,fun b u q n _=>by rw [old b u q]; exact n,fun b u q _=>⟨u,k b u q⟩,fun b xs q=>same _ _ q,fun b o u q=>same _ _ q,fun b ps q=>⟨#[],by rw [same _ _ q]; simp⟩⟩ fun b u e=>?_
 cases hb:H b with
 | none=>exact ok b u e hb
 | some o =>
  have:=same b o hb
  rw [e] at this
  cases this
  exact (I.hok b u hb).stay (fun c v _ q=>k c v q) (fun c q=>same _ _ q) fun c xs q=>same _ _ q
theorem Inv.free_of {X:Cx} {pins:List (Addr × Obj)} {σ:St} {H:Hp} {s:Shared} {a:Addr} (I:Inv X pins σ H s) (ha:s.heap.get? a = none):H a = none:=by
 cases q:H a with
 | none=>rfl
 | some u =>
  obtain ⟨ob,e⟩:∃ ob,s.heap.get? a = some ob:=by
   have x:=I.hok a u q
   cases u with
   | lst xs=>obtain ⟨_,_,_,_,e⟩:=x; exact ⟨_,e⟩
   | tup xs=>obtain ⟨_,_,_,p⟩:=x; obtain ⟨_,e,_⟩:=p; exact ⟨_,e⟩
   | dK kvs=>obtain ⟨_,_,_,_,o,_,_,e,_⟩:=x; exact ⟨_,e⟩
   | dT kvs=>obtain ⟨_,_,_,_,o,_,_,e,_⟩:=x; exact ⟨_,e⟩
   | set S n=>obtain ⟨o,_,_,_,e,_⟩:=x; exact ⟨_,e⟩
   | ins C dx fs=>obtain ⟨_,_,_,e,_⟩:=x; exact ⟨_,e⟩
   | own y=>exact x
   | xd fs=>obtain ⟨_,⟨_,_,_,e,_⟩,_⟩:=x; exact ⟨_,e⟩
   | rng lo hi=>obtain ⟨_,_,_,e⟩:=x; exact ⟨_,e⟩
   | frz ob u=>obtain ⟨e,_⟩:=x; exact ⟨_,e⟩
   | tbl ps=>exact ⟨_,(show s.heap.get? a = some _ from x)⟩
   | met f y=>exact ⟨_,(show s.heap.get? a = some _ from x)⟩
   | ext φ=>obtain ⟨_,e,_⟩:=x; exact e
  rw [ha] at e; cases e
theorem vals_refs:∀ rs:List Addr,Vals (rs.map V.ref) (rs.map Value.ref)
 | []=>.nil
 | r :: rs=>.cons rfl (vals_refs rs)
noncomputable def SrcV (K:PySem.W.Frag) (H:Hp) (x:V) (xs:List V):Prop:=(∃ p,x = .ref p∧SqT K H p xs) ∨ (∃ p,x = .ref p∧SqL K H p xs) ∨ ∃ t:Str,x = .str t∧(t.cps.all fun c=>decide (c < 128)) = true∧xs = t.cps.toList.map fun c=>V.str ⟨#[c]⟩
theorem zhB {X:Cx} {pins:List (Addr × Obj)} {σ:St} {H:Hp} {s:Shared} {x:V} {v:Value} {xs:List V} (I:Inv X pins σ H s) (r:RelV x v) (h:SrcV X.K H x xs) :
  ∃ oI:Obj,oI.isFreed = false∧(∀ (s':Shared),(∀ b o,s.heap.get? b = some o->s'.heap.get? b = some o)->∀ (A:Around) (E Q:Value->Shared->Prop),Q (.ref s'.heap.objs.size) { s' with heap:=s'.heap.push oI }->wpAny (model X.prog X.w) A (pyIter v) Q E s') ∧
   ∀ I0:Addr,s.heap.get? I0 = none->∃ (d:Addr) (P:Nat->Value->Prop) (St:Nat->Heap->Prop),(d = I0 ∨ ∃ o,s.heap.get? d = some o)∧NxSrc X.prog X.w I0 d xs.length P St∧(∀ k u,P k u->∃ y,xs[k]? = some y∧RelV y u)∧∀ h':Heap,(∀ b o,s.heap.get? b = some o->h'.get? b = some o)->h'.get? I0 = some oI->St 0 h':=by
 have back:∀ {its:List Value},Vals xs its->∀ (k:Nat) (u:Value),its.toArray[k]? = some u->∃ y,xs[k]? = some y∧RelV y u:=fun {its} rr k u hu=>by
  have hl:=rr.length
  rw [List.getElem?_toArray] at hu
  have kl:=(List.getElem?_eq_some_iff.mp hu).1
  have hx:=List.getElem?_eq_getElem (l:=xs) (i:=k) (by omega)
  obtain ⟨u',hu',ru⟩:=Vals.get rr hx
  rw [hu] at hu'
  cases hu'
  exact ⟨_,hx,ru⟩
 rcases h with ⟨p,rfl,hq⟩ | ⟨p,rfl,hq⟩ | ⟨t,rfl,ha,rfl⟩
 ·cases r
  obtain ⟨its,rr,pl,hz⟩:=I.tuple hq
  have hl:=rr.length
  obtain ⟨o,e1,e2,n,e3⟩:=id pl
  refine ⟨{ cls:=.type "tuple_iterator",data:=.fields #[.ref p,.int 0 0] },rfl,fun s' k A E Q q=>wpAny_pyIter_tuple (items:=its.toArray) ⟨o,k _ _ e1,e2,n,e3⟩ q,fun I0 n0=>⟨p,(fun k v=>its.toArray[k]? = some v),(fun k h=>h.IsTupleIter I0 p k∧h.IsTuple p its.toArray),.inr ⟨o,e1⟩,?_,fun k u hu=>back rr k u hu,fun h' k g=>⟨⟨_,g,rfl,rfl⟩,⟨o,k _ _ e1,e2,n,e3⟩⟩⟩⟩
  have:=zg2 (prog:=X.prog) (w:=X.w) (I:=I0) (t:=p) (its:=its.toArray) (fun e=>by rw [e,n0] at e1; cases e1)
  rw [List.size_toArray,← hl] at this
  exact this
 ·cases r
  obtain ⟨its,rr,pl,hz⟩:=I.list hq
  have hl:=rr.length
  obtain ⟨o,e1,e2⟩:=id pl.isList
  refine ⟨{ cls:=.type "list_iterator",data:=.fields #[.ref p,.int 0 0] },rfl,fun s' k A E Q q=>wpAny_pyIter_list (items:=its.toArray) ⟨o,k _ _ e1,e2⟩ q,fun I0 n0=>⟨p,(fun k v=>its.toArray[k]? = some v),(fun k h=>h.IsListIter I0 p k∧h.IsList p its.toArray),.inr ⟨o,e1⟩,?_,fun k u hu=>back rr k u hu,fun h' k g=>⟨⟨_,g,rfl,rfl⟩,⟨o,k _ _ e1,e2⟩⟩⟩⟩
  have:=zh8 (prog:=X.prog) (w:=X.w) (I:=I0) (l:=p) (its:=its.toArray)
  rw [List.size_toArray,← hl] at this
  exact this
 ·obtain ⟨tk,rfl⟩:=r
  refine ⟨{ cls:=.type "str_ascii_iterator",data:=.fields #[.str t tk,.int 0 0] },rfl,fun s' k A E Q q=>wpAny_pyIter_ascii ha q,fun I0 n0=>⟨I0,(fun k v=>∃ c tk,t.cps[k]? = some c∧v = .str ⟨#[c]⟩ tk),(fun k h=>h.IsStrIter I0 "str_ascii_iterator" t tk k),.inl rfl,?_,?_,fun h' k g=>⟨_,g,rfl,rfl⟩⟩⟩
  ·have:=zh9 (prog:=X.prog) (w:=X.w) (I:=I0) (x:=t) (t:=tk)
   rw [List.length_map,Array.length_toList]
   exact this
  ·rintro k u ⟨c,tk',hc,rfl⟩
   exact ⟨.str ⟨#[c]⟩,by rw [List.getElem?_map,Array.getElem?_toList,hc]; rfl,⟨tk',rfl⟩⟩
noncomputable def zet (H:Hp) (D:Addr) (rs:List Addr) (xs ys:List V):Hp:=fun c=>if c = D then some (.lst (rs.map V.ref)) else match (rs.zip (xs.zip ys)).lookup c with
 | some p=>some (.tup [p.1,p.2])
 | none=>H c
theorem look_zip:∀ {rs:List Addr} {ps:List (V × V)} {k:Nat} {r:Addr} {p:V × V},rs.Nodup->rs[k]? = some r->ps[k]? = some p->(rs.zip ps).lookup r = some p
 | [],_,_,_,_,_,h,_=>by simp at h
 | a :: rs,[],_,_,_,_,_,h=>by simp at h
 | a :: rs,b :: ps,0,r,p,nd,h1,h2=>by
  cases h1
  cases h2
  rw [List.zip_cons_cons,List.lookup_cons_self]
 | a :: rs,b :: ps,k + 1,r,p,nd,h1,h2=>by
  obtain ⟨n1,n2⟩:=List.nodup_cons.mp nd
  have m:r ∈ rs:=List.mem_of_getElem? (by simpa using h1)
  rw [List.zip_cons_cons,List.lookup_cons]
  have e:(r == a) = false:=by
   rw [beq_eq_false_iff_ne]
   intro z
   rw [z] at m
   exact n1 m
  rw [e]
  exact look_zip n2 (by simpa using h1) (by simpa using h2)
theorem look_mem:∀ {rs:List Addr} {ps:List (V × V)} {r:Addr} {p:V × V},(rs.zip ps).lookup r = some p->∃ k:Nat,rs[k]? = some r∧ps[k]? = some p
 | [],_,_,_,h=>by simp at h
 | a :: rs,[],_,_,h=>by simp at h
 | a :: rs,b :: ps,r,p,h=>by
  rw [List.zip_cons_cons,List.lookup_cons] at h
  split at h
  ·rename_i e
   cases h
   exact ⟨0,by rw [eq_of_beq e]; rfl,rfl⟩
  ·obtain ⟨k,h1,h2⟩:=look_mem h
   exact ⟨k + 1,by simpa using h1,by simpa using h2⟩
noncomputable def ze0 (K:PySem.W.Frag) (ta:TA):TE:=fun σ H Q=>ta σ H fun vs H1=>∃ x y xs ys,vs = [x,y]∧SrcV K H1 x xs∧SrcV K H1 y ys∧xs.length = ys.length∧xs.length ≤ 1000 ∧
 ∀ (D:Addr) (rs:List Addr) (H':Hp),Same H1 H'->H1 D = none->H' D = some (.lst (rs.map V.ref))->rs.length = xs.length->(∀ (k:Nat) (r:Addr) (u v:V),rs[k]? = some r->xs[k]? = some u->ys[k]? = some v->H' r = some (.tup [u,v]))->Q (.ref D) H'
section
variable {X:Cx} {e1 e2:Expr} {ta:TA} {p p1 pos pos1:Pos} {K:PySem.W.Frag}
set_option maxHeartbeats 2000000 in
theorem zee (hk:X.K = K) (hc:X.calm = true) (hg:Gl X "list") (hm:X.mg "list" = none) (hg2:Gl X "zip") (hm2:X.mg "zip" = none) (ha:PA X [e1,e2] ta)
  (hs:starEach [e1,e2] X.env = (false,eval e1 X.env) :: starEach [e2] X.env:=by rfl) (hp:(backTo pos1 (starEach [e2] X.env)).any (·.1) = false:=by rfl) :
  PE X (.Call (.Name "list" p) [.Call (.Name "zip" p1) [e1,e2] [] pos1] [] pos) (ze0 K ta):=by
 subst hk
 intro pins s σ H Q I h
 refine wpAny_Call_Name_kw (zbY I hg hm (u:=.type "list") (by decide +kernel) ?_)
 refine PyProof.Rows.callWith_type1 (Calls.spliced_cons ?_) rfl rfl
 refine wpAny_Call_Name_kw (zbY I hg2 hm2 (u:=.type "zip") (by decide +kernel) ?_)
 refine PyProof.Rows.callWith_type1 (thn (ha pos1 pins s σ H _ I h) fun us s1 ⟨vs,H1,I1,r1,x,y,xs,ys,ev,sx,sy,le,l1000,q⟩=>?_) hs hp
 subst ev
 obtain ⟨u,v,rfl,ru,rv⟩:=zif r1
 obtain ⟨oI,fI,pI,nI⟩:=zhB I1 ru sx
 obtain ⟨oJ,fJ,pJ,nJ⟩:=zhB I1 rv sy
 refine zhP fI fJ (fun A E Q q=>pI s1 (fun b o g=>g) A E Q q) (fun A E Q q=>pJ _ (fun b o g=>Heap.get?_push_of_some _ g) A E Q q) fun i j ti to z h' ei ej k gi gj ni nj nti nto nz pt po pz nd=>Calls.spliced_nil ?_
 obtain ⟨d1,P1,S1,hd1,N1,b1,st1⟩:=nI i ni
 obtain ⟨d2,P2,S2,hd2,N2,b2,st2⟩:=nJ j nj
 rw [← le] at N2
 have nd':=nd
 simp only [List.nodup_cons,List.mem_cons,List.not_mem_nil,or_false,not_or,not_false_eq_true,List.nodup_nil,and_true] at nd'
 have off:∀ {d c:Addr} {o:Obj},s1.heap.get? d = some o->s1.heap.get? c = none->d ≠ c:=fun g n e=>by rw [e,n] at g; cases g
 have t1:∃ o,h'.get? d1 = some o:=by
  rcases hd1 with rfl | ⟨o,g⟩
  ·exact ⟨_,gi⟩
  ·exact ⟨o,k _ _ g⟩
 have t2:∃ o,h'.get? d2 = some o:=by
  rcases hd2 with rfl | ⟨o,g⟩
  ·exact ⟨_,gj⟩
  ·exact ⟨o,k _ _ g⟩
 refine zdp (A:=X.A) (I1.ok.hd hc) N1 N2 nd ?_ ?_ (by obtain ⟨o,g⟩:=t1; exact Heap.lt_size g) (by obtain ⟨o,g⟩:=t2; exact Heap.lt_size g) l1000 pz pt po (st1 h' k gi) (st2 h' k gj) fun D rs h2 tk e hD gD lr M K2=>?_
 ·simp only [List.mem_cons,List.not_mem_nil,or_false,not_or]
  rcases hd1 with rfl | ⟨o,g⟩
  ·exact ⟨nd'.1.1,nd'.1.2.2.1,nd'.1.2.2.2⟩
  ·exact ⟨off g nj,off g nto,off g nz⟩
 ·simp only [List.mem_cons,List.not_mem_nil,or_false,not_or]
  rcases hd2 with rfl | ⟨o,g⟩
  ·exact ⟨fun z=>nd'.1.1 z.symm,nd'.2.1.2.1,nd'.2.1.2.2⟩
  ·exact ⟨off g ni,off g nto,off g nz⟩
 ·have D0:s1.heap.get? D = none:=by
   cases g:s1.heap.get? D with
   | none=>rfl
   | some o =>
    have hD2:h'.get? D = none:=hD
    rw [k _ _ g] at hD2; cases hD2
  have r0:∀ r ∈ rs,s1.heap.get? r = none:=fun r hr=>by
   obtain ⟨m,hm'⟩:=List.mem_iff_getElem?.mp hr
   have g0:h'.get? r = none:=(M.at_ m r hm').1
   cases g:s1.heap.get? r with
   | none=>rfl
   | some o=>rw [k _ _ g] at g0; cases g0
  have kk:∀ b u,s1.heap.get? b = some u->h2.get? b = some u:=fun b u g=>K2 b u (by
   simp only [List.mem_cons,List.not_mem_nil,or_false,not_or]
   exact ⟨off g nz,off g nto,off g ni,off g nj⟩) (k b u g)
  have miss:∀ b,b ≠ D->b ∉ rs->zet H1 D rs xs ys b = H1 b:=fun b n1 n2=>by
   unfold zet
   rw [if_neg n1]
   cases g:(rs.zip (xs.zip ys)).lookup b with
   | none=>rfl
   | some p =>
    obtain ⟨m,hm',_⟩:=look_mem g
    exact absurd (List.mem_of_getElem? hm') n2
  have same:∀ b o,H1 b = some o->zet H1 D rs xs ys b = some o:=fun b o g=>by
   rw [miss b (fun e=>by rw [e,I1.free_of D0] at g; cases g) (fun m=>by rw [I1.free_of (r0 b m)] at g; cases g)]
   exact g
  refine ⟨.ref D,zet H1 D rs xs ys,I1.many kk (fun b u g=>miss b (off g D0) (fun m=>by rw [r0 b m] at g; cases g)) same (fun b o g n=>?_),rfl,q D rs _ same (I1.free_of D0) (by unfold zet; rw [if_pos rfl]) lr fun m r u' v' h1 h2' h3=>?_⟩
  ·unfold zet at g
   by_cases eb:b = D
   ·rw [if_pos eb] at g
    cases g
    rw [eb]
    exact ⟨by rw [List.length_map,sizeLine_eq]; omega,rs.map Value.ref,e,vals_refs rs,gD⟩
   ·rw [if_neg eb] at g
    cases gl:(rs.zip (xs.zip ys)).lookup b with
    | none=>rw [gl] at g; rw [n] at g; cases g
    | some pr =>
     rw [gl] at g
     cases g
     obtain ⟨m,hm1,hm2'⟩:=look_mem gl
     obtain ⟨_,_,v1,u1,q1,q2,q3⟩:=M.at_ m b hm1
     obtain ⟨y1,hy1,ry1⟩:=b1 m v1 q1
     obtain ⟨y2,hy2,ry2⟩:=b2 m u1 q2
     rw [List.getElem?_zip_eq_some] at hm2'
     rw [hy1] at hm2'
     rw [hy2] at hm2'
     obtain ⟨h1,h2'⟩:=hm2'
     cases h1
     cases h2'
     exact ⟨by rw [sizeLine_eq]; simp,[v1,u1],.cons ry1 (.cons ry2 .nil),⟨_,q3,rfl,_,rfl⟩⟩
  ·unfold zet
   rw [if_neg (M.at_ m r h1).2.1,look_zip (p:=(u',v')) M.nd h1 (List.getElem?_zip_eq_some.mpr ⟨h2',h3⟩)]
end
theorem vals_signs:∀ {cs:List Nat} {us:List Value},us.length = cs.length->(∀ (k:Nat) (v:Value),us[k]? = some v->∃ c u,cs[k]? = some c∧v = .str ⟨#[c]⟩ u)->Vals (cs.map fun c=>V.str ⟨#[c]⟩) us
 | [],[],_,_=>.nil
 | [],u :: us,h,_=>by simp at h
 | c :: cs,[],h,_=>by simp at h
 | c :: cs,u :: us,h,k=>by
  obtain ⟨c',t,e1,e2⟩:=k 0 u rfl
  cases e1
  exact .cons ⟨t,e2⟩ (vals_signs (by simpa using h) fun j v hv=>by
   obtain ⟨c2,t2,g1,g2⟩:=k (j + 1) v (by simpa using hv)
   exact ⟨c2,t2,by simpa using g1,g2⟩)
theorem zbH {X:Cx} (hc:X.calm = true):zbt X (.type "list") (fun xs H Q=>∃ t:Str,xs = [.str t]∧t.cps.size ≤ 1000∧∀ l,H l = none->Q (.ref l) (upd H l (.lst (t.cps.toList.map fun c=>V.str ⟨#[c]⟩)))):=by
 intro pins s σ H xs us Q I r h
 obtain ⟨t,rfl,hz,q⟩:=h
 obtain ⟨u,rfl,tk,rfl⟩:=zcn r
 refine call_list_str (I.ok.hd hc) t tk (fun h' tk' acc c' k g hi=>?_) (by rw [sizeLine_eq]; omega)
 refine ⟨.ref s.heap.objs.size,_,I.laid (t':=tk') (o:=.lst (t.cps.toList.map fun c=>V.str ⟨#[c]⟩)) k (Nat.le_refl _) ?_,rfl,q _ (I.hok.fresh (Nat.le_refl _))⟩
 refine ⟨by rw [List.length_map,Array.length_toList,sizeLine_eq]; omega,acc.toList,c',vals_signs (by rw [Array.length_toList,Array.length_toList]; exact hi.1) (fun j v hv=>?_),by rw [Array.toArray_toList]; exact g⟩
 rw [Array.getElem?_toList] at hv
 obtain ⟨c,u,h1,h2⟩:=hi.2 j v hv
 exact ⟨c,u,by rw [Array.getElem?_toList]; exact h1,h2⟩
end L2
set_option Elab.async false
set_option linter.all false
namespace L2
open PySem
theorem zem {X:Cx} {i:Nat} {x:Str} {ks:List (Option Expr)} {vs:List Expr} {trs:List (TE × TE)} {pos pos' p:Pos} (hN:X.N.Nodup) (hi:X.N[i]? = some x) (hx:Loc X.env.scope x) (he:PPs X p ks vs trs) (h1:ks.all (·.isSome) = true) (h2:ks.length = vs.length) (h3:ks ≠ []) (h4:ks.length ≤ 15) (hf:X.fn x = true ∨ X.env.scope.names.lookup x = some .local:=by first | exact .inl rfl | exact .inr rfl | assumption) :
  PS X (.Assign [.Name x pos'] (.Dict ks vs p) pos) (tAsg (zdf trs) (zcJ i)):=zaw hN hi hx (zcR he h1 h2 h3 h4) rfl hf
theorem for2 {ta:TA} {g:TG} {tb:TS} {D:Ends} {σ:St} {H H1:Hp} (lo hi:Int) (hr:∀ Q,Q [.int lo,.int hi] H1->ta σ H Q) (bd:-(2 ^ 62) ≤ lo∧lo < 2 ^ 62∧-(2 ^ 62) ≤ hi∧hi < 2 ^ 62) (Pv:Nat->St->Hp->Prop) (h0:Pv 0 σ H1)
  (hs:∀ i σ H,i < (hi - lo).toNat->Pv i σ H->g (.int (lo + i)) σ H fun σ2 H2=>tb { D with nx:=Pv (i + 1),ct:=Pv (i + 1),bk:=D.nx } σ2 H2) (hd:∀ σ H,Pv (hi - lo).toNat σ H->D.nx σ H) :
  tFor (zib ta) g tb D σ H:=hr _ ⟨lo,hi,rfl,bd,zd9 Pv h0 hs hd⟩
theorem comp2 {cap:List (Option Nat)} {ta:TA} {g:TG} {tt:TT} {te:TE} {σ:St} {H H1:Hp} {Q:VK} (lo hi:Int) (hr:∀ Q,Q [.int lo,.int hi] H1->ta σ H Q) (bd:-(2 ^ 62) ≤ lo∧lo < 2 ^ 62∧-(2 ^ 62) ≤ hi∧hi < 2 ^ 62) (Pv:Addr->Nat->List V->Hp->Prop) (h0:∀ D,H1 D = none->Pv D 0 [] (upd H1 D (.lst [])))
  (hl:∀ D,H1 D = none->∀ i ys H,i ≤ (hi - lo).toNat->Pv D i ys H->H D = some (.lst ys)∧ys.length ≤ i) (hz:(hi - lo).toNat ≤ sizeLine)
  (hs:∀ D,H1 D = none->∀ i ys H,i < (hi - lo).toNat->Pv D i ys H->g (.int (lo + i)) (zaG cap σ) H fun σ4 H4=>tt σ4 H4 fun b H5=>if b = true then te σ4 H5 fun y H6=>H6 D = some (.lst ys)∧Pv D (i + 1) (ys ++ [y]) (upd H6 D (.lst (ys ++ [y]))) else Pv D (i + 1) ys H5)
  (hd:∀ D,H1 D = none->∀ ys H,Pv D (hi - lo).toNat ys H->Q (.ref D) H):zbJ cap (zib ta) g tt te σ H Q:=hr _ ⟨lo,hi,rfl,bd,fun D hD=>zc4 (R:=fun H=>Q (.ref D) H) (Pv D) (h0 D hD) (hl D hD) hz (hs D hD) (hd D hD)⟩
theorem zhM {K:PySem.W.Frag} {cap:List (Option Nat)} {ta:TA} {g:TG} {tt:TT} {te:TE} {σ:St} {H H1:Hp} {Q:VK} (l:Addr) (xs:List V) (hr:∀ Q,Q [.ref l] H1->ta σ H Q) (hq:SqL K H1 l xs) (Pv:Addr->Nat->List V->Hp->Prop) (h0:∀ D,H1 D = none->Pv D 0 [] (upd H1 D (.lst [])))
  (hl:∀ D,H1 D = none->∀ i ys H,i ≤ xs.length->Pv D i ys H->SqL K H l xs∧H D = some (.lst ys)∧ys.length ≤ i) (hz:xs.length ≤ sizeLine)
  (hs:∀ D,H1 D = none->∀ i x p ys H,xs[i]? = some x->Pv D i ys H->H p = none->g (.ref p) (zaG cap σ) (upd H p (.tup [.int i,x])) fun σ4 H4=>tt σ4 H4 fun b H5=>if b = true then te σ4 H5 fun y H6=>H6 D = some (.lst ys)∧Pv D (i + 1) (ys ++ [y]) (upd H6 D (.lst (ys ++ [y]))) else Pv D (i + 1) ys H5)
  (hd:∀ D,H1 D = none->∀ ys H,Pv D xs.length ys H->Q (.ref D) H):zbJ cap (zik K ta) g tt te σ H Q:=by
 refine hr _ ⟨l,rfl,⟨xs,hq⟩,fun D hD=>?_⟩
 refine ⟨fun i m ys H=>m = xs.length - i∧i ≤ xs.length∧Pv D i ys H,⟨xs.length,by simp,Nat.zero_le _,h0 D hD⟩,?_⟩
 rintro i m ys H ⟨rfl,hi,p⟩
 obtain ⟨q,e,le⟩:=hl D hD i ys H hi p
 refine ⟨e,?_⟩
 by_cases c:i < xs.length
 ·refine .inr ⟨⟨xs,xs[i],q,List.getElem?_eq_getElem c⟩,by omega,Pv D (i + 1),fun ys' H' p'=>⟨xs.length - (i + 1),by omega,rfl,c,p'⟩,fun x H' y=>?_⟩
  obtain ⟨pp,x',rfl,hn,rfl,hx⟩:=y
  exact hs D hD i x' pp ys H (hx xs q) p hn
 ·have e:i = xs.length:=by omega
  subst e
  exact .inl ⟨⟨xs,q,Nat.le_refl _⟩,hd D hD _ _ p⟩
noncomputable def rInP (neg:Bool):R2:=fun x y H Q=>∃ (dx:PyData) (ds:List PyData),RepD H x dx∧RepD H y (.list ds)∧SeqAt.shaped dx = true∧SeqAt.shaped (.list ds) = true∧Q (.bl (if neg then !(ds.any fun d=>d.eqv dx) else ds.any fun d=>d.eqv dx)) H
section
variable {X:Cx}
theorem zdT (hu:X.A.units + 64 < cLine):OpR X (compareOp .NotIn) (rInP true):=by
 intro pins s σ H x y v u Q I rx ry h
 obtain ⟨dx,ds,r1,r2,s1,s2,q⟩:=h
 obtain ⟨as,q1⟩:=r1.reads I.hok rx
 obtain ⟨bs,q2⟩:=r2.reads I.hok ry
 unfold SeqAt.shaped at s1 s2
 rw [Bool.and_eq_true,decide_eq_true_eq] at s1 s2
 obtain ⟨c1,d1⟩:=s1
 obtain ⟨c2,d2⟩:=s2
 rw [PyData.canLay0] at c2
 rw [PyData.depth] at d2
 cases q2 with
 | list g1 g2 g3 ra =>
  rename_i a o vs n as'
  refine SeqAt.notIn_listAt (fun y=>(SeqAt.readOf s.heap y).eqv dx) ⟨o,g1,g2,n,g3⟩ (SeqAt.items_eqAt ra q1 c2 c1 (by omega)) ⟨.bl _,H,I,rfl,?_⟩
  rw [SeqAt.any_by_data ra c2]
  exact q
end
theorem zgy {X:Cx} {i:Nat} {x:Str} {ks:List (Option Expr)} {vs:List Expr} {trs:List (TE × TE)} {e f:Expr} {te tf:TE} {pos pos' p ap cp:Pos} (hu:X.A.units + 1 < cLine) (hN:X.N.Nodup) (hi:X.N[i]? = some x) (hx:Loc X.env.scope x) (he:PPs X p ks vs trs) (h1:ks.all (·.isSome) = true) (h2:ks.length = vs.length) (h3:ks ≠ []) (h4:ks.length ≤ 15) (hk:PE X e te) (hd:PE X f tf) (m:M2 X (.Dict ks vs p) "get" ap e f cp) (hf:X.fn x = true ∨ X.env.scope.names.lookup x = some .local:=by first | exact .inl rfl | exact .inr rfl | assumption) :
  PS X (.Assign [.Name x pos'] (.Call (.Attribute (.Dict ks vs p) "get" ap) [e,f] [] cp) pos) (tAsg (zdO (zdf trs) te tf) (zcJ i)):=zaw hN hi hx (zdB hu (zcR he h1 h2 h3 h4) hk hd m) rfl hf
end L2
set_option Elab.async false
set_option linter.all false
set_option maxRecDepth 100000
namespace L2
open PySem PySem.Spec PyProof.Rows
section
variable {prog:Program} {w:World} {A:Around}
end
section
variable {X:Cx}
end
end L2
set_option Elab.async false
set_option linter.all false
set_option maxRecDepth 100000
namespace HT
open PySem PySem.Spec PyProof.Rows
section
variable {prog:Program} {w:World} {A:Around} {E:Value->Shared->Prop} {s:Shared}
end
end HT
namespace L2
open PySem PySem.Spec PyProof.Rows
section
variable {X:Cx}
end
inductive All2 {α β:Type} (R:α->β->Prop):List α->List β->Prop
 | nil:All2 R [] []
 | cons {a b as bs} (h:R a b) (t:All2 R as bs):All2 R (a :: as) (b :: bs)
namespace All2
variable {α β:Type} {R S:α->β->Prop}
theorem len {as:List α} {bs:List β} (h:All2 R as bs):as.length = bs.length:=by
 induction h with
 | nil=>rfl
 | cons _ _ ih=>simp [ih]
theorem imp (f:∀ a b,R a b->S a b) {as:List α} {bs:List β} (h:All2 R as bs):All2 S as bs:=by
 induction h with
 | nil=>exact .nil
 | cons h _ ih=>exact .cons (f _ _ h) ih
theorem append {as as':List α} {bs bs':List β} (h:All2 R as bs) (h':All2 R as' bs'):All2 R (as ++ as') (bs ++ bs'):=by
 induction h with
 | nil=>exact h'
 | cons h _ ih=>exact .cons h ih
theorem take {as:List α} {bs:List β} (h:All2 R as bs):∀ n,All2 R (as.take n) (bs.take n):=by
 induction h with
 | nil=>intro n; simp; exact .nil
 | cons h _ ih =>
  intro n
  cases n with
  | zero=>exact .nil
  | succ n=>exact .cons h (ih n)
theorem drop {as:List α} {bs:List β} (h:All2 R as bs):∀ n,All2 R (as.drop n) (bs.drop n):=by
 induction h with
 | nil=>intro n; simp; exact .nil
 | cons h t ih =>
  intro n
  cases n with
  | zero=>exact .cons h t
  | succ n=>exact ih n
theorem get {as:List α} {bs:List β} (h:All2 R as bs):∀ (i:Nat) (a:α) (b:β),as[i]? = some a->bs[i]? = some b->R a b:=by
 induction h with
 | nil=>intro i a b e; simp at e
 | cons h _ ih =>
  intro i a b e1 e2
  cases i with
  | zero=>cases e1; cases e2; exact h
  | succ i=>exact ih i a b e1 e2
theorem rep {a:α} {b:β} (h:R a b):∀ n,All2 R (List.replicate n a) (List.replicate n b)
 | 0=>.nil
 | n + 1=>.cons h (rep h n)
theorem mem {as:List α} {bs:List β} (h:All2 R as bs) {a:α} (m:a ∈ as):∃ b ∈ bs,R a b:=by
 induction h with
 | nil=>cases m
 | cons h _ ih =>
  rcases List.mem_cons.mp m with rfl | m
  ·exact ⟨_,List.mem_cons_self,h⟩
  ·obtain ⟨b,mb,r⟩:=ih m
   exact ⟨b,List.mem_cons_of_mem _ mb,r⟩
end All2
end L2
set_option Elab.async false
set_option linter.all false
set_option maxRecDepth 100000
namespace L2
open PySem PySem.Spec PyProof.Rows
section
variable {X:Cx} {CX:CXT} {k:Nat} {E:XK} {p pos spos:Pos} {e i o:Expr} {es:List Expr} {tk:TE} {t:TA} {g:Addr}
end
theorem toNat_inj {a b:Char} (h:a.toNat = b.toNat):a = b:=Char.ext (UInt32.toNat_inj.mp h)
theorem map_toNat_inj:∀ {l k:List Char},l.map Char.toNat = k.map Char.toNat->l = k
 | [],[],_=>rfl
 | [],_ :: _,h=>by simp at h
 | _ :: _,[],h=>by simp at h
 | a :: l,b :: k,h=>by
  rw [List.map_cons,List.map_cons,List.cons.injEq] at h
  rw [toNat_inj h.1,map_toNat_inj h.2]
theorem zcP {a b:String}:(Str.ofString a = Str.ofString b) = (a = b):=by
 refine propext ⟨fun h=>?_,fun h=>by rw [h]⟩
 rw [Str.ofString_eq_byList] at h
 unfold Str.ofStringByList at h
 have h2:=congrArg Str.cps h
 have h3:(a.toList.map Char.toNat) = (b.toList.map Char.toNat):=by
  have:=congrArg Array.toList h2
  simpa using this
 exact String.toList_inj.mp (map_toNat_inj h3)
end L2
set_option Elab.async false
set_option linter.all false
set_option maxRecDepth 100000
namespace HT
open PySem PySem.Spec PyProof.Rows
end HT
namespace L2
open PySem PySem.Spec PyProof.Rows
section
variable {X:Cx}
end
end L2
set_option Elab.async false
set_option linter.all false
set_option maxRecDepth 100000
namespace HT
open PySem PySem.Spec PyProof.Rows PySem.W
section
variable {prog:Program} {w:World} {A:Around} {E:Value->Shared->Prop} {h:Heap} {g:Array GenState} {d:Drawn} {t:Nat} {os:OsState} {a C:Addr} {o:Obj} {K:Frag}
end
end HT
namespace L2
open PySem PySem.Spec PyProof.Rows
section
variable {X:Cx} {pins:List (Addr × Obj)} {σ:St} {H:Hp} {s:Shared}
end
section
variable {X:Cx}
end
end L2
set_option Elab.async false
set_option linter.all false
set_option maxRecDepth 100000
namespace L2
open PySem PySem.Spec PyProof.Rows
section
variable {X:Cx} {tg:Expr}
end
end L2
set_option Elab.async false
set_option linter.all false
set_option maxRecDepth 100000
namespace L2
open PySem PySem.Spec PyProof.Rows
section
variable {prog:Program} {w:World} {A:Around} {E:Value->Shared->Prop} {s:Shared}
end
end L2
set_option Elab.async false
set_option linter.all false
set_option maxRecDepth 100000
namespace L2
open PySem PySem.Spec PyProof.Rows
section
variable {X:Cx} {pins:List (Addr × Obj)} {σ:St} {H:Hp} {s:Shared}
end
section
variable {X:Cx} {tg:Expr}
end
end L2
set_option Elab.async false
set_option linter.all false
set_option maxRecDepth 100000
namespace L2
open PySem PySem.Spec PyProof.Rows
section
variable {X:Cx}
end
end L2
set_option Elab.async false
set_option linter.all false
set_option maxRecDepth 100000
namespace L2
open PySem PySem.Spec PyProof.Rows
section
variable {X:Cx}
noncomputable def rUpdate:V->List V->Hp->VK->Prop:=fun x vs H Q=>∃ d e ks more,x = .ref d∧vs = [.ref e]∧d ≠ e∧H d = some (.dK ks)∧H e = some (.dK more)∧ks.length + more.length ≤ 1000∧Q .non (upd H d (.dK (zbb ks more)))
theorem mt_update:MtM X "dict.update" rUpdate:=by
 intro pins s σ H x vs v us Q I rx rv h
 obtain ⟨d,e,ks,more,rfl,rfl,ne,hd,he,hz,q⟩:=h
 cases rx
 obtain ⟨u,rfl,ru⟩:=rv.one
 cases ru
 obtain ⟨z1,y1,vs1,r1,m1⟩:=zg9 I.hok hd
 obtain ⟨z2,y2,vs2,r2,m2⟩:=zg9 I.hok he
 have n1:=r1.length
 have n2:=r2.length
 have zz:(zbb ks more).length ≤ sizeLine:=by have:=length_mergeK more ks; rw [sizeLine_eq]; omega
 refine call_meetsIn F.slot_dict_update m1.typeIs F.entry_dict_update (F.args_dict_update_2 _ _) (meets_dict_update (zaM X.prog X.w) d e ne y2) ⟨vs1,vs2,m1,m2,by rw [sizeLine_eq]; omega,fun h' g1 _ g3=>?_⟩
 have there:∃ o,h'.get? d = some o:=let ⟨o,_,_,ho,_⟩:=g1; ⟨o,ho⟩
 exact ⟨.non,_,zdx I (by rw [hd]; exact True.intro) g3 there (zgm zz y1 (r2.merge r1) g1),rfl,q⟩
end
section
variable {prog:Program} {w:World} {A:Around} {E:Value->Shared->Prop} {s:Shared}
end
section
variable {X:Cx}
end
end L2
set_option Elab.async false
set_option linter.all false
set_option maxRecDepth 100000
namespace L2
namespace STb
open PySem
noncomputable def f5 (N i:Nat):Nat:=(i * 5 + 1) % N
theorem zcx {xs:Array Nat} {j:Nat} (up:xs.toList.Pairwise (· < ·)):∀ (n lo hi:Nat),hi - lo ≤ n->lo ≤ hi->hi ≤ xs.size->(∀ k,k < lo->xs.getD k j < j)->(∀ k,hi ≤ k->k < xs.size->j ≤ xs.getD k j) ->
  SetTable.below.go xs j n lo hi ≤ xs.size∧(∀ k,k < SetTable.below.go xs j n lo hi->xs.getD k j < j)∧∀ k,SetTable.below.go xs j n lo hi ≤ k->k < xs.size->j ≤ xs.getD k j:=by
 have gt:∀ a b,a < b->b < xs.size->xs.getD a j < xs.getD b j:=fun a b h1 h2=>by
  have:=List.pairwise_iff_getElem.mp up a b (by rw [Array.length_toList]; omega) (by rw [Array.length_toList]; omega) h1
  simpa [Array.getD,h2,Nat.lt_trans h1 h2] using this
 intro n
 induction n with
 | zero =>
  intro lo hi h1 h2 h3 h4 h5
  unfold SetTable.below.go
  exact ⟨by omega,h4,fun k hk=>h5 k (by omega)⟩
 | succ n ih =>
  intro lo hi h1 h2 h3 h4 h5
  unfold SetTable.below.go
  by_cases c:lo < hi
  ·rw [if_pos c]
   dsimp only
   by_cases d:xs.getD ((lo + hi) / 2) j < j
   ·rw [if_pos d]
    refine ih _ _ (by omega) (by omega) h3 (fun k hk=>?_) h5
    by_cases e:k = (lo + hi) / 2
    ·rw [e]; exact d
    ·exact Nat.lt_trans (gt k ((lo + hi) / 2) (by omega) (by omega)) d
   ·rw [if_neg d]
    refine ih _ _ (by omega) (by omega) (by omega) h4 (fun k hk hk2=>?_)
    by_cases e:k = (lo + hi) / 2
    ·rw [e]; omega
    ·have:=gt ((lo + hi) / 2) k (by omega) hk2
     omega
  ·rw [if_neg c]
   exact ⟨by omega,h4,fun k hk=>h5 k (by omega)⟩
noncomputable def pos (t:SetTable):Nat->SetTable.Probe->SetTable.Probe
 | 0,p=>p
 | a + 1,p=>pos t a (t.advance p)
structure POk (t:SetTable) (p:SetTable.Probe):Prop where
 i:p.i ≤ t.mask
 j:p.j + p.more ≤ t.mask
 d:p.dummy = none
 m:p.more ≤ 9
section
variable {prog:Program} {w:World} {A:Around} {E:Value->Shared->Prop} {s:Shared}
end
section
variable {prog:Program} {w:World} {A:Around} {R:Result->Shared->Prop} {I:Addr} {fp wr:List Addr} {G:Array GenState->Array GenState->Prop} {n:Nat} {P:Nat->Value->Prop} {St:Nat->Shared->Prop}
end
section
variable {prog:Program} {w:World} {A:Around} {E:Value->Shared->Prop} {s:Shared}
end
end STb
open PySem PySem.Spec PyProof.Rows STb
section
variable {X:Cx}
end
end L2
set_option Elab.async false
set_option linter.all false
set_option maxRecDepth 100000
namespace L2
open PySem PySem.Spec PyProof.Rows
end L2
set_option Elab.async false
set_option linter.all false
set_option maxRecDepth 100000
namespace L2
open PySem PySem.Spec PyProof.Rows
section
variable {X:Cx}
end
theorem join_list (c:Nat):∀ (x:Str) (zs:List Str),(Str.join ⟨#[c]⟩ (x :: zs)).cps.toList = x.cps.toList ++ zs.flatMap fun z=>c :: z.cps.toList
 | x,[]=>by simp [Str.join]
 | x,y :: zs=>by
  show (x ++ ⟨#[c]⟩ ++ Str.join ⟨#[c]⟩ (y :: zs)).cps.toList = _
  have e:(x ++ ⟨#[c]⟩ ++ Str.join ⟨#[c]⟩ (y :: zs)).cps.toList = x.cps.toList ++ [c] ++ (Str.join ⟨#[c]⟩ (y :: zs)).cps.toList:=by
   show ((x.cps ++ #[c]) ++ (Str.join ⟨#[c]⟩ (y :: zs)).cps).toList = _
   simp
  rw [e,join_list c y zs]
  simp
end L2
set_option Elab.async false
set_option linter.all false
set_option maxRecDepth 100000
namespace L2
open PySem PySem.Spec PyProof.Rows
section
variable {X:Cx}
end
end L2
set_option Elab.async false
set_option linter.all false
set_option maxRecDepth 100000
namespace L2
open PySem PySem.Spec PyProof.Rows
section
variable {M:Model} {A:Around} {E:Value->Shared->Prop} {s:Shared}
end
section
variable {P:Program} {w:World} {K:PySem.W.Frag} {mg:Str->Option Value} {base:Heap} {N:List Str} {qual:Str} {scope:Scope} {f:Addr} {cd:Value} {A:Around} {outer:List Env} {s₀:Shared} {H₀:Hp} {E:XK}
end
section
variable {X:Cx} {pins:List (Addr × Obj)} {σ:St} {H:Hp} {s:Shared} {scope:Scope} {N':List Str} {cap:List (Option Nat)}
end
end L2
set_option Elab.async false
set_option linter.all false
set_option maxRecDepth 100000
namespace L2
theorem lq1 (us:List PySem.Value) (h:us.length=1):∃ a,us=[a]:=by
 cases us with
 | nil=>cases h
 | cons a us=>cases us with
  | nil=>exact ⟨a,rfl⟩
  | cons b us=>exact absurd h (by simp)
theorem lqS {n:Nat} (us:List PySem.Value) (h:us.length=n+1):∃ a vs,us=a::vs∧vs.length=n:=by
 cases us with
 | nil=>cases h
 | cons a us=>exact ⟨a,us,rfl,Nat.succ.inj h⟩
theorem lq2 (us:List PySem.Value) (h:us.length=2):∃ a b,us=[a,b]:=by
 obtain ⟨a,vs,rfl,q⟩:=lqS us h
 obtain ⟨b,rfl⟩:=lq1 vs q
 exact ⟨a,b,rfl⟩
theorem lq3 (us:List PySem.Value) (h:us.length=3):∃ a b c,us=[a,b,c]:=by
 obtain ⟨a,vs,rfl,q⟩:=lqS us h
 obtain ⟨b,c,rfl⟩:=lq2 vs q
 exact ⟨a,b,c,rfl⟩
theorem lq4 (us:List PySem.Value) (h:us.length=4):∃ a b c d,us=[a,b,c,d]:=by
 obtain ⟨a,vs,rfl,q⟩:=lqS us h
 obtain ⟨b,c,d,rfl⟩:=lq3 vs q
 exact ⟨a,b,c,d,rfl⟩
theorem lq5 (us:List PySem.Value) (h:us.length=5):∃ a b c d e,us=[a,b,c,d,e]:=by
 obtain ⟨a,vs,rfl,q⟩:=lqS us h
 obtain ⟨b,c,d,e,rfl⟩:=lq4 vs q
 exact ⟨a,b,c,d,e,rfl⟩
theorem lq6 (us:List PySem.Value) (h:us.length=6):∃ a b c d e f,us=[a,b,c,d,e,f]:=by
 obtain ⟨a,vs,rfl,q⟩:=lqS us h
 obtain ⟨b,c,d,e,f,rfl⟩:=lq5 vs q
 exact ⟨a,b,c,d,e,f,rfl⟩
end L2
namespace Law
open PySem L2
local macro_rules | `(tactic| simp! [$ls,*])=>`(tactic| simp only [tSeq,tAsg,zcJ,tVar,tC,tOp,tUn,rI0,rI,rU,tCB,zcp,tNil,tRet,tRetN,tIfS,zgK,tB,tAnd,tOr,tNot,ziw,tOrV,tNotV,tIf,zd6,tNext,zgb,tMeth,tIsN,zhF,L2.start,List.map_cons,List.map_nil,List.length_cons,List.length_nil,List.nil_append,List.cons_append,List.append_nil,Nat.reduceAdd,Nat.reduceSub,Nat.sub_self,List.replicate_succ,List.replicate_zero,List.set_cons_zero,List.set_cons_succ,List.getElem?_cons_zero,List.getElem?_cons_succ,Option.some.injEq,V.int.injEq,V.bl.injEq,V.str.injEq,V.ref.injEq,List.cons.injEq,exists_eq_left',exists_eq_left,exists_and_left,and_true,true_and,if_true,if_false,ite_true,ite_false,Bool.true_eq_false,Bool.false_eq_true,decide_eq_true_eq,Bool.not_true,Bool.not_false,Bool.not_eq_true',decide_eq_false_iff_not,reduceCtorEq,false_and,and_false,exists_false,tTup,tLst,sizeLine_eq,Nat.reduceLeDiff,Nat.zero_le,rEq,rNe,rIxF,rEqF,gSub,rSetL,HO.lst.injEq,HO.tup.injEq,HO.ins.injEq,HO.dK.injEq,zgM,zhL,zgI,zhX,zh5,ziS,zhC,zhE,zgY,zhN,zhg,zh4,zic,zh3,ziP,zdD,zgH,zhf,zgJ,zgO,zgQ,zf5,zf8,zfH,isTys,and_assoc,zcZ,za8,zb1,zgD,zie,zaa,V.ty.injEq,eq_self_iff_true,and_self,String.reduceEq,or_false,or_true,false_or,true_or,Bool.or_true,Bool.or_false,Bool.true_or,Bool.false_or,Bool.and_false,Bool.false_and,Bool.and_true,Bool.true_and,String.reduceBEq,beq_self_eq_true,zhn,tDInF,zdk,zfM,zfO,zf9,sFld,tFld,tDNewK,ziA,zij,EX,tFstr,tMake,zis,Nat.reduceLT,Option.join_some,Option.join_none,not_true_eq_false,not_false_eq_true,zhG,gNil,zig,rEqE,tAug,ipI,$ls,*])
noncomputable def kd_WRITERS:PyData:=.tuple [.str "put",.str "nil",.str "copy",.str "plus",.str "less",.str "make",.str "fetch",.str "read",.str "into",.str "look",.str "call"]
noncomputable def kd_USES:PyData:=.dict [(.str "put",.tuple []),(.str "nil",.tuple []),(.str "copy",.tuple []),(.str "plus",.tuple [.tuple [.int (2),.str "n"],.tuple [.int (3),.str "n"]]),(.str "less",.tuple [.tuple [.int (2),.str "n"],.tuple [.int (3),.str "n"]]),(.str "make",.tuple []),(.str "fetch",.tuple [.tuple [.int (2),.str "h"]]),(.str "read",.tuple [.tuple [.int (2),.str "h"]]),(.str "hang",.tuple [.tuple [.int (1),.str "h"],.tuple [.int (3),.str "h"]]),(.str "write",.tuple [.tuple [.int (1),.str "h"],.tuple [.int (3),.str "n"]]),(.str "into",.tuple [.tuple [.int (2),.str "h"]]),(.str "jump",.tuple []),(.str "zero",.tuple [.tuple [.int (1),.str "n"]]),(.str "none",.tuple [.tuple [.int (1),.str "h"]]),(.str "same",.tuple [.tuple [.int (1),.str "h"],.tuple [.int (2),.str "h"]]),(.str "tell",.tuple [.tuple [.int (1),.str "n"]]),(.str "rest",.tuple [])]
noncomputable def kd_GAINS:PyData:=.dict [(.str "put",.str "n"),(.str "nil",.str "h"),(.str "plus",.str "n"),(.str "less",.str "n"),(.str "make",.str "h"),(.str "fetch",.str "h"),(.str "read",.str "n"),(.str "look",.str "n")]
noncomputable def top (i : Nat) : Stmt := PySem.Challenge.pw_knownholds_k36_the_first_fault.main.body.getD i (.Pass ⟨0, 0, 0, 0⟩)
noncomputable abbrev s_nexts:Stmt:=top 4
noncomputable abbrev s_uses:Stmt:=top 5
noncomputable abbrev s_writes:Stmt:=top 6
noncomputable abbrev s_is_stop:Stmt:=top 7
noncomputable abbrev s_places_of:Stmt:=top 8
noncomputable abbrev s_reached:Stmt:=top 9
noncomputable abbrev s_is_spot:Stmt:=top 12
noncomputable abbrev s_tables_of:Stmt:=top 13
noncomputable abbrev s_first_kinds:Stmt:=top 14
noncomputable abbrev s_is_lost_at_call:Stmt:=top 15
noncomputable abbrev s_is_lost_at_table:Stmt:=top 16
noncomputable abbrev s_gained:Stmt:=top 17
noncomputable abbrev s_behind:Stmt:=top 18
noncomputable abbrev s_shared:Stmt:=top 19
noncomputable abbrev s_kinds_of:Stmt:=top 20
noncomputable abbrev s_dues_at:Stmt:=top 22
noncomputable abbrev s_meets_more:Stmt:=top 23
noncomputable abbrev s_spoiling_way:Stmt:=top 24
noncomputable abbrev s_fault_of:Stmt:=top 25
noncomputable abbrev s_fault:Stmt:=top 26
noncomputable abbrev s_law_bag:Stmt:=top 28
noncomputable abbrev s_law_draw:Stmt:=top 29
noncomputable abbrev s_law_nexts:Stmt:=top 30
noncomputable abbrev s_law_writes:Stmt:=top 31
noncomputable abbrev s_law_uses:Stmt:=top 32
noncomputable abbrev s_law_first:Stmt:=top 33
noncomputable abbrev s_law_lost:Stmt:=top 34
noncomputable abbrev s_law_behind:Stmt:=top 35
noncomputable abbrev s_law_table:Stmt:=top 36
noncomputable abbrev s_law_kinds:Stmt:=top 37
noncomputable abbrev s_law_alike:Stmt:=top 38
noncomputable abbrev s_law_due:Stmt:=top 39
noncomputable abbrev s_law_shown:Stmt:=top 40
noncomputable abbrev s_law_judged:Stmt:=top 41
noncomputable abbrev s_law_put:Stmt:=top 42
noncomputable abbrev s_law_some_halves:Stmt:=top 43
noncomputable abbrev s_law:Stmt:=top 44
set_option genInjectivity false in
set_option genSizeOf false in
structure Ad where
 f_nexts:Addr
 d_nexts:FuncData
 f_uses:Addr
 d_uses:FuncData
 f_writes:Addr
 d_writes:FuncData
 f_is_stop:Addr
 d_is_stop:FuncData
 f_places_of:Addr
 d_places_of:FuncData
 f_reached:Addr
 d_reached:FuncData
 f_is_spot:Addr
 d_is_spot:FuncData
 f_tables_of:Addr
 d_tables_of:FuncData
 f_first_kinds:Addr
 d_first_kinds:FuncData
 f_is_lost_at_call:Addr
 d_is_lost_at_call:FuncData
 f_is_lost_at_table:Addr
 d_is_lost_at_table:FuncData
 f_gained:Addr
 d_gained:FuncData
 f_behind:Addr
 d_behind:FuncData
 f_shared:Addr
 d_shared:FuncData
 f_kinds_of:Addr
 d_kinds_of:FuncData
 f_dues_at:Addr
 d_dues_at:FuncData
 f_meets_more:Addr
 d_meets_more:FuncData
 f_spoiling_way:Addr
 d_spoiling_way:FuncData
 f_fault_of:Addr
 d_fault_of:FuncData
 f_fault:Addr
 d_fault:FuncData
 f_law_bag:Addr
 d_law_bag:FuncData
 f_law_draw:Addr
 d_law_draw:FuncData
 f_law_nexts:Addr
 d_law_nexts:FuncData
 f_law_writes:Addr
 d_law_writes:FuncData
 f_law_uses:Addr
 d_law_uses:FuncData
 f_law_first:Addr
 d_law_first:FuncData
 f_law_lost:Addr
 d_law_lost:FuncData
 f_law_behind:Addr
 d_law_behind:FuncData
 f_law_table:Addr
 d_law_table:FuncData
 f_law_kinds:Addr
 d_law_kinds:FuncData
 f_law_alike:Addr
 d_law_alike:FuncData
 f_law_due:Addr
 d_law_due:FuncData
 f_law_shown:Addr
 d_law_shown:FuncData
 f_law_judged:Addr
 d_law_judged:FuncData
 f_law_put:Addr
 d_law_put:FuncData
 f_law_some_halves:Addr
 d_law_some_halves:FuncData
 f_law:Addr
 d_law:FuncData
 t_BOXES:Nat
 g_GAINS:Addr
 g_USES:Addr
 g_WRITERS:Addr
structure Txt (K:PySem.W.Frag) (mg:Str->Option Value) (a:Ad):Prop where
 F_nexts:Fun K "nexts" "nexts" s_nexts a.f_nexts a.d_nexts
 b_nexts:zaP K a.d_nexts ["rows","at"] []
 m_nexts:mg "nexts" = some (.ref a.f_nexts)
 F_uses:Fun K "uses" "uses" s_uses a.f_uses a.d_uses
 b_uses:zaP K a.d_uses ["program","f","row"] []
 m_uses:mg "uses" = some (.ref a.f_uses)
 F_writes:Fun K "writes" "writes" s_writes a.f_writes a.d_writes
 b_writes:zaP K a.d_writes ["row"] []
 m_writes:mg "writes" = some (.ref a.f_writes)
 F_is_stop:Fun K "is_stop" "is_stop" s_is_stop a.f_is_stop a.d_is_stop
 b_is_stop:zaP K a.d_is_stop ["row"] []
 m_is_stop:mg "is_stop" = some (.ref a.f_is_stop)
 F_places_of:Fun K "places_of" "places_of" s_places_of a.f_places_of a.d_places_of
 b_places_of:zaP K a.d_places_of ["program","f"] []
 m_places_of:mg "places_of" = some (.ref a.f_places_of)
 F_reached:Fun K "reached" "reached" s_reached a.f_reached a.d_reached
 b_reached:zaP K a.d_reached ["rows"] []
 m_reached:mg "reached" = some (.ref a.f_reached)
 F_is_spot:Fun K "is_spot" "is_spot" s_is_spot a.f_is_spot a.d_is_spot
 b_is_spot:zaP K a.d_is_spot ["kind"] []
 m_is_spot:mg "is_spot" = some (.ref a.f_is_spot)
 F_tables_of:Fun K "tables_of" "tables_of" s_tables_of a.f_tables_of a.d_tables_of
 b_tables_of:zaP K a.d_tables_of ["f","tables"] []
 m_tables_of:mg "tables_of" = some (.ref a.f_tables_of)
 F_first_kinds:Fun K "first_kinds" "first_kinds" s_first_kinds a.f_first_kinds a.d_first_kinds
 b_first_kinds:zaP K a.d_first_kinds ["program","f"] []
 m_first_kinds:mg "first_kinds" = some (.ref a.f_first_kinds)
 F_is_lost_at_call:Fun K "is_lost_at_call" "is_lost_at_call" s_is_lost_at_call a.f_is_lost_at_call a.d_is_lost_at_call
 b_is_lost_at_call:zaP K a.d_is_lost_at_call ["p","kind"] []
 m_is_lost_at_call:mg "is_lost_at_call" = some (.ref a.f_is_lost_at_call)
 F_is_lost_at_table:Fun K "is_lost_at_table" "is_lost_at_table" s_is_lost_at_table a.f_is_lost_at_table a.d_is_lost_at_table
 b_is_lost_at_table:zaP K a.d_is_lost_at_table ["p","kind","table"] []
 m_is_lost_at_table:mg "is_lost_at_table" = some (.ref a.f_is_lost_at_table)
 F_gained:Fun K "gained" "gained" s_gained a.f_gained a.d_gained
 b_gained:zaP K a.d_gained ["program","row","kinds"] []
 m_gained:mg "gained" = some (.ref a.f_gained)
 F_behind:Fun K "behind" "behind" s_behind a.f_behind a.d_behind
 b_behind:zaP K a.d_behind ["program","f","at","kinds","table"] []
 m_behind:mg "behind" = some (.ref a.f_behind)
 F_shared:Fun K "shared" "shared" s_shared a.f_shared a.d_shared
 b_shared:zaP K a.d_shared ["kinds","others"] []
 m_shared:mg "shared" = some (.ref a.f_shared)
 F_kinds_of:Fun K "kinds_of" "kinds_of" s_kinds_of a.f_kinds_of a.d_kinds_of
 b_kinds_of:zaP K a.d_kinds_of ["program","f","tables"] []
 m_kinds_of:mg "kinds_of" = some (.ref a.f_kinds_of)
 F_dues_at:Fun K "dues_at" "dues_at" s_dues_at a.f_dues_at a.d_dues_at
 b_dues_at:zaP K a.d_dues_at ["program","f","at","table"] []
 m_dues_at:mg "dues_at" = some (.ref a.f_dues_at)
 F_meets_more:Fun K "meets_more" "meets_more" s_meets_more a.f_meets_more a.d_meets_more
 b_meets_more:zaP K a.d_meets_more ["met","at","kinds","due"] []
 m_meets_more:mg "meets_more" = some (.ref a.f_meets_more)
 F_spoiling_way:Fun K "spoiling_way" "spoiling_way" s_spoiling_way a.f_spoiling_way a.d_spoiling_way
 b_spoiling_way:zaP K a.d_spoiling_way ["program","f","told","at","p","due"] []
 m_spoiling_way:mg "spoiling_way" = some (.ref a.f_spoiling_way)
 F_fault_of:Fun K "fault_of" "fault_of" s_fault_of a.f_fault_of a.d_fault_of
 b_fault_of:zaP K a.d_fault_of ["program","f","tables"] []
 m_fault_of:mg "fault_of" = some (.ref a.f_fault_of)
 F_fault:Fun K "fault" "fault" s_fault a.f_fault a.d_fault
 b_fault:zaP K a.d_fault ["program","tables"] []
 m_fault:mg "fault" = some (.ref a.f_fault)
 F_law_bag:Fun K "_law_bag" "_law_bag" s_law_bag a.f_law_bag a.d_law_bag
 b_law_bag:zaP K a.d_law_bag ["script"] []
 m_law_bag:mg "_law_bag" = some (.ref a.f_law_bag)
 F_law_draw:Fun K "_law_draw" "_law_draw" s_law_draw a.f_law_draw a.d_law_draw
 b_law_draw:zaP K a.d_law_draw ["bag","many"] []
 m_law_draw:mg "_law_draw" = some (.ref a.f_law_draw)
 F_law_nexts:Fun K "_law_nexts" "_law_nexts" s_law_nexts a.f_law_nexts a.d_law_nexts
 b_law_nexts:zaP K a.d_law_nexts ["rows","at"] []
 m_law_nexts:mg "_law_nexts" = some (.ref a.f_law_nexts)
 F_law_writes:Fun K "_law_writes" "_law_writes" s_law_writes a.f_law_writes a.d_law_writes
 b_law_writes:zaP K a.d_law_writes ["row"] []
 m_law_writes:mg "_law_writes" = some (.ref a.f_law_writes)
 F_law_uses:Fun K "_law_uses" "_law_uses" s_law_uses a.f_law_uses a.d_law_uses
 b_law_uses:zaP K a.d_law_uses ["program","f","row"] []
 m_law_uses:mg "_law_uses" = some (.ref a.f_law_uses)
 F_law_first:Fun K "_law_first" "_law_first" s_law_first a.f_law_first a.d_law_first
 b_law_first:zaP K a.d_law_first ["program","f"] []
 m_law_first:mg "_law_first" = some (.ref a.f_law_first)
 F_law_lost:Fun K "_law_lost" "_law_lost" s_law_lost a.f_law_lost a.d_law_lost
 b_law_lost:zaP K a.d_law_lost ["row","kinds","table"] []
 m_law_lost:mg "_law_lost" = some (.ref a.f_law_lost)
 F_law_behind:Fun K "_law_behind" "_law_behind" s_law_behind a.f_law_behind a.d_law_behind
 b_law_behind:zaP K a.d_law_behind ["program","row","kinds","table"] []
 m_law_behind:mg "_law_behind" = some (.ref a.f_law_behind)
 F_law_table:Fun K "_law_table" "_law_table" s_law_table a.f_law_table a.d_law_table
 b_law_table:zaP K a.d_law_table ["tables","f","at"] []
 m_law_table:mg "_law_table" = some (.ref a.f_law_table)
 F_law_kinds:Fun K "_law_kinds" "_law_kinds" s_law_kinds a.f_law_kinds a.d_law_kinds
 b_law_kinds:zaP K a.d_law_kinds ["program","f","tables"] []
 m_law_kinds:mg "_law_kinds" = some (.ref a.f_law_kinds)
 F_law_alike:Fun K "_law_alike" "_law_alike" s_law_alike a.f_law_alike a.d_law_alike
 b_law_alike:zaP K a.d_law_alike ["found","due"] []
 m_law_alike:mg "_law_alike" = some (.ref a.f_law_alike)
 F_law_due:Fun K "_law_due" "_law_due" s_law_due a.f_law_due a.d_law_due
 b_law_due:zaP K a.d_law_due ["program","tables"] []
 m_law_due:mg "_law_due" = some (.ref a.f_law_due)
 F_law_shown:Fun K "_law_shown" "_law_shown" s_law_shown a.f_law_shown a.d_law_shown
 b_law_shown:zaP K a.d_law_shown ["program","tables","due","way"] []
 m_law_shown:mg "_law_shown" = some (.ref a.f_law_shown)
 F_law_judged:Fun K "_law_judged" "_law_judged" s_law_judged a.f_law_judged a.d_law_judged
 b_law_judged:zaP K a.d_law_judged ["program","tables"] []
 m_law_judged:mg "_law_judged" = some (.ref a.f_law_judged)
 F_law_put:Fun K "_law_put" "_law_put" s_law_put a.f_law_put a.d_law_put
 b_law_put:zaP K a.d_law_put ["bag","p"] []
 m_law_put:mg "_law_put" = some (.ref a.f_law_put)
 F_law_some_halves:Fun K "_law_some_halves" "_law_some_halves" s_law_some_halves a.f_law_some_halves a.d_law_some_halves
 b_law_some_halves:zaP K a.d_law_some_halves ["bag","holds"] []
 m_law_some_halves:mg "_law_some_halves" = some (.ref a.f_law_some_halves)
 F_law:Fun K "law" "law" s_law a.f_law a.d_law
 b_law:zaP K a.d_law ["script"] []
 m_law:mg "law" = some (.ref a.f_law)
 z_abs:mg "abs" = none
 z_all:mg "all" = none
 z_bool:mg "bool" = none
 z_enumerate:mg "enumerate" = none
 z_int:mg "int" = none
 z_isinstance:mg "isinstance" = none
 z_len:mg "len" = none
 z_list:mg "list" = none
 z_range:mg "range" = none
 z_set:mg "set" = none
 z_sorted:mg "sorted" = none
 z_str:mg "str" = none
 z_tuple:mg "tuple" = none
 z_zip:mg "zip" = none
 m_BOXES:mg "BOXES" = some (.int (8) a.t_BOXES)
 m_GAINS:mg "GAINS" = some (.ref a.g_GAINS)
 k_GAINS:rdK K 6 (.ref a.g_GAINS) = some kd_GAINS
 m_USES:mg "USES" = some (.ref a.g_USES)
 k_USES:rdK K 6 (.ref a.g_USES) = some kd_USES
 m_WRITERS:mg "WRITERS" = some (.ref a.g_WRITERS)
 k_WRITERS:rdK K 6 (.ref a.g_WRITERS) = some kd_WRITERS
theorem sc_nexts:FnScope ["rows","at","row"] ["rows","at"] (zar s_nexts):=⟨rfl,rfl,rfl,by decide +kernel,rfl,by decide +kernel,by decide +kernel⟩
theorem sc_uses:FnScope ["program","f","row","word"] ["program","f","row"] (zar s_uses):=⟨rfl,rfl,rfl,by decide +kernel,rfl,by decide +kernel,by decide +kernel⟩
theorem sc_writes:FnScope ["row"] ["row"] (zar s_writes):=⟨rfl,rfl,rfl,by decide +kernel,rfl,by decide +kernel,by decide +kernel⟩
theorem sc_is_stop:FnScope ["row"] ["row"] (zar s_is_stop):=⟨rfl,rfl,rfl,by decide +kernel,rfl,by decide +kernel,by decide +kernel⟩
theorem sc_places_of:FnScope ["program","f"] ["program","f"] (zar s_places_of):=⟨rfl,rfl,rfl,by decide +kernel,rfl,by decide +kernel,by decide +kernel⟩
theorem sc_reached:FnScope ["rows","met","todo","at","t"] ["rows"] (zar s_reached):=⟨rfl,rfl,rfl,by decide +kernel,rfl,by decide +kernel,by decide +kernel⟩
theorem sc_is_spot:FnScope ["kind"] ["kind"] (zar s_is_spot):=⟨rfl,rfl,rfl,by decide +kernel,rfl,by decide +kernel,by decide +kernel⟩
theorem sc_tables_of:FnScope ["f","tables","told","table"] ["f","tables"] (zar s_tables_of):=⟨rfl,rfl,rfl,by decide +kernel,rfl,by decide +kernel,by decide +kernel⟩
theorem sc_first_kinds:FnScope ["program","f","takes"] ["program","f"] (zar s_first_kinds):=⟨rfl,rfl,rfl,by decide +kernel,rfl,by decide +kernel,by decide +kernel⟩
theorem sc_is_lost_at_call:FnScope ["p","kind"] ["p","kind"] (zar s_is_lost_at_call):=⟨rfl,rfl,rfl,by decide +kernel,rfl,by decide +kernel,by decide +kernel⟩
theorem sc_is_lost_at_table:FnScope ["p","kind","table"] ["p","kind","table"] (zar s_is_lost_at_table):=⟨rfl,rfl,rfl,by decide +kernel,rfl,by decide +kernel,by decide +kernel⟩
theorem sc_gained:FnScope ["program","row","kinds","word"] ["program","row","kinds"] (zar s_gained):=⟨rfl,rfl,rfl,by decide +kernel,rfl,by decide +kernel,by decide +kernel⟩
theorem sc_behind:FnScope ["program","f","at","kinds","table","row","left","written"] ["program","f","at","kinds","table"] (zar s_behind):=⟨rfl,rfl,rfl,by decide +kernel,rfl,by decide +kernel,by decide +kernel⟩
theorem sc_shared:FnScope ["kinds","others"] ["kinds","others"] (zar s_shared):=⟨rfl,rfl,rfl,by decide +kernel,rfl,by decide +kernel,by decide +kernel⟩
theorem sc_kinds_of:FnScope ["program","f","tables","rows","told","known","todo","at","left","t","fewer"] ["program","f","tables"] (zar s_kinds_of):=⟨rfl,rfl,rfl,by decide +kernel,rfl,by decide +kernel,by decide +kernel⟩
theorem sc_dues_at:FnScope ["program","f","at","table","dues"] ["program","f","at","table"] (zar s_dues_at):=⟨rfl,rfl,rfl,by decide +kernel,rfl,by decide +kernel,by decide +kernel⟩
theorem sc_meets_more:FnScope ["met","at","kinds","due","marks","fresh","mark"] ["met","at","kinds","due"] (zar s_meets_more):=⟨rfl,rfl,rfl,by decide +kernel,rfl,by decide +kernel,by decide +kernel⟩
theorem sc_spoiling_way:FnScope ["program","f","told","at","p","due","met","ways","longer","way","kinds","last","left"] ["program","f","told","at","p","due"] (zar s_spoiling_way):=⟨rfl,rfl,rfl,by decide +kernel,rfl,by decide +kernel,by decide +kernel⟩
theorem sc_fault_of:FnScope ["program","f","tables","told","known","at","p","due"] ["program","f","tables"] (zar s_fault_of):=⟨rfl,rfl,rfl,by decide +kernel,rfl,by decide +kernel,by decide +kernel⟩
theorem sc_fault:FnScope ["program","tables","f","found"] ["program","tables"] (zar s_fault):=⟨rfl,rfl,rfl,by decide +kernel,rfl,by decide +kernel,by decide +kernel⟩
theorem sc_law_bag:FnScope ["script","stir","cell"] ["script"] (zar s_law_bag):=⟨rfl,rfl,rfl,by decide +kernel,rfl,by decide +kernel,by decide +kernel⟩
theorem sc_law_draw:FnScope ["bag","many","found"] ["bag","many"] (zar s_law_draw):=⟨rfl,rfl,rfl,by decide +kernel,rfl,by decide +kernel,by decide +kernel⟩
theorem sc_law_nexts:FnScope ["rows","at"] ["rows","at"] (zar s_law_nexts):=⟨rfl,rfl,rfl,by decide +kernel,rfl,by decide +kernel,by decide +kernel⟩
theorem sc_law_writes:FnScope ["row"] ["row"] (zar s_law_writes):=⟨rfl,rfl,rfl,by decide +kernel,rfl,by decide +kernel,by decide +kernel⟩
theorem sc_law_uses:FnScope ["program","f","row","some"] ["program","f","row"] (zar s_law_uses):=⟨rfl,rfl,rfl,by decide +kernel,rfl,by decide +kernel,by decide +kernel⟩
theorem sc_law_first:FnScope ["program","f","takes"] ["program","f"] (zar s_law_first):=⟨rfl,rfl,rfl,by decide +kernel,rfl,by decide +kernel,by decide +kernel⟩
theorem sc_law_lost:FnScope ["row","kinds","table","found","p"] ["row","kinds","table"] (zar s_law_lost):=⟨rfl,rfl,rfl,by decide +kernel,rfl,by decide +kernel,by decide +kernel⟩
theorem sc_law_behind:FnScope ["program","row","kinds","table","found","p","given"] ["program","row","kinds","table"] (zar s_law_behind):=⟨rfl,rfl,rfl,by decide +kernel,rfl,by decide +kernel,by decide +kernel⟩
theorem sc_law_table:FnScope ["tables","f","at","one"] ["tables","f","at"] (zar s_law_table):=⟨rfl,rfl,rfl,by decide +kernel,rfl,by decide +kernel,by decide +kernel⟩
theorem sc_law_kinds:FnScope ["program","f","tables","found","todo","at","after","other","met"] ["program","f","tables"] (zar s_law_kinds):=⟨rfl,rfl,rfl,by decide +kernel,rfl,by decide +kernel,by decide +kernel⟩
theorem sc_law_alike:FnScope ["found","due"] ["found","due"] (zar s_law_alike):=⟨rfl,rfl,rfl,by decide +kernel,rfl,by decide +kernel,by decide +kernel⟩
theorem sc_law_due:FnScope ["program","tables","f","kinds","at","some","holds","halves","p","due"] ["program","tables"] (zar s_law_due):=⟨rfl,rfl,rfl,by decide +kernel,rfl,by decide +kernel,by decide +kernel⟩
theorem sc_law_shown:FnScope ["program","tables","due","way","f","at","p","kind","kinds","k"] ["program","tables","due","way"] (zar s_law_shown):=⟨rfl,rfl,rfl,by decide +kernel,rfl,by decide +kernel,by decide +kernel⟩
theorem sc_law_judged:FnScope ["program","tables","due","found"] ["program","tables"] (zar s_law_judged):=⟨rfl,rfl,rfl,by decide +kernel,rfl,by decide +kernel,by decide +kernel⟩
theorem sc_law_put:FnScope ["bag","p","kind"] ["bag","p"] (zar s_law_put):=⟨rfl,rfl,rfl,by decide +kernel,rfl,by decide +kernel,by decide +kernel⟩
theorem sc_law_some_halves:FnScope ["bag","holds","halves","s"] ["bag","holds"] (zar s_law_some_halves):=⟨rfl,rfl,rfl,by decide +kernel,rfl,by decide +kernel,by decide +kernel⟩
theorem sc_law:FnScope ["script","bag","second","many","takes","holds","halves","rows","k","args","at","plain","program","tables","kept"] ["script"] (zar s_law):=⟨rfl,rfl,rfl,by decide +kernel,rfl,by decide +kernel,by decide +kernel⟩
section
variable {P:Program} {w:World} {K:PySem.W.Frag} {mg:Str->Option Value} {base:Heap} {a:Ad}
structure BagOk (cs:List Int) (i v st n:Int):Prop where
 i0:0 ≤ i
 i1:i ≤ cs.length
 v0:0 ≤ v
 s0:0 ≤ st
 s1:st < 2147483647
 n0:0 ≤ n
noncomputable def bagL (c:Addr) (i v st n:Int):List V:=[.ref c,.int i,.int v,.int st,.int n]
structure BagAt (H:Hp) (b c:Addr) (cs:List Int):Prop where
 ex:∃ i v st n,H b = some (.lst (bagL c i v st n))∧BagOk cs i v st n
 at_:H c = some (.lst (cs.map V.int))
 ne:c ≠ b
 pos:∀ z ∈ cs,0 ≤ z
 len:cs.length ≤ 63
noncomputable def Kp (b:Addr) (H H':Hp):Prop:=∀ q o,H q = some o->q ≠ b->H' q = some o
theorem Kp.refl {b:Addr} {H:Hp}:Kp b H H:=fun _ _ h _=>h
theorem Kp.trans {b:Addr} {H H1 H2:Hp} (x:Kp b H H1) (y:Kp b H1 H2):Kp b H H2:=fun q o h n=>y q o (x q o h n) n
theorem Kp.laid {b p:Addr} {H H1:Hp} {u:HO} (x:Kp b H H1) (hp:H1 p = none):Kp b H (upd H1 p u):=fun q o h n=>zab (x q o h n) hp
theorem Kp.at_ {b:Addr} {H:Hp} {u:HO}:Kp b H (upd H b u):=fun q o h n=>by rw [zaj n]; exact h
theorem BagAt.laid {H:Hp} {b c p:Addr} {cs:List Int} {u:HO} (x:BagAt H b c cs) (hp:H p = none):BagAt (upd H p u) b c cs:=by
 obtain ⟨⟨i,v,st,n,e,k⟩,h2,ne,pos,len⟩:=x
 exact ⟨⟨i,v,st,n,zab e hp,k⟩,zab h2 hp,ne,pos,len⟩
theorem BagAt.other {H:Hp} {b c p:Addr} {cs:List Int} {u:HO} (x:BagAt H b c cs) (h1:p ≠ b) (h2:p ≠ c):BagAt (upd H p u) b c cs:=by
 obtain ⟨⟨i,v,st,n,e,k⟩,h3,ne,pos,len⟩:=x
 exact ⟨⟨i,v,st,n,by rw [zaj h1.symm]; exact e,k⟩,by rw [zaj h2.symm]; exact h3,ne,pos,len⟩
theorem BagAt.keep {H H':Hp} {b c:Addr} {cs:List Int} (x:BagAt H b c cs) (hs:∀ q o,H q = some o->H' q = some o):BagAt H' b c cs:=by
 obtain ⟨⟨i,v,st,n,e,k⟩,h3,ne,pos,len⟩:=x
 exact ⟨⟨i,v,st,n,hs _ _ e,k⟩,hs _ _ h3,ne,pos,len⟩
theorem zh7 {x:Int} (h0:0 ≤ x):0 ≤ x ^ 3:=Int.pow_nonneg h0
noncomputable def sp_draw:Sp:=fun vs H Q _=>∃ (b c:Addr) (cs:List Int) (many:Int),vs = [.ref b,.int many]∧BagAt H b c cs∧0 < many∧many ≤ 10 ^ 70∧∀ (r:Int) (H':Hp),0 ≤ r->r < many->BagAt H' b c cs->Kp b H H'->Q (.int r) H'
theorem ixN5_0:ixN 5 0 = some 0:=rfl
theorem ixN5_1:ixN 5 1 = some 1:=rfl
theorem ixN5_2:ixN 5 2 = some 2:=rfl
theorem ixN5_3:ixN 5 3 = some 3:=rfl
theorem ixN5_4:ixN 5 4 = some 4:=rfl
set_option maxHeartbeats 4000000 in
theorem zaE (T:Txt K mg a):FnOk P w K mg base CX0 1 a.f_law_draw a.d_law_draw ["bag","many"] sp_draw:=by
 refine T.F_law_draw.okC sc_law_draw (fun vs H Q E h=>?_) (fun cdv A outer s H vs Q E hr h=>?_)
 ·obtain ⟨b,c,cs,m,rfl,_⟩:=h
  rfl
 ·obtain ⟨b,c,cs,m,rfl,⟨⟨i,v,st,n,hb,i0,i1,v0,s0,s1,n0⟩,hc,ne,pos,len⟩,m0,m1,q⟩:=h
  have hu:=zaT hr
  refine ⟨_,(@zad _ _ _ _ _ (@zaD _ _ _ _ _ _ _ _ (PW.pt (zcm (zak op_eq (zah ix_F (pv 0) zag (fun _ _=>rfl)) zag (zat _)) (zbP (zak op_lt (zah ix_F (pv 0) zag (fun _ _=>rfl)) (zax call_lenF (by rfl) T.z_len (by decide +kernel) (zae (zah ix_F (pv 0) zag (fun _ _=>rfl)) pa_nil)) (zat _))))) (@zad _ _ _ _ _ (zbf (zah ix_F (zah ix_F (pv 0) zag (fun _ _=>rfl)) (zah ix_F (pv 0) zag (fun _ _=>rfl)) (fun _ _=>rfl)) (zbr (pv 0) zag set_list))
   (@zaf _ _ _ (zbf (zaK op_add (zah ix_F (pv 0) zag (fun _ _=>rfl)) zag) (zbr (pv 0) zag set_list)))) (@zaf _ _ _ (@zaD _ _ _ _ _ _ _ _ (zak op_eq (zah ix_F (pv 0) zag (fun _ _=>rfl)) zag (zat _)) (@zad _ _ _ _ _ (zbf (zaK op_add (zah ix_F (pv 0) zag (fun _ _=>rfl)) zag) (zbr (pv 0) zag set_list))
   (@zad _ _ _ _ _ (zbf (zaK op_mod (zaK op_add (zaK op_add (zaK op_add (zaK op_pow (zah ix_F (pv 0) zag (fun _ _=>rfl)) zag) (zaK op_mul zag (zah ix_F (pv 0) zag (fun _ _=>rfl)))) (zaK op_mul zag (zah ix_F (pv 0) zag (fun _ _=>rfl)))) zag) zag) (zbr (pv 0) zag set_list))
   (@zaf _ _ _ (zao (zaK op_mod (zaK op_fdivB (zah ix_F (pv 0) zag (fun _ _=>rfl)) zag) (pv 1)))))) pss_nil)))
   (@zad _ _ _ _ _ (zaw (i:=2) sc_law_draw.nd (by rfl) (Or.inl rfl) (zaK op_mod (zah ix_F (pv 0) zag (fun _ _=>rfl)) (pv 1)))
   (@zad _ _ _ _ _ (zbf (zaK op_fdivB (zah ix_F (pv 0) zag (fun _ _=>rfl)) (pv 1)) (zbr (pv 0) zag set_list))
   (@zaf _ _ _ (zao (pv 2)))))),?_⟩
  simp! [hb,hc,bagL,ixN5_0,ixN5_1,ixN5_2,ixN5_3,ixN5_4,zcV,List.length_map]
  have fin:∀ (r i' v' st' n':Int),0 ≤ r->r < m->BagOk cs i' v' st' n'->Q (.int r) (upd H b (.lst [.ref c,.int i',.int v',.int st',.int n'])):=fun r i' v' st' n' h1 h2 h3 =>
   q r _ h1 h2 ⟨⟨i',v',st',n',zaa,h3⟩,by rw [zaj ne]; exact hc,ne,pos,len⟩ Kp.at_
  have e3:(3:Int).toNat = 3:=rfl
  rw [e3]
  have p3:=zh7 s0
  have B1:CPow st 3∧CMul 69621 st∧CMul 1009 (n + 1)∧(0:Int) < 2147483647∧zhj ((st ^ 3 + 69621 * st + 1009 * (n + 1) + 1) % 2147483647) 16∧0 < m∧Q (V.int ((st ^ 3 + 69621 * st + 1009 * (n + 1) + 1) % 2147483647 / 16 % m)) (upd H b (HO.lst [V.ref c,V.int i,V.int v,V.int ((st ^ 3 + 69621 * st + 1009 * (n + 1) + 1) % 2147483647),V.int (n + 1)])):=by
   refine ⟨⟨by decide,by decide,by omega⟩,.inl ⟨by decide,by decide⟩,.inl ⟨by decide,by decide⟩,by decide,⟨by decide,by decide⟩,m0,?_⟩
   generalize (st ^ 3 + 69621 * st + 1009 * (n + 1) + 1) = y
   exact fin _ _ _ _ _ (Int.emod_nonneg _ (by omega)) (Int.emod_lt_of_pos _ m0) ⟨i0,i1,v0,by omega,by omega,by omega⟩
  have B2:0 < m∧zhj v m∧Q (V.int (v % m)) (upd H b (HO.lst [V.ref c,V.int i,V.int (v / m),V.int st,V.int n])) :=
   ⟨m0,⟨m0,m1⟩,fin _ _ _ _ _ (Int.emod_nonneg _ (by omega)) (Int.emod_lt_of_pos _ m0) ⟨i0,i1,Int.ediv_nonneg v0 (by omega),s0,s1,n0⟩⟩
  have B3:i < cs.length->∃ x,atI (cs.map V.int) i = some x∧∃ i_1,x = V.int i_1∧0 < m∧∃ i_2,x = V.int i_2∧zhj i_2 m∧Q (V.int (i_1 % m)) (upd H b (HO.lst [V.ref c,V.int (i + 1),V.int (i_2 / m),V.int st,V.int n])):=fun hi=>by
   have hj:i.toNat < cs.length:=by omega
   have e1:(cs.map V.int)[i.toNat]? = some (V.int cs[i.toNat]):=by rw [List.getElem?_map,List.getElem?_eq_getElem hj]; rfl
   have e2:=zau e1
   rw [show ((i.toNat:Nat):Int) = i by omega] at e2
   have p:=pos _ (List.getElem_mem hj)
   refine ⟨_,e2,_,rfl,m0,_,rfl,⟨m0,m1⟩,?_⟩
   exact fin _ _ _ _ _ (Int.emod_nonneg _ (by omega)) (Int.emod_lt_of_pos _ m0) ⟨by omega,by omega,Int.ediv_nonneg p (by omega),s0,s1,n0⟩
  refine ite2 (fun h1=>ite2 B3 fun h2=>ite2 (fun _=>B1) fun _=>B2) fun h1=>ite2 (fun _=>B1) fun _=>B2
theorem cut63 (ns:List Int):∃ zs:List Int,cutV (ns.map V.int) none (some 63) = zs.map V.int∧zs.length ≤ 63∧zs.length ≤ ns.length:=by
 refine ⟨(ns.drop (HT.sIx (ns.map V.int).length 0 none)).take (HT.sIx (ns.map V.int).length (ns.map V.int).length (some 63) - HT.sIx (ns.map V.int).length 0 none),?_,?_,?_⟩
 ·unfold cutV
  rw [List.map_take,List.map_drop]
 ·rw [List.length_take,List.length_drop,List.length_map]
  have:HT.sIx ns.length ns.length (some 63) ≤ 63:=by unfold HT.sIx; simp; omega
  omega
 ·rw [List.length_take,List.length_drop]; omega
noncomputable def ziq (K:PySem.W.Frag):Sp:=fun vs H Q _=>∃ (r:Addr) (ns:List Int),vs = [.ref r]∧SqL K H r (ns.map V.int)∧∀ (b c:Addr) (cs:List Int) (H':Hp),H b = none->H c = none->BagAt H' b c cs->Same H H'->Q (.ref b) H'
set_option maxHeartbeats 4000000 in
theorem zfo (T:Txt K mg a):FnOk P w K mg base CX0 1 a.f_law_bag a.d_law_bag ["script"] (ziq K):=by
 refine T.F_law_bag.okC sc_law_bag (fun vs H Q E h=>?_) (fun cdv A outer s H vs Q E hr h=>?_)
 ·obtain ⟨r,ns,rfl,_⟩:=h
  rfl
 ·obtain ⟨r,ns,rfl,hS,q⟩:=h
  have hu:=zaT hr
  obtain ⟨zs,ez,lz,_⟩:=cut63 ns
  refine ⟨_,(@zad _ _ _ _ _ (zaw (i:=1) sc_law_bag.nd (by rfl) (Or.inl rfl) zag)
   (@zad _ _ _ _ _ (za0 PassesOwn.never (by rfl) (zaI (zcu sl_list (pv 0) po_none (zdw zag))) (zaq (i:=2) sc_law_bag.nd (by rfl) (Or.inl rfl))
   (@zaf _ _ _ (zaw (i:=1) sc_law_bag.nd (by rfl) (Or.inl rfl) (zaK op_mod (zaK op_add (zaK op_add (zaK op_mul (pv 1) zag) (zaK op_mod (pv 2) zag)) zag) zag))))
   (@zaf _ _ _ (zao (zav (zae (zaW (N':=["cell"]) (cap:=[none]) ⟨rfl,(by decide +kernel),(by decide +kernel),(by rfl),rfl,(by rfl)⟩ (by rfl) (zaI (zcu sl_list (pv 0) po_none (zdw zag))) (fun C_ ex_ s_ H_=>(zaq (i:=0) (show (["cell"]:List Str).Nodup by decide +kernel) (by rfl) (Or.inl rfl))) zaS (fun C_ ex_ s_ H_=>zaJ) (fun C_ ex_ s_ H_=>(zaK op_mod (zax call_abs (by rfl) T.z_abs (by decide +kernel) (@zac _ _ _ _ _ _ (pv 0) pa_nil)) (zaK op_pow zag zag)))) (@zai _ _ _ _ _ _ (@zai _ _ _ _ _ _ (@zac _ _ _ _ _ _ (pv 1) (@zai _ _ _ _ _ _ pa_nil)))))))))),?_⟩
  refine ⟨_,rfl,63,rfl,r,_,rfl,hS,fun l1 hl1=>?_⟩
  rw [ez]
  refine ⟨l1,rfl,⟨_,.of zaa⟩,zeX (xs:=zs.map V.int) (fun i σ H2=>∃ (st:Int) (v2:Option V),σ = [some (.ref r),some (.int st),v2]∧H2 = upd H l1 (.lst (zs.map V.int))∧0 ≤ st∧st < 2147483647)
   ⟨7,_,rfl,rfl,by decide,by decide⟩ (fun i σ H2 _ ⟨_,_,_,e,_⟩=>by rw [e]; exact .of zaa) ?_ ?_⟩
  ·rintro i x σ H2 hi ⟨st,v2,rfl,rfl,s0,s1⟩
   obtain ⟨z,_,rfl⟩:=zay hi
   simp! []
   exact ⟨.inr ⟨by decide,by decide⟩,by decide,by decide,Int.emod_nonneg _ (by decide),Int.emod_lt_of_pos _ (by decide)⟩
  ·rintro σ H2 ⟨st,v2,rfl,rfl,s0,s1⟩
   have hS1:SqL K (upd H l1 (.lst (zs.map V.int))) r (ns.map V.int):=(Same.laid hl1).seq hS
   refine ⟨_,rfl,63,rfl,r,_,rfl,hS1,fun l2 hl2=>?_⟩
   rw [ez]
   refine ⟨l2,rfl,⟨_,.of zaa⟩,fun D hD=>?_⟩
   refine zdV (xs:=zs.map V.int) (fun i ys H2=>∃ ws:List Int,ys = ws.map V.int∧ws.length = i∧(∀ z ∈ ws,0 ≤ z)∧H2 = upd (upd (upd H l1 (.lst (zs.map V.int))) l2 (.lst (zs.map V.int))) D (.lst ys))
    ⟨[],rfl,rfl,by simp,rfl⟩ (fun i ys H2 _ ⟨ws,e1,e2,_,e3⟩=>?_) (by rw [sizeLine_eq]; simp; omega) ?_ ?_
   ·rw [e3]
    exact ⟨.of (zab zaa hD),zaa,by rw [e1]; simp; omega⟩
   ·rintro i x ys H2 hi ⟨ws,rfl,e2,e3,rfl⟩
    obtain ⟨z,_,rfl⟩:=zay hi
    simp! [tTrue,zaG]
    refine ⟨⟨by decide,by decide,by decide⟩,by decide,ws ++ [(if z < 0 then -z else z) % 10 ^ Int.toNat 60],by simp,by simp; omega,?_,zcV⟩
    intro y hy
    rcases List.mem_append.mp hy with hy | hy
    ·exact e3 y hy
    ·rw [List.mem_singleton.mp hy]
     exact Int.emod_nonneg _ (by decide)
   ·rintro ys H2 ⟨ws,rfl,e2,e3,rfl⟩
    simp! []
    intro b hb
    have n1:H b = none:=Same.free (((Same.laid hl1).step hl2).step hD) hb
    have n2:H D = none:=Same.free ((Same.laid hl1).step hl2) hD
    rw [List.length_map] at e2
    exact q b D ws _ n1 n2 ⟨⟨0,0,st,0,zaa,by decide,by omega,by decide,s0,s1,by decide⟩,zab zaa hb,zan zaa hb,e3,by omega⟩ ((((Same.laid hl1).step hl2).step hD).step hb)
end
section
variable {P:Program} {w:World} {K:PySem.W.Frag} {mg:Str->Option Value} {base:Heap} {a:Ad}
abbrev Pr:=Int × Int
inductive Prs (H:Hp):List V->List Pr->Prop
 | nil:Prs H [] []
 | cons {q:Addr} {s b:Int} {vs:List V} {ps:List Pr}:H q = some (.tup [.int s,.int b])->Prs H vs ps->Prs H (.ref q :: vs) ((s,b) :: ps)
theorem Prs.same {H H':Hp} {vs:List V} {ps:List Pr} (h:Prs H vs ps) (S:Same H H'):Prs H' vs ps:=by
 induction h with
 | nil=>exact .nil
 | cons e _ ih=>exact .cons (S _ _ e) ih
theorem Prs.len {H:Hp} {vs:List V} {ps:List Pr} (h:Prs H vs ps):vs.length = ps.length:=by
 induction h with
 | nil=>rfl
 | cons _ _ ih=>rw [List.length_cons,List.length_cons,ih]
theorem Prs.app {H:Hp} {vs:List V} {ps:List Pr} {q:Addr} {s b:Int} (h:Prs H vs ps) (e:H q = some (.tup [.int s,.int b])):Prs H (vs ++ [.ref q]) (ps ++ [(s,b)]):=by
 induction h with
 | nil=>exact .cons e .nil
 | cons e1 _ ih=>exact .cons e1 ih
theorem Prs.get {H:Hp} {vs:List V} {ps:List Pr} (h:Prs H vs ps):∀ {i:Nat} {x:V},vs[i]? = some x->∃ q s b,x = .ref q∧ps[i]? = some (s,b)∧H q = some (.tup [.int s,.int b]):=by
 induction h with
 | nil=>intro i x e; cases e
 | @cons q s b vs ps e1 _ ih =>
  intro i x e
  cases i with
  | zero=>cases e; exact ⟨q,s,b,rfl,rfl,e1⟩
  | succ i=>exact ih (by simpa using e)
theorem zi0 {α:Type} {xs:List α} {f:α->Option V} {g:α->Bool} (h:∀ x ∈ xs,f x = some (.bl (g x))):xs.filterMap f = (xs.map g).map V.bl:=by
 induction xs with
 | nil=>rfl
 | cons x r ih=>rw [List.filterMap_cons_some (h x List.mem_cons_self),ih fun y hy=>h y (List.mem_cons_of_mem _ hy)]; rfl
theorem zg0 {α:Type} {xs:List α} {g:α->Bool} (h:∀ x ∈ xs,g x = true):(xs.map g).all id = true:=List.all_eq_true.mpr fun x hx=>by
 obtain ⟨y,hy,rfl⟩:=List.mem_map.mp hx
 exact h y hy
theorem zf7 (xs:List Int):(xs.map V.int).all flatV = true:=by
 rw [List.all_map]
 exact List.all_eq_true.mpr fun x _=>rfl
theorem zde {i:Int}:∀ {l:List Int},inV (.int i) (l.map V.int) = decide (i ∈ l)
 | []=>rfl
 | x :: l=>by
  have ih:=zde (i:=i) (l:=l)
  unfold inV at ih ⊢
  rw [List.map_cons,List.any_cons,ih]
  rw [Bool.eq_iff_iff,Bool.or_eq_true,decide_eq_true_eq,decide_eq_true_eq,List.mem_cons]
  have:eqV (.int x) (.int i) = true ↔ i = x:=by
   show (x == i) = true ↔ _
   rw [beq_iff_eq]
   exact eq_comm
  rw [this]
theorem zcy {H:Hp} {p:Addr} {ns:List Int} {i:Int} {neg:Bool} {Q:VK} (h:H p = some (.lst (ns.map V.int))) (q:Q (.bl (if neg then !decide (i ∈ ns) else decide (i ∈ ns))) H):rIn K neg (.int i) (.ref p) H Q :=
 ⟨p,_,rfl,.inl (.of h),rfl,zf7 ns,by rw [zde]; exact q⟩
structure TabAt (H:Hp) (l m:Addr) (us:List V) (hs:List Int) (ps:List Pr):Prop where
 hl:H l = some (.lst (hs.map V.int))
 hm:H m = some (.lst us)
 pr:Prs H us ps
theorem TabAt.same {H H':Hp} {l m:Addr} {us:List V} {hs:List Int} {ps:List Pr} (t:TabAt H l m us hs ps) (S:Same H H'):TabAt H' l m us hs ps:=⟨S _ _ t.hl,S _ _ t.hm,t.pr.same S⟩
theorem zdA {s:Str}:∀ {l:List Str},inV (.str s) (l.map V.str) = decide (s ∈ l)
 | []=>by simp [inV]
 | x :: l=>by
  have ih:=zdA (s:=s) (l:=l)
  unfold inV at ih ⊢
  rw [List.map_cons,List.any_cons,ih]
  show ((x == s) || decide (s ∈ l)) = _
  rw [Bool.eq_iff_iff,Bool.or_eq_true,beq_iff_eq,decide_eq_true_eq,decide_eq_true_eq,List.mem_cons]
  exact ⟨fun h=>h.imp Eq.symm id,fun h=>h.imp Eq.symm id⟩
theorem zcA {ws:List Str} {s:Str} {neg:Bool} {p:Addr} {H:Hp} {Q:VK} (h:SqL K H p (ws.map V.str) ∨ SqT K H p (ws.map V.str)) (q:Q (.bl (if neg then !decide (s ∈ ws) else decide (s ∈ ws))) H):rIn K neg (.str s) (.ref p) H Q:=by
 refine ⟨p,ws.map V.str,rfl,h,rfl,?_,by rw [zdA]; exact q⟩
 rw [List.all_map]
 exact List.all_eq_true.mpr fun x _=>rfl
theorem zhb {a:Addr} {ws:List Str} (h:KRp K (.ref a) (.tuple (ws.map PyData.str))) (H:Hp):SqT K H a (ws.map V.str):=by
 cases h with
 | tup h1 h2 h3 =>
  rename_i xs
  have e:xs = ws.map V.str:=by
   apply List.ext_getElem?
   intro i
   rw [List.length_map] at h2
   by_cases c:i < ws.length
   ·have hx:=List.getElem?_eq_getElem (l:=xs) (i:=i) (by omega)
    have:=h3 i _ (.str ws[i]) hx (by rw [List.getElem?_map,List.getElem?_eq_getElem c]; rfl)
    rw [hx,List.getElem?_map,List.getElem?_eq_getElem c]
    revert this
    generalize xs[i] = v
    intro this
    cases this
    rfl
   ·rw [List.getElem?_eq_none (by omega),List.getElem?_eq_none (by rw [List.length_map]; omega)]
  rw [← e]
  exact h1 H
noncomputable def WRw:List Str:=["put","nil","copy","plus","less","make","fetch","read","into","look","call"]
noncomputable def zbF (w:Str):Bool:=decide (w ∈ (["make","rest","call"]:List Str))
theorem BagAt.nInts {H:Hp} {b c l:Addr} {cs ns:List Int} (B:BagAt H b c cs) (h:H l = some (.lst (ns.map V.int))):l ≠ b:=fun e=>by
 obtain ⟨⟨i,v,st,n,hb,_⟩,_⟩:=B
 rw [e,hb] at h
 cases ns with
 | nil=>cases h
 | cons x r=>cases h
theorem BagAt.nRefs {H:Hp} {b c l:Addr} {cs:List Int} {qs:List Addr} (B:BagAt H b c cs) (h:H l = some (.lst (qs.map V.ref))):l ≠ b:=fun e=>by
 obtain ⟨⟨i,v,st,n,hb,_⟩,_⟩:=B
 rw [e,hb] at h
 cases qs with
 | nil=>cases h
 | cons x r=>cases r with
  | nil=>cases h
  | cons y r=>cases h
theorem BagAt.nPrs {H:Hp} {b c l:Addr} {cs:List Int} {us:List V} {ps:List Pr} (B:BagAt H b c cs) (h:H l = some (.lst us)) (P:Prs H us ps):l ≠ b:=fun e=>by
 obtain ⟨⟨i,v,st,n,hb,_⟩,_⟩:=B
 rw [e,hb] at h
 cases h
 obtain ⟨q,s1,b1,z,_⟩:=P.get (i:=1) (x:=.int i) rfl
 cases z
theorem Prs.put {H:Hp} {D:Addr} {xs:List V} {u:HO} {vs:List V} {ps:List Pr} (h:Prs H vs ps) (hD:H D = some (.lst xs)):Prs (upd H D u) vs ps:=by
 induction h with
 | nil=>exact .nil
 | cons e _ ih=>exact .cons (by rw [zaj (fun z=>by rw [z,hD] at e; cases e)]; exact e) ih
noncomputable def sp_stop:Sp:=fun vs H Q _=>∃ (q:Addr) (w:Str) (us:List V),vs = [.ref q]∧H q = some (.tup (.str w :: us))∧∀ H',Same H H'->Q (.bl (zbF w)) H'
set_option maxHeartbeats 2000000 in
theorem ze5 (T:Txt K mg a):FnOk P w K mg base CX0 1 a.f_is_stop a.d_is_stop ["row"] sp_stop:=by
 refine T.F_is_stop.okC sc_is_stop (fun vs H Q E h=>?_) (fun cdv A outer s H vs Q E hr h=>?_)
 ·obtain ⟨q,w,us,rfl,_⟩:=h
  rfl
 ·obtain ⟨q,w,us,rfl,hp,k⟩:=h
  have hu:=zaT hr
  refine ⟨_,(@zaf _ _ _ (zao (za1 op_in_seq (zah ix_F (pv 0) zag (fun _ _=>rfl)) (zas (@zam _ _ _ _ _ _ (@zam _ _ _ _ _ _ (@zam _ _ _ _ _ _ pa_nil)))) (by with_unfolding_all rfl)))),?_⟩
  simp! [hp]
  intro t nt
  refine zcA (ws:=["make","rest","call"]) (.inr (.of zaa)) ?_
  rw [if_neg Bool.false_ne_true]
  exact k _ (Same.laid nt)
noncomputable def prT (p:Pr):PyData:=.tuple [.int p.1,.int p.2]
noncomputable def prD (ps:List Pr):PyData:=.list (ps.map prT)
theorem zgf {α:Type} {f:α->PyData}:∀ {l:List α},(∀ x ∈ l,PyData.canLay0 (f x) = true)->PyData.canLayAll0 (l.map f) = true
 | [],_=>by rw [List.map_nil,PyData.canLayAll0]
 | x :: l,h=>by rw [List.map_cons,PyData.canLayAll0,h x List.mem_cons_self,zgf fun y hy=>h y (List.mem_cons_of_mem _ hy)]; rfl
theorem zgu {α:Type} {f:α->PyData} {n:Nat}:∀ {l:List α},(∀ x ∈ l,PyData.depth (f x) ≤ n)->PyData.depthAll (l.map f) ≤ n
 | [],_=>by rw [List.map_nil,PyData.depthAll]; omega
 | x :: l,h=>by
  have h1:=h x List.mem_cons_self
  have h2:=zgu fun y hy=>h y (List.mem_cons_of_mem _ hy)
  rw [List.map_cons,PyData.depthAll]
  omega
theorem zeA (p:Pr):PyData.canLay0 (prT p) = true:=by simp [prT,PyData.canLay0,PyData.canLayAll0]
theorem zex (p:Pr):PyData.depth (prT p) ≤ 1:=by simp [prT,PyData.depth,PyData.depthAll]
theorem zia {ps:List Pr}:PyData.canLay0 (prD ps) = true:=by
 unfold prD
 rw [PyData.canLay0]
 exact zgf fun p _=>zeA p
theorem zhW {ps:List Pr}:PyData.depth (prD ps) ≤ 2:=by
 unfold prD
 rw [PyData.depth]
 have:=zgu (f:=prT) (l:=ps) (n:=1) fun p _=>zex p
 omega
theorem zc8 {ps:List Pr}:SeqAt.shaped (prD ps) = true:=by
 unfold SeqAt.shaped
 rw [Bool.and_eq_true]
 exact ⟨zia,decide_eq_true (Nat.le_trans zhW (by decide))⟩
theorem zfI {H:Hp} {q:Addr} {p:Pr} (h:H q = some (.tup [.int p.1,.int p.2])):RepD H (.ref q) (prT p):=by
 refine .tup h rfl fun j v d h1 h2=>?_
 match j,h1,h2 with
 | 0,h1,h2=>cases h1; cases h2; exact .int _
 | 1,h1,h2=>cases h1; cases h2; exact .int _
 | j + 2,h1,h2=>simp at h1
theorem Prs.rep {H:Hp} {l:Addr} {us:List V} {ps:List Pr} (h:H l = some (.lst us)) (P:Prs H us ps):RepD H (.ref l) (prD ps):=by
 refine .lst h (by rw [List.length_map]; exact P.len) fun i v d h1 h2=>?_
 obtain ⟨q,s1,b1,rfl,hp,hq⟩:=P.get h1
 rw [List.getElem?_map,hp] at h2
 cases h2
 exact zfI (p:=(s1,b1)) hq
noncomputable def KV (v:V):Prop:=v = .non ∨ (∃ s:Str,(s = "n" ∨ s = "h")∧v = .str s) ∨ ∃ i:Int,0 ≤ i∧v = .int i
theorem KV.flat {v:V} (h:KV v):flatV v = true:=by
 rcases h with rfl | ⟨s,_,rfl⟩ | ⟨i,_,rfl⟩ <;> rfl
theorem KV.scalI {v:V} (h:KV v) {i:Int}:scal v (.int i) = true:=by
 rcases h with rfl | ⟨s,_,rfl⟩ | ⟨i,_,rfl⟩ <;> rfl
theorem KV.scalS {v:V} (h:KV v) {s:Str}:scal v (.str s) = true:=by
 rcases h with rfl | ⟨s,_,rfl⟩ | ⟨i,_,rfl⟩ <;> rfl
noncomputable def pW (us:List V):Int:=match us with
 | .int p :: _=>p
 | _=>0
noncomputable def qW (us:List V):Int:=match us with
 | _ :: .int q :: _=>q
 | _=>0
noncomputable def gn (w:Str):Str:=if w ∈ (["nil","make","fetch"]:List Str) then "h" else "n"
noncomputable def zcD (k:V):Bool:=match k with
 | .int i=>decide (i < 8)
 | _=>false
noncomputable def zeB (p:Nat) (k:V):Bool:=decide ((p:Int) < 8) || zcD k
noncomputable def zbN (hs:List Int) (ps:List Pr) (p:Nat) (k:V):Bool:=match k with
 | .str s=>if s = "h" then !decide ((p:Int) ∈ hs) else false
 | .int i=>!decide (((p:Int),i) ∈ ps)
 | _=>false
noncomputable def mpn (f:Nat->V->V) (xs:List V) (n:Nat):List V:=(List.range n).map fun p=>f p (xs.getD p .non)
theorem zeK {f:Nat->V->V} {xs:List V} {n:Nat} {x:V} (h:xs[n]? = some x):mpn f xs (n + 1) = mpn f xs n ++ [f n x]:=by
 unfold mpn
 rw [List.range_succ,List.map_append,List.map_cons,List.map_nil,List.getD_eq_getElem?_getD,h]
 rfl
theorem zbK {f:Nat->V->V} {xs:List V} {n:Nat}:(mpn f xs n).length = n:=by
 unfold mpn
 rw [List.length_map,List.length_range]
theorem zfz {f:Nat->V->V} {xs:List V} {n i:Nat} (h:i < n):(mpn f xs n)[i]? = some (f i (xs.getD i .non)):=by
 unfold mpn
 rw [List.getElem?_map,List.getElem?_range h]
 rfl
theorem zhr {xs ys:List V} (l:xs.length = ys.length) (h:∀ (i:Nat) (x y:V),xs[i]? = some x->ys[i]? = some y->x = y):xs = ys:=by
 apply List.ext_getElem?
 intro i
 by_cases c:i < xs.length
 ·have h1:=List.getElem?_eq_getElem c
  have h2:=List.getElem?_eq_getElem (l:=ys) (i:=i) (by omega)
  rw [h1,h2,h i _ _ h1 h2]
 ·rw [List.getElem?_eq_none (by omega),List.getElem?_eq_none (by omega)]
abbrev Tb:=Option (List Int × List Pr)
noncomputable def bh1 (w:Str) (ks:List V):List V:=if w = "call" then mpn (fun p k=>if zeB p k then .non else k) ks ks.length else ks
noncomputable def bh2 (w:Str) (tb:Tb) (ks:List V):List V:=match tb with
 | none=>ks
 | some t=>if zbF w then mpn (fun p k=>if zbN t.1 t.2 p k then .non else k) ks ks.length else ks
noncomputable def zdG (gv:List Str) (w:Str) (us ks:List V):V :=
 if w = "call" then .str (gv.getD (qW us).toNat "")
 else if w = "copy" then (if ks.getD (qW us).toNat .non = .int (pW us) then .non else ks.getD (qW us).toNat .non)
 else if w = "into" then (if qW us = pW us then .non else .int (qW us))
 else .str (gn w)
noncomputable def bh3 (gv:List Str) (w:Str) (us ks k2:List V):List V:=if w ∈ WRw then (k2.map fun k=>if k = .int (pW us) then .non else k).set (pW us).toNat (zdG gv w us ks) else k2
noncomputable def bh (gv:List Str) (w:Str) (us ks:List V) (tb:Tb):List V:=bh3 gv w us ks (bh2 w tb (bh1 w ks))
structure RowOk (places:Int) (w:Str) (us:List V):Prop where
 wr:w ∈ WRw->∃ p rest,us = .int p :: rest∧0 ≤ p∧p < places
 cp:w = "copy"->∃ p q rest,us = .int p :: .int q :: rest∧0 ≤ q∧q < places
 into:w = "into"->∃ p q rest,us = .int p :: .int q :: rest∧0 ≤ q
 call:w = "call"->∃ p g rest,us = .int p :: .int g :: rest∧0 ≤ g∧g < 2
noncomputable def wrU (w:Str) (us:List V):V:=if w ∈ WRw then .int (pW us) else .non
noncomputable def sp_writes:Sp:=fun vs H Q _=>∃ (q:Addr) (w:Str) (us:List V) (places:Int),vs = [.ref q]∧H q = some (.tup (.str w :: us))∧RowOk places w us∧∀ H',Same H H'->Q (wrU w us) H'
set_option maxHeartbeats 2000000 in
theorem zfV (T:Txt K mg a):FnOk P w K mg base CX0 1 a.f_writes a.d_writes ["row"] sp_writes:=by
 refine T.F_writes.okC sc_writes (fun vs H Q E h=>?_) (fun cdv A outer s H vs Q E hr h=>?_)
 ·obtain ⟨q,w,us,places,rfl,_⟩:=h
  rfl
 ·obtain ⟨q,w,us,places,rfl,hp,F,k⟩:=h
  have hu:=zaT hr
  have kw:=zhb (ws:=WRw) (zed T.k_WRITERS)
  refine ⟨_,(@zaf _ _ _ (zao (za2 (zak op_in_seq (zah ix_F (pv 0) zag (fun _ _=>rfl)) (zb9 (v:=.ref a.g_WRITERS) (by rfl) T.m_WRITERS (by rfl)) (by with_unfolding_all rfl)) (zah ix_F (pv 0) zag (fun _ _=>rfl)) zaR))),?_⟩
  simp! [hp]
  refine zcA (.inr (kw H)) ⟨_,rfl,?_⟩
  rw [if_neg Bool.false_ne_true]
  have:=k H (Same.refl _)
  unfold wrU at this
  by_cases c:w ∈ WRw
  ·rw [if_pos c] at this
   rw [if_pos (decide_eq_true c)]
   obtain ⟨p,rest,rfl,_⟩:=F.wr c
   exact ⟨_,by rw [hp]; rfl,_,za8,this⟩
  ·rw [if_neg c] at this
   rw [if_neg (by simpa using c)]
   exact this
set_option maxHeartbeats 2000000 in
theorem zdy (T:Txt K mg a):FnOk P w K mg base CX0 1 a.f_law_writes a.d_law_writes ["row"] sp_writes:=by
 refine T.F_law_writes.okC sc_law_writes (fun vs H Q E h=>?_) (fun cdv A outer s H vs Q E hr h=>?_)
 ·obtain ⟨q,w,us,places,rfl,_⟩:=h
  rfl
 ·obtain ⟨q,w,us,places,rfl,hp,F,k⟩:=h
  have hu:=zaT hr
  refine ⟨_,(@zad _ _ _ _ _ (@zaD _ _ _ _ _ _ _ _ (zak op_in_seq (zah ix_F (pv 0) zag (fun _ _=>rfl)) (zav (@zam _ _ _ _ _ _ (@zam _ _ _ _ _ _ (@zam _ _ _ _ _ _ (@zam _ _ _ _ _ _ (@zam _ _ _ _ _ _ (@zam _ _ _ _ _ _ (@zam _ _ _ _ _ _ (@zam _ _ _ _ _ _ (@zam _ _ _ _ _ _ (@zam _ _ _ _ _ _ (@zam _ _ _ _ _ _ pa_nil)))))))))))) (by with_unfolding_all rfl)) (@zaf _ _ _ (zao (zah ix_F (pv 0) zag (fun _ _=>rfl)))) pss_nil)
   (@zaf _ _ _ (zao zaR))),?_⟩
  simp! [hp]
  intro t nt
  refine zcA (ws:=WRw) (.inl (.of zaa)) ⟨_,rfl,?_⟩
  rw [if_neg Bool.false_ne_true]
  have:=k _ (Same.laid (u:=.lst (WRw.map V.str)) nt)
  unfold wrU at this
  by_cases c:w ∈ WRw
  ·rw [if_pos c] at this
   rw [if_pos (decide_eq_true c)]
   obtain ⟨p,rest,rfl,_⟩:=F.wr c
   exact ⟨_,by rw [zab hp nt]; rfl,_,za8,this⟩
  ·rw [if_neg c] at this
   rw [if_neg (by simpa using c)]
   exact this
noncomputable def isSp (k:V):Bool:=match k with
 | .int _=>true
 | _=>false
noncomputable def sp_spot:Sp:=fun vs H Q _=>∃ k:V,vs = [k]∧KV k∧Q (.bl (isSp k)) H
set_option maxHeartbeats 2000000 in
theorem zc9 (T:Txt K mg a):FnOk P w K mg base CX0 1 a.f_is_spot a.d_is_spot ["kind"] sp_spot:=by
 refine T.F_is_spot.okC sc_is_spot (fun vs H Q E h=>?_) (fun cdv A outer s H vs Q E hr h=>?_)
 ·obtain ⟨k,rfl,_⟩:=h
  rfl
 ·obtain ⟨k,rfl,kv,q⟩:=h
  have hu:=zaT hr
  refine ⟨_,(@zaf _ _ _ (zao (zax call_isF (by rfl) T.z_isinstance (by decide +kernel) (@zac _ _ _ _ _ _ (pv 0) (@zac _ _ _ _ _ _ (zaV (v:=.ty "int") (u:=.type "int") (by rfl) T.z_int (by decide +kernel) (by rfl)) pa_nil))))),?_⟩
  rcases kv with rfl | ⟨s,_,rfl⟩ | ⟨i,_,rfl⟩
  ·simp! []
   exact q
  ·simp! []
   exact q
  ·simp! []
   exact q
noncomputable def sp_lostC:Sp:=fun vs H Q _=>∃ (p:Nat) (k:V),vs = [.int p,k]∧KV k∧Q (.bl (zeB p k)) H
set_option maxHeartbeats 2000000 in
theorem zb7 (T:Txt K mg a):FnOk P w K mg base CX0 2 a.f_is_lost_at_call a.d_is_lost_at_call ["p","kind"] sp_lostC:=by
 refine T.F_is_lost_at_call.okC sc_is_lost_at_call (fun vs H Q E h=>?_) (fun cdv A outer s H vs Q E hr h=>?_)
 ·obtain ⟨p,k,rfl,_⟩:=h
  rfl
 ·obtain ⟨p,k,rfl,kv,q⟩:=h
  have hu:=zaT hr
  refine ⟨_,(@zaf _ _ _ (zao (pe_or (za1 op_lt (pv 0) (zb9 (v:=.int (8)) (by rfl) T.m_BOXES ⟨_,rfl⟩) (zat _)) (zcE (zcG (zal (zc9 T) (hr.mono (by decide)) (by rfl) T.m_is_spot T.F_is_spot.kp T.b_is_spot .nil zaC (@zac _ _ _ _ _ _ (pv 1) pa_nil)) (zcE (za1 op_lt (pv 1) (zb9 (v:=.int (8)) (by rfl) T.m_BOXES ⟨_,rfl⟩) (zat _)))))))),?_⟩
  simp! []
  unfold zeB at q
  refine ite2 (fun c=>?_) fun c=>?_
  ·rw [decide_eq_true c] at q
   exact q
  ·rw [decide_eq_false c,Bool.false_or] at q
   refine ⟨k,rfl,kv,_,rfl,?_⟩
   rcases kv with rfl | ⟨s,_,rfl⟩ | ⟨i,_,rfl⟩
   ·exact q
   ·exact q
   ·exact ⟨i,rfl,q⟩
theorem zep {p:Pr}:∀ {ps:List Pr},((ps.map prT).any fun d=>d.eqv (prT p)) = decide (p ∈ ps)
 | []=>rfl
 | x :: ps=>by
  rw [List.map_cons,List.any_cons,zep,Bool.eq_iff_iff,Bool.or_eq_true,decide_eq_true_eq,decide_eq_true_eq,List.mem_cons]
  have:(prT x).eqv (prT p) = true ↔ p = x:=by
   obtain ⟨x1,x2⟩:=x
   obtain ⟨p1,p2⟩:=p
   simp [prT,PyData.eqv,PyData.eqvAll]
   constructor
   ·rintro ⟨rfl,rfl⟩; exact ⟨rfl,rfl⟩
   ·rintro ⟨rfl,rfl⟩; exact ⟨rfl,rfl⟩
  rw [this]
noncomputable def sp_lostT:Sp:=fun vs H Q _=>∃ (p:Nat) (k:V) (t l m:Addr) (us:List V) (hs:List Int) (ps:List Pr),vs = [.int p,k,.ref t]∧KV k∧H t = some (.tup [.ref l,.ref m])∧TabAt H l m us hs ps∧∀ H',Same H H'->Q (.bl (zbN hs ps p k)) H'
set_option maxHeartbeats 2000000 in
theorem zbR (T:Txt K mg a):FnOk P w K mg base CX0 2 a.f_is_lost_at_table a.d_is_lost_at_table ["p","kind","table"] sp_lostT:=by
 refine T.F_is_lost_at_table.okC sc_is_lost_at_table (fun vs H Q E h=>?_) (fun cdv A outer s H vs Q E hr h=>?_)
 ·obtain ⟨p,k,t,l,m,us,hs,ps,rfl,_⟩:=h
  rfl
 ·obtain ⟨p,k,t,l,m,us,hs,ps,rfl,kv,ht,TA,q⟩:=h
  have hu:=zaT hr
  refine ⟨_,(@zad _ _ _ _ _ (@zaD _ _ _ _ _ _ _ _ (zak op_eq (pv 1) zaB (zat _)) (@zaf _ _ _ (zao (za1 op_notIn_seq (pv 0) (zah ix_F (pv 2) zag (fun _ _=>rfl)) (by with_unfolding_all rfl)))) pss_nil)
   (@zaf _ _ _ (zao (zcG (zal (zc9 T) (hr.mono (by decide)) (by rfl) T.m_is_spot T.F_is_spot.kp T.b_is_spot .nil zaC (@zac _ _ _ _ _ _ (pv 1) pa_nil)) (zcE (za1 (zdT hr.units) (zas (@zac _ _ _ _ _ _ (pv 0) (@zac _ _ _ _ _ _ (pv 1) pa_nil))) (zah ix_F (pv 2) zag (fun _ _=>rfl)) (by with_unfolding_all rfl))))))),?_⟩
  simp! []
  refine ⟨kv.scalS,?_⟩
  rcases kv with rfl | ⟨s,sn,rfl⟩ | ⟨i,i0,rfl⟩
  ·rw [if_neg (by intro z; cases z)]
   exact ⟨.non,rfl,.inl rfl,false,rfl,q H (Same.refl _)⟩
  ·by_cases c:s = "h"
   ·rw [if_pos (by rw [c])]
    refine ⟨_,by rw [ht]; rfl,_,zcZ,zcy TA.hl ?_⟩
    rw [if_pos rfl]
    have:=q H (Same.refl _)
    unfold zbN at this
    dsimp only at this
    rw [if_pos c] at this
    exact this
   ·rw [if_neg (fun z=>c (V.str.inj z))]
    refine ⟨.str s,rfl,.inr (.inl ⟨s,sn,rfl⟩),false,rfl,?_⟩
    have:=q H (Same.refl _)
    unfold zbN at this
    dsimp only at this
    rw [if_neg c] at this
    exact this
  ·rw [if_neg (by intro z; cases z)]
   refine ⟨.int i,rfl,.inr (.inr ⟨i,i0,rfl⟩),true,rfl,?_⟩
   rw [if_pos rfl]
   intro t' nt'
   have S:=Same.laid nt' (u:=.tup [V.int p,.int i])
   refine ⟨_,by rw [S _ _ ht]; rfl,_,za8,prT ((p:Int),i),ps.map prT,zfI (p:=((p:Int),i)) zaa,(TA.pr.same S).rep (S _ _ TA.hm),?_,zc8,?_⟩
   ·unfold SeqAt.shaped
    rw [Bool.and_eq_true]
    exact ⟨zeA _,decide_eq_true (Nat.le_trans (zex _) (by decide))⟩
   ·rw [if_pos rfl,zep]
    exact q _ S
end
section
variable {P:Program} {w:World} {K:PySem.W.Frag} {mg:Str->Option Value} {base:Heap} {a:Ad}
theorem zca {n i:Nat} (h:i < n):ixN n (i:Int) = some i:=by
 unfold ixN
 rw [if_pos (by omega),if_pos (by omega),Int.toNat_natCast]
noncomputable def GNT:List (Str × Str):=[("put","n"),("nil","h"),("plus","n"),("less","n"),("make","h"),("fetch","h"),("read","n"),("look","n")]
noncomputable def gntD (p:Str × Str):PyData × PyData:=(.str p.1,.str p.2)
theorem kd_gains_eq:kd_GAINS = .dict (GNT.map gntD):=rfl
theorem gn_of:∀ w ∈ WRw,w ≠ "call"->w ≠ "copy"->w ≠ "into"->GNT.lookup w = some (gn w):=by decide +kernel
theorem zgl {w s:Str}:∀ {D:List (Str × V)} {us:List (Str × Str)},D.length = us.length->(∀ (i:Nat) (p:Str × V) (q:Str × Str),D[i]? = some p->us[i]? = some q->p.1 = q.1)->(∀ (i:Nat) (p:Str × V) (q:Str × Str),D[i]? = some p->us[i]? = some q->KRp K p.2 (.str q.2))->us.lookup w = some s->PyProof.Rows.KTD.datumAt w D = some (.str s)
 | [],[],_,_,_,h=>by simp at h
 | [],u :: us,h,_,_,_=>by simp at h
 | d :: D,[],h,_,_,_=>by simp at h
 | d :: D,u :: us,hl,hk,hv,h=>by
  have k0:=hk 0 d u rfl rfl
  have v0:=hv 0 d u rfl rfl
  rw [List.lookup_cons] at h
  split at h
  ·rename_i e
   cases h
   have e2:=eq_of_beq e
   obtain ⟨d1,d2⟩:=d
   have:d1 = w:=by rw [e2]; exact k0
   subst this
   have e3:d2 = .str u.2:=by
    have v1:KRp K d2 (.str u.2):=v0
    cases v1
    rfl
   subst e3
   simp [PyProof.Rows.KTD.datumAt]
  ·rename_i e
   have g1:=zgl (D:=D) (us:=us) (by simpa using hl) (fun i p q h1 h2=>hk (i + 1) p q (by simpa using h1) (by simpa using h2)) (fun i p q h1 h2=>hv (i + 1) p q (by simpa using h1) (by simpa using h2)) h
   obtain ⟨d1,d2⟩:=d
   have ne:d1 ≠ w:=fun z=>by
    have:d1 = u.1:=k0
    rw [← this,z] at e
    simp at e
   simp only [PyProof.Rows.KTD.datumAt]
   rw [if_neg (by simpa using Ne.symm ne)]
   exact g1
structure PgB (H:Hp) (pl:Addr) (das:List (Addr × Addr)) (sg:List (Str × Str)) (ws:Nat->Int):Prop where
 top:H pl = some (.lst (das.map fun a=>V.ref a.1))
 l1:das.length = 2
 l2:sg.length = 2
 def_:∀ (i:Nat) (a:Addr × Addr) (x:Str × Str),das[i]? = some a->sg[i]? = some x->H a.1 = some (.tup [.str x.1,.str x.2,.int (ws i),.ref a.2])
theorem PgB.same {H H':Hp} {pl:Addr} {das:List (Addr × Addr)} {sg:List (Str × Str)} {ws:Nat->Int} (x:PgB H pl das sg ws) (S:Same H H')  :PgB H' pl das sg ws:=⟨S _ _ x.top,x.l1,x.l2,fun i a y h1 h2=>S _ _ (x.def_ i a y h1 h2)⟩
theorem PgB.get {H:Hp} {pl:Addr} {das:List (Addr × Addr)} {sg:List (Str × Str)} {ws:Nat->Int} (x:PgB H pl das sg ws) {f:Nat} (hf:f < 2):∃ (a:Addr × Addr) (y:Str × Str),das[f]? = some a∧sg[f]? = some y∧atI (das.map fun a=>V.ref a.1) ((f:Nat):Int) = some (.ref a.1)∧H a.1 = some (.tup [.str y.1,.str y.2,.int (ws f),.ref a.2]):=by
 have h1:=List.getElem?_eq_getElem (l:=das) (i:=f) (by rw [x.l1]; exact hf)
 have h2:=List.getElem?_eq_getElem (l:=sg) (i:=f) (by rw [x.l2]; exact hf)
 exact ⟨_,_,h1,h2,zau (by rw [List.getElem?_map,h1]; rfl),x.def_ f _ _ h1 h2⟩
noncomputable def sp_places:Sp:=fun vs H Q _=>∃ (pl:Addr) (f:Nat) (das:List (Addr × Addr)) (sg:List (Str × Str)) (ws:Nat->Int) (words:Int),vs = [.ref pl,.int f]∧PgB H pl das sg ws∧ws f = words∧f < 2∧Q (.int (8 + words)) H
set_option maxHeartbeats 2000000 in
theorem zdR (T:Txt K mg a):FnOk P w K mg base CX0 1 a.f_places_of a.d_places_of ["program","f"] sp_places:=by
 refine T.F_places_of.okC sc_places_of (fun vs H Q E h=>?_) (fun cdv A outer s H vs Q E hr h=>?_)
 ·obtain ⟨pl,f,das,sg,ws,words,rfl,_⟩:=h
  rfl
 ·obtain ⟨pl,f,das,sg,ws,words,rfl,PG,wf,hf,k⟩:=h
  have hu:=zaT hr
  refine ⟨_,(@zaf _ _ _ (zao (zaK op_add (zb9 (v:=.int (8)) (by rfl) T.m_BOXES ⟨_,rfl⟩) (zah ix_F (zah ix_F (pv 0) (pv 1) (fun _ _=>rfl)) zag (fun _ _=>rfl))))),?_⟩
  obtain ⟨da,y,h1,h2,ad,ht⟩:=PG.get hf
  rw [wf] at ht
  have topp:=PG.top
  simp! [topp,ad,ht]
  exact k
noncomputable def sp_gained:Sp:=fun vs H Q _=>∃ (pl q kl:Addr) (das:List (Addr × Addr)) (sg:List (Str × Str)) (ws:Nat->Int) (words:Int) (w:Str) (us ks:List V),vs = [.ref pl,.ref q,.ref kl]∧PgB H pl das sg ws∧H q = some (.tup (.str w :: us))∧RowOk (8 + words) w us∧H kl = some (.lst ks)∧(∀ k ∈ ks,KV k)∧(ks.length:Int) = 8 + words∧w ∈ WRw∧Q (zdG (sg.map (·.2)) w us ks) H
set_option maxHeartbeats 2000000 in
theorem zfP (T:Txt K mg a):FnOk P w K mg base CX0 1 a.f_gained a.d_gained ["program","row","kinds"] sp_gained:=by
 refine T.F_gained.okC sc_gained (fun vs H Q E h=>?_) (fun cdv A outer s H vs Q E hr h=>?_)
 ·obtain ⟨pl,q,kl,das,sg,ws,words,w,us,ks,rfl,_⟩:=h
  rfl
 ·obtain ⟨pl,q,kl,das,sg,ws,words,w,us,ks,rfl,PG,hq,RO,hk,kv,lk,hw,k⟩:=h
  have hu:=zaT hr
  refine ⟨_,(@zad _ _ _ _ _ (zaw (i:=3) sc_gained.nd (by rfl) (Or.inl rfl) (zah ix_F (pv 1) zag (fun _ _=>rfl)))
   (@zad _ _ _ _ _ (@zaD _ _ _ _ _ _ _ _ (zak op_eq (pv 3) zaB (zat _)) (@zaf _ _ _ (zao (zah ix_F (zah ix_F (pv 0) (zah ix_F (pv 1) zag (fun _ _=>rfl)) (fun _ _=>rfl)) zag (fun _ _=>rfl)))) pss_nil)
   (@zad _ _ _ _ _ (@zaD _ _ _ _ _ _ _ _ (zak op_eq (pv 3) zaB (zat _)) (@zaf _ _ _ (zao (za2 (zak op_eq (zah ix_F (pv 2) (zah ix_F (pv 1) zag (fun _ _=>rfl)) (fun _ _=>rfl)) (zah ix_F (pv 1) zag (fun _ _=>rfl)) (zat _)) zaR (zah ix_F (pv 2) (zah ix_F (pv 1) zag (fun _ _=>rfl)) (fun _ _=>rfl))))) pss_nil)
   (@zad _ _ _ _ _ (@zaD _ _ _ _ _ _ _ _ (zak op_eq (pv 3) zaB (zat _)) (@zaf _ _ _ (zao (za2 (zak op_eq (zah ix_F (pv 1) zag (fun _ _=>rfl)) (zah ix_F (pv 1) zag (fun _ _=>rfl)) (zat _)) zaR (zah ix_F (pv 1) zag (fun _ _=>rfl))))) pss_nil)
   (@zaf _ _ _ (zao (zfZ (K:=K) (by rfl) (zb9 (v:=.ref a.g_GAINS) (by rfl) T.m_GAINS (by rfl)) (pv 3) (fun _ _=>rfl)))))))),?_⟩
  have topp:=PG.top
  unfold zdG at k
  simp! [hq,topp]
  refine ite2 (fun c=>?_) fun c1=>ite2 (fun c=>?_) fun c2=>ite2 (fun c=>?_) fun c3=>?_
  ·rw [if_pos c] at k
   obtain ⟨p,g,rest,rfl,g0,g1⟩:=RO.call c
   obtain ⟨gN,rfl⟩:=Int.eq_ofNat_of_zero_le g0
   obtain ⟨da,y,h1,h2,ad,ht⟩:=PG.get (f:=gN) (by omega)
   have e:(sg.map (·.2)).getD (qW (.int p :: .int gN :: rest)).toNat (Str.ofString "") = y.2:=by
    show (sg.map (·.2)).getD ((gN:Int)).toNat (Str.ofString "") = _
    rw [Int.toNat_natCast,List.getD_eq_getElem?_getD,List.getElem?_map,h2]; rfl
   rw [e] at k
   exact ⟨_,zb1,_,rfl,_,ad,_,rfl,_,by rw [ht]; rfl,_,za8,k⟩
  ·rw [if_neg c1,if_pos c] at k
   obtain ⟨p,g,rest,rfl,g0,g1⟩:=RO.cp c
   obtain ⟨gN,rfl⟩:=Int.eq_ofNat_of_zero_le g0
   have hkn:=List.getElem?_eq_getElem (l:=ks) (i:=gN) (by omega)
   have kvn:=kv _ (List.mem_of_getElem? hkn)
   have e:ks.getD (qW (.int p :: .int gN :: rest)).toNat .non = ks[gN]'(by omega):=by
    show ks.getD ((gN:Int)).toNat .non = _
    rw [Int.toNat_natCast,List.getD_eq_getElem?_getD,hkn]; rfl
   rw [e] at k
   clear e
   revert hkn kvn k
   generalize ks[gN]'_ = kk
   intro k hkn kvn
   change Q (if kk = .int p then .non else kk) H at k
   refine ⟨_,zb1,_,rfl,_,by rw [hk]; rfl,_,zau hkn,_,za8,kvn.scalI,?_⟩
   by_cases e:kk = .int p
   ·rw [if_pos e]
    rw [if_pos e] at k
    exact k
   ·rw [if_neg e]
    rw [if_neg e] at k
    exact ⟨_,zb1,_,rfl,_,by rw [hk]; rfl,_,zau hkn,k⟩
  ·rw [if_neg c1,if_neg c2,if_pos c] at k
   obtain ⟨p,g,rest,rfl,g0⟩:=RO.into c
   change Q (if g = p then .non else .int g) H at k
   refine ⟨_,zb1,_,za8,rfl,?_⟩
   by_cases e:g = p
   ·rw [if_pos (by rw [e])]
    rw [if_pos e] at k
    exact k
   ·rw [if_neg (fun z=>e (V.int.inj z))]
    rw [if_neg e] at k
    exact ⟨_,zb1,k⟩
  ·rw [if_neg c1,if_neg c2,if_neg c3] at k
   have lkw:=gn_of w hw c1 c2 c3
   have hK:=zed T.k_GAINS
   rw [kd_gains_eq] at hK
   cases hK with
   | dct g1 g2 g3 g4 =>
    rename_i D0
    rw [List.length_map] at g2
    have d1:=zgl g2 (fun i p q h1 h2=>by
     have:=g3 i p (gntD q) h1 (by rw [List.getElem?_map,h2]; rfl)
     exact (PyData.str.inj this).symm) (fun i p q h1 h2=>g4 i p (gntD q) h1 (by rw [List.getElem?_map,h2]; rfl)) lkw
    exact ⟨.str w,rfl,a.g_GAINS,D0,w,_,rfl,rfl,g1,d1,k⟩
noncomputable def fkV (z:Str) (n:Nat):List V:=z.cps.toList.map (fun c=>V.str ⟨#[c]⟩) ++ List.replicate (n - z.cps.size) .non
theorem rep_non:∀ n:Nat,(List.replicate n [V.non]).flatten = List.replicate n V.non:=fun n=>by
 induction n with
 | zero=>rfl
 | succ n ih=>rw [List.replicate_succ,List.flatten_cons,ih,List.replicate_succ]; rfl
noncomputable def sp_first:Sp:=fun vs H Q _=>∃ (pl:Addr) (f:Nat) (das:List (Addr × Addr)) (sg:List (Str × Str)) (ws:Nat->Int) (words:Int) (y:Str × Str),vs = [.ref pl,.int f]∧PgB H pl das sg ws∧ws f = words∧f < 2∧sg[f]? = some y∧y.1.cps.size ≤ 6∧y.1.cps.all (· < 128) = true∧0 ≤ words∧words ≤ 16∧∀ (l:Addr) (H':Hp),H l = none->Same H H'->H' l = some (.lst (fkV y.1 (8 + words).toNat))->Q (.ref l) H'
set_option maxHeartbeats 2000000 in
theorem zbG (T:Txt K mg a):FnOk P w K mg base CX0 2 a.f_first_kinds a.d_first_kinds ["program","f"] sp_first:=by
 refine T.F_first_kinds.okC sc_first_kinds (fun vs H Q E h=>?_) (fun cdv A outer s H vs Q E hr h=>?_)
 ·obtain ⟨pl,f,das,sg,ws,words,y,rfl,_⟩:=h
  rfl
 ·obtain ⟨pl,f,das,sg,ws,words,y,rfl,PG,wf,hf,hy,z6,za,w0,w16,k⟩:=h
  have hu:=zaT hr
  refine ⟨_,(@zad _ _ _ _ _ (zaw (i:=2) sc_first_kinds.nd (by rfl) (Or.inl rfl) (zaN (zbH (by rfl)) (by rfl) T.z_list (by decide +kernel) (zae (zah ix_F (zah ix_F (pv 0) (pv 1) (fun _ _=>rfl)) zag (fun _ _=>rfl)) pa_nil)))
   (@zaf _ _ _ (zao (zaK op_cat (pv 2) (zaK op_rep (zav (zae zaR pa_nil)) (zaK op_sub (zal (zdR T) (hr.mono (by decide)) (by rfl) T.m_places_of T.F_places_of.kp T.b_places_of .nil zaC (@zac _ _ _ _ _ _ (pv 0) (@zac _ _ _ _ _ _ (pv 1) pa_nil))) (zax call_lenF (by rfl) T.z_len (by decide +kernel) (@zac _ _ _ _ _ _ (pv 2) pa_nil)))))))),?_⟩
  obtain ⟨da,y',h1,h2,ad,ht⟩:=PG.get hf
  rw [wf] at ht
  rw [hy] at h2
  cases h2
  have topp:=PG.top
  simp! [topp,ad,ht]
  refine ⟨by omega,fun l2 nl2=>?_⟩
  intro p np
  have S2:=(Same.laid nl2 (u:=.lst (y.1.cps.toList.map fun c=>V.str ⟨#[c]⟩))).step np (u:=.lst [V.non])
  have hl2:=zab (u:=.lst [V.non]) (zaa (H:=H) (a:=l2) (o:=.lst (y.1.cps.toList.map fun c=>V.str ⟨#[c]⟩))) np
  have le:(y.1.cps.toList.map fun c=>V.str ⟨#[c]⟩).length = y.1.cps.size:=by rw [List.length_map,Array.length_toList]
  refine ⟨pl,f,das,sg,ws,words,rfl,PG.same S2,wf,hf,y.1.cps.size,by rw [hl2,zdD,le],_,rfl,?_⟩
  refine ⟨p,8 + words - (y.1.cps.size:Int),_,rfl,rfl,zaa,by omega,by omega,by rw [sizeLine_eq]; simp; omega,fun r nr=>?_⟩
  rw [rep_non,show (8 + words - (y.1.cps.size:Int)).toNat = (8 + words).toNat - y.1.cps.size by omega]
  refine ⟨l2,r,_,_,rfl,rfl,zab hl2 nr,zaa,by rw [sizeLine_eq,le,List.length_replicate]; omega,fun x nx=>?_⟩
  exact k x _ ((S2.step nr).free nx) ((S2.step nr).step nx) zaa
noncomputable def TbV (H:Hp) (tv:V) (tb:Tb):Prop:=(tv = .non∧tb = none) ∨ ∃ (t l m:Addr) (us:List V) (hs:List Int) (ps:List Pr),tv = .ref t∧tb = some (hs,ps)∧H t = some (.tup [.ref l,.ref m])∧TabAt H l m us hs ps
theorem TbV.same {H H':Hp} {tv:V} {tb:Tb} (h:TbV H tv tb) (S:Same H H'):TbV H' tv tb:=by
 rcases h with h | ⟨t,l,m,us,hs,ps,h1,h2,h3,h4⟩
 ·exact .inl h
 ·exact .inr ⟨t,l,m,us,hs,ps,h1,h2,S _ _ h3,h4.same S⟩
noncomputable def sp_behind:Sp:=fun vs H Q _=>∃ (pl kl rq rl dl:Addr) (f at_:Nat) (tv:V) (tb:Tb) (das:List (Addr × Addr)) (sg:List (Str × Str)) (ws:Nat->Int) (words:Int) (rws:List Addr) (w:Str) (us ks:List V),vs = [.ref pl,.int f,.int at_,.ref kl,tv]∧PgB H pl das sg ws∧ws f = words∧f < 2∧das[f]? = some (dl,rl)∧H rl = some (.lst (rws.map V.ref))∧rws[at_]? = some rq∧H rq = some (.tup (.str w :: us))∧RowOk (8 + words) w us∧TbV H tv tb∧H kl = some (.lst ks)∧(∀ k ∈ ks,KV k)∧(ks.length:Int) = 8 + words∧words ≤ 16∧∀ (l:Addr) (H':Hp),H l = none->Same H H'->H' l = some (.lst (bh (sg.map (·.2)) w us ks tb))->Q (.ref l) H'
theorem zd3 {w:Str} {ks:List V} (h:∀ k ∈ ks,KV k):(∀ k ∈ bh1 w ks,KV k)∧(bh1 w ks).length = ks.length:=by
 unfold bh1
 split
 ·refine ⟨fun k hk=>?_,zbK⟩
  unfold mpn at hk
  obtain ⟨p,hp,rfl⟩:=List.mem_map.mp hk
  dsimp only
  split
  ·exact .inl rfl
  ·have pl:=List.mem_range.mp hp
   rw [List.getD_eq_getElem?_getD,List.getElem?_eq_getElem pl]
   exact h _ (List.getElem_mem pl)
 ·exact ⟨h,rfl⟩
theorem zf4 {w:Str} {tb:Tb} {ks:List V} (h:∀ k ∈ ks,KV k):(∀ k ∈ bh2 w tb ks,KV k)∧(bh2 w tb ks).length = ks.length:=by
 unfold bh2
 split
 ·exact ⟨h,rfl⟩
 ·split
  ·refine ⟨fun k hk=>?_,zbK⟩
   unfold mpn at hk
   obtain ⟨p,hp,rfl⟩:=List.mem_map.mp hk
   dsimp only
   split
   ·exact .inl rfl
   ·have pl:=List.mem_range.mp hp
    rw [List.getD_eq_getElem?_getD,List.getElem?_eq_getElem pl]
    exact h _ (List.getElem_mem pl)
  ·exact ⟨h,rfl⟩
set_option maxHeartbeats 4000000 in
theorem zdQ (T:Txt K mg a):FnOk P w K mg base CX0 3 a.f_behind a.d_behind ["program","f","at","kinds","table"] sp_behind:=by
 refine T.F_behind.okC sc_behind (fun vs H Q E h=>?_) (fun cdv A outer s H vs Q E hr h=>?_)
 ·obtain ⟨pl,kl,rq,rl,dl,f,at_,tv,tb,das,sg,ws,words,rws,w,us,ks,rfl,_⟩:=h
  rfl
 ·obtain ⟨pl,kl,rq,rl,dl,f,at_,tv,tb,das,sg,ws,words,rws,wd,us,ks,rfl,PG,wf,hf,hda,hrl,hrq,hrow,RO,TV,hk,kv,lk,w16,q⟩:=h
  have hu:=zaT hr
  refine ⟨_,(@zad _ _ _ _ _ (zaw (i:=5) sc_behind.nd (by rfl) (Or.inl rfl) (zah ix_F (zah ix_F (zah ix_F (pv 0) (pv 1) (fun _ _=>rfl)) zag (fun _ _=>rfl)) (pv 2) (fun _ _=>rfl)))
   (@zad _ _ _ _ _ (zaw (i:=6) sc_behind.nd (by rfl) (Or.inl rfl) (zaN call_list_of (by rfl) T.z_list (by decide +kernel) (@zac _ _ _ _ _ _ (pv 3) pa_nil)))
   (@zad _ _ _ _ _ (@zaD _ _ _ _ _ _ _ _ (zak op_eq (zah ix_F (pv 5) zag (fun _ _=>rfl)) zaB (zat _)) (@zaf _ _ _ (zcb (i:=6) sc_behind.nd (by rfl) (Or.inl rfl) (N':=["p","kind"]) (cap:=[none,none]) ⟨rfl,(by decide +kernel),(by decide +kernel),(by rfl),rfl,(by rfl)⟩ (by rfl) (zev (by rfl) T.z_enumerate (@zac _ _ _ _ _ _ (pv 6) pa_nil)) (fun C_ ex_ s_ H_=>(zbo (n:=2) (by rfl) (zaA (zaq (i:=0) (show (["p","kind"]:List Str).Nodup by decide +kernel) (by rfl) (Or.inl rfl)) (zaA (zaq (i:=1) (show (["p","kind"]:List Str).Nodup by decide +kernel) (by rfl) (Or.inl rfl)) pgs_nil)))) (zbS (zaO (by rfl) (zaO (by rfl) zbi))) (fun C_ ex_ s_ H_=>zaJ) (fun C_ ex_ s_ H_=>(za2 (zbh (zal (zb7 T) (by exact hr.mono (by decide)) (by rfl) T.m_is_lost_at_call T.F_is_lost_at_call.kp T.b_is_lost_at_call .nil zaC (@zac _ _ _ _ _ _ (pv 0) (@zac _ _ _ _ _ _ (pv 1) pa_nil)))) zaR (pv 1))))) pss_nil)
   (@zad _ _ _ _ _ (@zaD _ _ _ _ _ _ _ _ (PW.pt (zcm (zbh (zal (ze5 T) (hr.mono (by decide)) (by rfl) T.m_is_stop T.F_is_stop.kp T.b_is_stop .nil zaC (@zac _ _ _ _ _ _ (pv 5) pa_nil))) (zbP (za9 (zcI (pv 4)))))) (@zaf _ _ _ (zcb (i:=6) sc_behind.nd (by rfl) (Or.inl rfl) (N':=["p","kind","table"]) (cap:=[none,none,some 4]) ⟨rfl,(by decide +kernel),(by decide +kernel),(by rfl),rfl,(by rfl)⟩ (by rfl) (zev (by rfl) T.z_enumerate (@zac _ _ _ _ _ _ (pv 6) pa_nil)) (fun C_ ex_ s_ H_=>(zbo (n:=2) (by rfl) (zaA (zaq (i:=0) (show (["p","kind","table"]:List Str).Nodup by decide +kernel) (by rfl) (Or.inl rfl)) (zaA (zaq (i:=1) (show (["p","kind","table"]:List Str).Nodup by decide +kernel) (by rfl) (Or.inl rfl)) pgs_nil)))) (zbS (zaO (by rfl) (zaO (by rfl) zbi))) (fun C_ ex_ s_ H_=>zaJ) (fun C_ ex_ s_ H_=>(za2 (zbh (zal (zbR T) (by exact hr.mono (by decide)) (by rfl) T.m_is_lost_at_table T.F_is_lost_at_table.kp T.b_is_lost_at_table .nil zaC (@zac _ _ _ _ _ _ (pv 0) (@zac _ _ _ _ _ _ (pv 1) (@zac _ _ _ _ _ _ (pv 2) pa_nil))))) zaR (pv 1))))) pss_nil)
   (@zad _ _ _ _ _ (zaw (i:=7) sc_behind.nd (by rfl) (Or.inr rfl) (zal (zfV T) (hr.mono (by decide)) (by rfl) T.m_writes T.F_writes.kp T.b_writes .nil zaC (@zac _ _ _ _ _ _ (pv 5) pa_nil)))
   (@zad _ _ _ _ _ (@zaD _ _ _ _ _ _ _ _ (za9 (zcI (pv 7))) (@zad _ _ _ _ _ (zcb (i:=6) sc_behind.nd (by rfl) (Or.inl rfl) (N':=["kind","written"]) (cap:=[none,some 7]) ⟨rfl,(by decide +kernel),(by decide +kernel),(by rfl),rfl,(by rfl)⟩ (by rfl) (zaI (pv 6)) (fun C_ ex_ s_ H_=>(zaq (i:=0) (show (["kind","written"]:List Str).Nodup by decide +kernel) (by rfl) (Or.inl rfl))) zaS (fun C_ ex_ s_ H_=>zaJ) (fun C_ ex_ s_ H_=>(za2 (zak op_eq (pv 0) (pv 1) (zat _)) zaR (pv 0))))
   (@zaf _ _ _ (zbf (zal (zfP T) (hr.mono (by decide)) (by rfl) T.m_gained T.F_gained.kp T.b_gained .nil zaC (@zac _ _ _ _ _ _ (pv 0) (@zac _ _ _ _ _ _ (pv 5) (@zac _ _ _ _ _ _ (pv 3) pa_nil)))) (zbr (pv 6) (pv 7) set_list)))) pss_nil)
   (@zaf _ _ _ (zao (pv 6))))))))),?_⟩
  obtain ⟨da,y',h1,h2,ad,ht⟩:=PG.get hf
  rw [wf] at ht
  rw [hda] at h1
  cases h1
  have topp:=PG.top
  have ar:atI (rws.map V.ref) ((at_:Nat):Int) = some (.ref rq):=zau (by rw [List.getElem?_map,hrq]; rfl)
  generalize hG3:tSeq (tAsg (zgb _ _ _ _) _) _ = tail3
  generalize hG2:tSeq (tIfS (tAnd _ _) _ _) _ = tail2
  simp! [topp,ad,ht,hrl,ar,hrow]
  have key3:∀ (lf:Addr) (k2:List V) (H':Hp),Same H H'->H lf = none->H' lf = some (.lst k2)->k2 = bh2 wd tb (bh1 wd ks)->tail3 { nx:=fun x H'=>Q V.non H',rt:=Q } [some (V.ref pl),some (V.int f),some (V.int at_),some (V.ref kl),some tv,some (V.ref rq),some (.ref lf),none] H':=by
   intro lf k2 H' S' nlf hlf e2
   have kv2:(∀ k ∈ k2,KV k)∧k2.length = ks.length:=by
    rw [e2]
    have g1:=zd3 (w:=wd) kv
    have g2:=zf4 (w:=wd) (tb:=tb) g1.1
    exact ⟨g2.1,by rw [g2.2,g1.2]⟩
   subst hG3
   clear hG2
   simp! []
   refine ⟨rq,wd,us,_,rfl,S' _ _ hrow,RO,fun H2 S2=>?_⟩
   have S12:=S'.trans S2
   have hl2:=S2 _ _ hlf
   by_cases c:wd ∈ WRw
   ·obtain ⟨p,rest,eu,p0,p1⟩:=RO.wr c
    have ep:pW us = p:=by rw [eu]; rfl
    have ebh:bh (sg.map (·.2)) wd us ks tb = (k2.map fun k=>if k = .int p then .non else k).set p.toNat (zdG (sg.map (·.2)) wd us ks):=by
     unfold bh bh3
     rw [if_pos c,← e2,ep]
    rw [show wrU wd us = .int p by unfold wrU; rw [if_pos c,ep]]
    dsimp only
    rw [if_pos (by intro z; cases z)]
    obtain ⟨pN,rfl⟩:=Int.eq_ofNat_of_zero_le p0
    have e4:k2.filterMap (fun k=>some (if k = .int (pN:Int) then .non else k)) = k2.map fun k=>if k = .int (pN:Int) then .non else k:=by
     show List.filterMap (some ∘ fun k=>if k = V.int (pN:Int) then V.non else k) k2 = _
     rw [List.filterMap_eq_map]
    refine zeT lf k2 (fun k=>some (if k = .int (pN:Int) then .non else k)) (fun Q2 h2=>by simp! []; exact h2) (.of hl2) (by rw [sizeLine_eq]; omega) ?_ ?_
    ·intro x H3 R N hx S3 hR hN
     have kx:=kv2.1 x hx
     simp! [tTrue,zaG]
     refine ⟨kx.scalI,?_⟩
     by_cases e:x = .int (pN:Int)
     ·rw [if_pos e]
      exact hR _ _ (by rw [if_pos e]) (Same.refl _)
     ·rw [if_neg e]
      exact hR _ _ (by rw [if_neg e]) (Same.refl _)
    ·intro D H3 hD S3 e3
     rw [e4] at e3
     have S13:=S12.trans S3
     refine ⟨pl,rq,kl,das,sg,ws,words,wd,us,ks,rfl,PG.same S13,S13 _ _ hrow,RO,S13 _ _ hk,kv,lk,c,?_⟩
     refine ⟨D,rfl,_,pN,rfl,e3,pN,zca (by rw [List.length_map]; omega),?_⟩
     refine q D _ (S12.free hD) (zaz S13 (S12.free hD)) ?_
     rw [zaa,ebh,Int.toNat_natCast]
   ·rw [show wrU wd us = .non by unfold wrU; rw [if_neg c]]
    dsimp only
    rw [if_neg (by intro z; exact z rfl)]
    refine q lf H2 nlf S12 ?_
    unfold bh bh3
    rw [if_neg c,← e2]
    exact hl2
  have key2:∀ (lf:Addr) (k1:List V) (H':Hp),Same H H'->H lf = none->H' lf = some (.lst k1)->k1 = bh1 wd ks->tail2 { nx:=fun x H'=>Q V.non H',rt:=Q } [some (V.ref pl),some (V.int f),some (V.int at_),some (V.ref kl),some tv,some (V.ref rq),some (.ref lf),none] H':=by
   intro lf k1 H' S' nlf hlf e1
   have kv1:(∀ k ∈ k1,KV k)∧k1.length = ks.length:=by rw [e1]; exact zd3 kv
   subst hG2
   clear hG3
   simp! []
   refine ⟨rq,wd,us,rfl,S' _ _ hrow,fun H2 S2=>⟨_,rfl,?_⟩⟩
   have S12:=S'.trans S2
   have hl2:=S2 _ _ hlf
   by_cases c:zbF wd = true
   ·rw [if_pos c]
    rcases TV with ⟨etv,etb⟩ | ⟨t,l,m,us2,hs,ps,etv,etb,ht',TA⟩
    ·rw [if_neg (by intro z; exact z etv)]
     exact key3 lf k1 H2 S12 nlf hl2 (by rw [etb,← e1]; rfl)
    ·rw [if_pos (by rw [etv]; intro z; cases z)]
     refine zhM (H1:=H2) lf k1 (fun Q2 h2=>by simp! []; exact h2) (.of hl2) (fun D j ys H3=>Same H2 H3∧H3 D = some (.lst ys)∧ys = mpn (fun p k=>if zbN hs ps p k then .non else k) k1 j) (fun D hD=>⟨Same.laid hD,zaa,rfl⟩) ?_ (by rw [sizeLine_eq]; omega) ?_ ?_
     ·rintro D hD j ys H3 hj ⟨S3,h3,rfl⟩
      exact ⟨.of (S3 _ _ hl2),h3,by rw [zbK]; exact Nat.le_refl _⟩
     ·rintro D hD j x p ys H3 hx ⟨S3,h3,rfl⟩ np
      refine za7 zaa rfl ?_
      have S4:=S3.step np (u:=.tup [.int j,x])
      have h4:=zab (u:=.tup [.int j,x]) h3 np
      have kx:=kv1.1 x (List.mem_of_getElem? hx)
      simp! [tTrue,zaG]
      refine ⟨j,x,t,l,m,us2,hs,ps,by rw [etv],kx,S4 _ _ (S12 _ _ ht'),(TA.same S12).same S4,fun H5 S5=>⟨_,rfl,?_⟩⟩
      rw [zeK hx]
      cases cl:zbN hs ps j x with
      | true=>exact ⟨S5 _ _ h4,zaz (S4.trans S5) hD,by rw [if_pos rfl]⟩
      | false=>exact ⟨S5 _ _ h4,zaz (S4.trans S5) hD,by rw [if_neg (by simp)]⟩
     ·rintro D hD ys H3 ⟨S3,h3,rfl⟩
      refine key3 D _ H3 (S12.trans S3) (S12.free hD) h3 ?_
      rw [etb,← e1]
      unfold bh2
      dsimp only
      rw [if_pos c]
   ·rw [if_neg c]
    refine key3 lf k1 H2 S12 nlf hl2 ?_
    rw [← e1]
    unfold bh2
    split
    ·rfl
    ·rw [if_neg c]
  clear hG2 hG3
  refine ⟨ks,.inl (.of hk),fun l0 nl0=>?_⟩
  have S0:=Same.laid nl0 (u:=.lst ks)
  refine ⟨_,by rw [S0 _ _ hrow]; rfl,_,zcZ,rfl,?_⟩
  by_cases c:wd = "call"
  ·rw [if_pos (by rw [c])]
   refine zhM (H1:=upd H l0 (.lst ks)) l0 ks (fun Q2 h2=>by simp! []; exact h2) (.of zaa) (fun D j ys H3=>Same (upd H l0 (.lst ks)) H3∧H3 D = some (.lst ys)∧ys = mpn (fun p k=>if zeB p k then .non else k) ks j) (fun D hD=>⟨Same.laid hD,zaa,rfl⟩) ?_ (by rw [sizeLine_eq]; omega) ?_ ?_
   ·rintro D hD j ys H3 hj ⟨S3,h3,rfl⟩
    exact ⟨.of (S3 _ _ zaa),h3,by rw [zbK]; exact Nat.le_refl _⟩
   ·rintro D hD j x p ys H3 hx ⟨S3,h3,rfl⟩ np
    refine za7 zaa rfl ?_
    have S4:=S3.step np (u:=.tup [.int j,x])
    have h4:=zab (u:=.tup [.int j,x]) h3 np
    have kx:=kv x (List.mem_of_getElem? hx)
    simp! [tTrue,zaG]
    refine ⟨j,x,rfl,kx,_,rfl,?_⟩
    rw [zeK hx]
    cases cl:zeB j x with
    | true=>exact ⟨h4,zaz S4 hD,by rw [if_pos rfl]⟩
    | false=>exact ⟨h4,zaz S4 hD,by rw [if_neg (by simp)]⟩
   ·rintro D hD ys H3 ⟨S3,h3,rfl⟩
    exact key2 D _ H3 (S0.trans S3) (S0.free hD) h3 (by unfold bh1; rw [if_pos c])
  ·rw [if_neg (fun z=>c (V.str.inj z))]
   exact key2 l0 _ _ S0 nl0 zaa (by unfold bh1; rw [if_neg c])
end
section
variable {P:Program} {w:World} {K:PySem.W.Frag} {mg:Str->Option Value} {base:Heap} {a:Ad}
noncomputable def scV:V->Bool
 | .int _=>true
 | .bl _=>true
 | .str _=>true
 | .non=>true
 | _=>false
noncomputable def Al (H:Hp):Nat->V->V->Prop
 | 0,_,_=>False
 | n + 1,x,y=>(x = y∧scV x = true) ∨ ∃ p q xs ys,x = .ref p∧y = .ref q∧((H p = some (.lst xs)∧H q = some (.lst ys)) ∨ (H p = some (.tup xs)∧H q = some (.tup ys)))∧xs.length = ys.length∧ys.length ≤ 1000∧∀ (i:Nat) (a b:V),xs[i]? = some a->ys[i]? = some b->Al H n a b
theorem Al.same {H H':Hp} (S:Same H H'):∀ {n:Nat} {x y:V},Al H n x y->Al H' n x y
 | 0,_,_,h=>h.elim
 | n + 1,x,y,h=>by
  rcases h with h | ⟨p,q,xs,ys,e1,e2,hh,l,l1,el⟩
  ·exact .inl h
  ·refine .inr ⟨p,q,xs,ys,e1,e2,?_,l,l1,fun i a b h1 h2=>Al.same S (el i a b h1 h2)⟩
   rcases hh with ⟨h1,h2⟩ | ⟨h1,h2⟩
   ·exact .inl ⟨S _ _ h1,S _ _ h2⟩
   ·exact .inr ⟨S _ _ h1,S _ _ h2⟩
noncomputable def zeF (n:Nat):Sp:=fun vs H Q _=>∃ x y,vs = [x,y]∧Al H n x y∧∀ H',Same H H'->Q (.bl true) H'
theorem lot_l:lotT "list" = true:=rfl
theorem lot_t:lotT "tuple" = true:=rfl
theorem lot_s:lotT "str" = false:=rfl
theorem lot_n:lotT "NoneType" = false:=rfl
theorem lot_b:lotT "bool" = false:=rfl
theorem lot_i:lotT "int" = false:=rfl
set_option maxHeartbeats 4000000 in
theorem zbc (T:Txt K mg a):∀ n:Nat,FnOk P w K mg base CX0 n a.f_law_alike a.d_law_alike ["found","due"] (zeF n)
 | 0=>⟨fun vs H Q E h=>by obtain ⟨x,y,_,z,_⟩:=h; exact z.elim,fun A outer s H args us vs Q E hr I b r h=>by obtain ⟨x,y,_,z,_⟩:=h; exact z.elim⟩
 | n + 1=>by
  refine T.F_law_alike.okC sc_law_alike (fun vs H Q E h=>?_) (fun cdv A outer s H vs Q E hr h=>?_)
  ·obtain ⟨x,y,rfl,_⟩:=h
   rfl
  ·obtain ⟨x,y,rfl,al,q⟩:=h
   have hu:=zaT hr
   refine ⟨_,(@zad _ _ _ _ _ (@zaD _ _ _ _ _ _ _ _ (zbh (zax call_isLT (by rfl) T.z_isinstance (by decide +kernel) (@zac _ _ _ _ _ _ (pv 1) (zae (zas (@zac _ _ _ _ _ _ (zaV (v:=.ty "list") (u:=.type "list") (by rfl) T.z_list (by decide +kernel) (by rfl)) (@zac _ _ _ _ _ _ (zaV (v:=.ty "tuple") (u:=.type "tuple") (by rfl) T.z_tuple (by decide +kernel) (by rfl)) pa_nil))) pa_nil)))) (@zad _ _ _ _ _ (@zaD _ _ _ _ _ _ _ _ (PW.pt (zdu (zcK (zbh (zax call_isLT (by rfl) T.z_isinstance (by decide +kernel) (@zac _ _ _ _ _ _ (pv 0) (zae (zas (@zac _ _ _ _ _ _ (zaV (v:=.ty "list") (u:=.type "list") (by rfl) T.z_list (by decide +kernel) (by rfl)) (@zac _ _ _ _ _ _ (zaV (v:=.ty "tuple") (u:=.type "tuple") (by rfl) T.z_tuple (by decide +kernel) (by rfl)) pa_nil))) pa_nil))))) (zcd (zak op_ne (zax call_isF (by rfl) T.z_isinstance (by decide +kernel) (@zac _ _ _ _ _ _ (pv 0) (@zac _ _ _ _ _ _ (zaV (v:=.ty "list") (u:=.type "list") (by rfl) T.z_list (by decide +kernel) (by rfl)) pa_nil))) (zax call_isF (by rfl) T.z_isinstance (by decide +kernel) (@zac _ _ _ _ _ _ (pv 1) (@zac _ _ _ _ _ _ (zaV (v:=.ty "list") (u:=.type "list") (by rfl) T.z_list (by decide +kernel) (by rfl)) pa_nil))) (zat _))))) (@zaf _ _ _ (zao zcU)) pss_nil)
   (@zad _ _ _ _ _ (@zaD _ _ _ _ _ _ _ _ (zak op_ne (zax call_lenF (by rfl) T.z_len (by decide +kernel) (@zac _ _ _ _ _ _ (pv 0) pa_nil)) (zax call_lenF (by rfl) T.z_len (by decide +kernel) (@zac _ _ _ _ _ _ (pv 1) pa_nil)) (zat _)) (@zaf _ _ _ (zao zcU)) pss_nil)
   (@zaf _ _ _ (zao (zax (zg5 (by rfl)) (by rfl) T.z_all (by decide +kernel) (zae (zaW (N':=["k","found","due"]) (cap:=[none,some 0,some 1]) ⟨rfl,(by decide +kernel),(by decide +kernel),(by rfl),rfl,(by rfl)⟩ (by rfl) (za3 (by rfl) T.z_range (zae (zax call_lenF (by rfl) T.z_len (by decide +kernel) (@zac _ _ _ _ _ _ (pv 1) pa_nil)) pa_nil)) (fun C_ ex_ s_ H_=>(zaq (i:=0) (show (["k","found","due"]:List Str).Nodup by decide +kernel) (by rfl) (Or.inl rfl))) zaS (fun C_ ex_ s_ H_=>zaJ) (fun C_ ex_ s_ H_=>(zal (zbc T n) (by exact hr.mono (Nat.le_refl _)) (by rfl) T.m_law_alike T.F_law_alike.kp T.b_law_alike .nil zaC (zae (zah ix_F (pv 1) (pv 0) (fun _ _=>rfl)) (zae (zah ix_F (pv 2) (pv 0) (fun _ _=>rfl)) pa_nil))))) pa_nil)))))) pss_nil)
   (@zad _ _ _ _ _ (@zaD _ _ _ _ _ _ _ _ (PW.pt (zdu (zak op_ne (zax call_isF (by rfl) T.z_isinstance (by decide +kernel) (@zac _ _ _ _ _ _ (pv 0) (@zac _ _ _ _ _ _ (zaV (v:=.ty "bool") (u:=.type "bool") (by rfl) T.z_bool (by decide +kernel) (by rfl)) pa_nil))) (zax call_isF (by rfl) T.z_isinstance (by decide +kernel) (@zac _ _ _ _ _ _ (pv 1) (@zac _ _ _ _ _ _ (zaV (v:=.ty "bool") (u:=.type "bool") (by rfl) T.z_bool (by decide +kernel) (by rfl)) pa_nil))) (zat _)) (zcd (zak op_ne (zax call_isF (by rfl) T.z_isinstance (by decide +kernel) (@zac _ _ _ _ _ _ (pv 0) (@zac _ _ _ _ _ _ (zaV (v:=.ty "int") (u:=.type "int") (by rfl) T.z_int (by decide +kernel) (by rfl)) pa_nil))) (zax call_isF (by rfl) T.z_isinstance (by decide +kernel) (@zac _ _ _ _ _ _ (pv 1) (@zac _ _ _ _ _ _ (zaV (v:=.ty "int") (u:=.type "int") (by rfl) T.z_int (by decide +kernel) (by rfl)) pa_nil))) (zat _))))) (@zaf _ _ _ (zao zcU)) pss_nil)
   (@zaf _ _ _ (zao (zcG (za1 op_eq (zax call_isF (by rfl) T.z_isinstance (by decide +kernel) (@zac _ _ _ _ _ _ (pv 0) (@zac _ _ _ _ _ _ (zaV (v:=.ty "str") (u:=.type "str") (by rfl) T.z_str (by decide +kernel) (by rfl)) pa_nil))) (zax call_isF (by rfl) T.z_isinstance (by decide +kernel) (@zac _ _ _ _ _ _ (pv 1) (@zac _ _ _ _ _ _ (zaV (v:=.ty "str") (u:=.type "str") (by rfl) T.z_str (by decide +kernel) (by rfl)) pa_nil))) (zat _)) (zcE (za1 op_eq (pv 0) (pv 1) (zat _)))))))),?_⟩
   rcases al with ⟨rfl,sc⟩ | ⟨p,q',xs,ys,rfl,rfl,hh,ll,l1,el⟩
   ·cases x with
    | int c =>
     simp! [lot_i]
     intro t1 n1
     exact q _ (Same.laid n1)
    | str c =>
     simp! [lot_s]
     intro t1 n1
     exact q _ (Same.laid n1)
    | non =>
     simp! [lot_n]
     intro t1 n1
     exact ⟨rfl,q _ (Same.laid n1)⟩
    | bl c =>
     simp! [lot_b]
     intro t1 n1
     exact q _ (Same.laid n1)
    | _=>cases sc
   ·rcases hh with ⟨h1,h2⟩ | ⟨h1,h2⟩
    all_goals
     simp! [h1,h2]
     intro t1 n1
     have S1:Same H (upd H t1 (.tup [.ty "list",.ty "tuple"])):=Same.laid n1
     have g1:=S1 _ _ h1
     have g2:=S1 _ _ h2
     revert S1 g1 g2
     generalize upd H t1 (.tup [.ty "list",.ty "tuple"]) = H1
     intro S1 g1 g2
     simp! [g1,g2,lot_l,lot_t]
     intro t2 n2
     have S2:Same H (upd H1 t2 (.tup [.ty "list",.ty "tuple"])):=S1.step n2
     have k1:=S2 _ _ h1
     have k2:=S2 _ _ h2
     revert S2 k1 k2
     generalize upd H1 t2 (.tup [.ty "list",.ty "tuple"]) = H2
     intro S2 k1 k2
     simp! [k1,k2,lot_l,lot_t]
     rw [if_neg (fun z=>z (by rw [ll]))]
     refine zi2 (H1:=H2) (ys.length:Int) (fun _=>some (.bl true)) (fun Q2 h3=>by simp! [k2]; exact h3) (by omega) (by omega) (by rw [sizeLine_eq]; omega) ?_ ?_
     ·intro i H3 R N hi S3 hR hN
      have hiy:i < ys.length:=by omega
      have hix:i < xs.length:=by omega
      have a1:atI xs ((i:Nat):Int) = some xs[i]:=zau (List.getElem?_eq_getElem hix)
      have a2:atI ys ((i:Nat):Int) = some ys[i]:=zau (List.getElem?_eq_getElem hiy)
      have m1:=S3 _ _ k1
      have m2:=S3 _ _ k2
      simp! [tTrue,zaG,m1,m2,Int.zero_add,a1,a2]
      refine ⟨xs[i],ys[i],rfl,Al.same (S2.trans S3) (el i _ _ (List.getElem?_eq_getElem hix) (List.getElem?_eq_getElem hiy)),fun H4 S4=>hR _ _ rfl S4⟩
     ·intro D H3 hD S3 e
      have f8:(List.range ((ys.length:Int)).toNat).filterMap (fun _=>some (V.bl true)) = ((List.range ((ys.length:Int)).toNat).map fun _=>true).map V.bl:=zi0 fun _ _=>rfl
      rw [f8] at e
      simp! [e]
      refine ⟨_,rfl,?_⟩
      rw [zg0 fun _ _=>rfl]
      exact q _ (S2.trans S3)
noncomputable def shK (ps:List (Str × Str)):List (Key × V):=ps.map fun p=>(.inr p.1,.str p.2)
theorem zeQ {w:Str}:∀ {ps:List (Str × Str)},valV (shK ps) (.inr w) = (ps.lookup w).map V.str
 | []=>rfl
 | p :: ps=>by
  rw [List.lookup_cons]
  by_cases c:p.1 = w
  ·rw [show shK (p :: ps) = (.inr p.1,.str p.2) :: shK ps from rfl,zaX (by rw [c])]
   rw [c,beq_self_eq_true]
   rfl
  ·rw [show shK (p :: ps) = (.inr p.1,.str p.2) :: shK ps from rfl,zaY (fun z=>c (Sum.inr.inj z)),zeQ]
   rw [show (w == p.1) = false from by simpa using fun z=>c z.symm]
theorem zir (xs:List V) (k:Nat):cutV xs none (some (k:Int)) = xs.take k:=by
 unfold cutV
 rw [HT.sIx_nat,HT.sIx_none,List.drop_zero,Nat.sub_zero]
 by_cases c:k ≤ xs.length
 ·rw [Nat.min_eq_left c]
 ·rw [Nat.min_eq_right (by omega),List.take_of_length_le (Nat.le_refl _),List.take_of_length_le (by omega)]
theorem zgT (xs:List V) (k:Nat):cutV xs (some (k:Int)) none = xs.drop k:=by
 unfold cutV
 rw [HT.sIx_nat,HT.sIx_none,List.take_of_length_le (by rw [List.length_drop]; omega)]
 by_cases c:k ≤ xs.length
 ·rw [Nat.min_eq_left c]
 ·rw [Nat.min_eq_right (by omega),List.drop_of_length_le (Nat.le_refl _),List.drop_of_length_le (by omega)]
set_option maxHeartbeats 2000000 in
theorem zcl (T:Txt K mg a):FnOk P w K mg base CX0 1 a.f_law_first a.d_law_first ["program","f"] sp_first:=by
 refine T.F_law_first.okC sc_law_first (fun vs H Q E h=>?_) (fun cdv A outer s H vs Q E hr h=>?_)
 ·obtain ⟨pl,f,das,sg,ws,words,y,rfl,_⟩:=h
  rfl
 ·obtain ⟨pl,f,das,sg,ws,words,y,rfl,PG,wf,hf,hy,z6,za,w0,w16,k⟩:=h
  have hu:=zaT hr
  refine ⟨_,(@zad _ _ _ _ _ (zaw (i:=2) sc_law_first.nd (by rfl) (Or.inl rfl) (zaN (zbH (by rfl)) (by rfl) T.z_list (by decide +kernel) (zae (zah ix_F (zah ix_F (pv 0) (pv 1) (fun _ _=>rfl)) zag (fun _ _=>rfl)) pa_nil)))
   (@zaf _ _ _ (zao (zaK op_cat (pv 2) (zaK op_rep (zav (zae zaR pa_nil)) (zaK op_sub (zaK op_add zag (zah ix_F (zah ix_F (pv 0) (pv 1) (fun _ _=>rfl)) zag (fun _ _=>rfl))) (zax call_lenF (by rfl) T.z_len (by decide +kernel) (@zac _ _ _ _ _ _ (pv 2) pa_nil)))))))),?_⟩
  obtain ⟨da,y',h1,h2,ad,ht⟩:=PG.get hf
  rw [wf] at ht
  rw [hy] at h2
  cases h2
  have topp:=PG.top
  simp! [topp,ad,ht]
  refine ⟨by omega,fun l2 nl2=>?_⟩
  intro p np
  have S2:=(Same.laid nl2 (u:=.lst (y.1.cps.toList.map fun c=>V.str ⟨#[c]⟩))).step np (u:=.lst [V.non])
  have hl2:=zab (u:=.lst [V.non]) (zaa (H:=H) (a:=l2) (o:=.lst (y.1.cps.toList.map fun c=>V.str ⟨#[c]⟩))) np
  have le:(y.1.cps.toList.map fun c=>V.str ⟨#[c]⟩).length = y.1.cps.size:=by rw [List.length_map,Array.length_toList]
  have PG2:=PG.same S2
  refine ⟨_,by rw [PG2.top]; rfl,_,ad,_,rfl,_,by rw [S2 _ _ ht]; rfl,_,zb1,_,rfl,y.1.cps.size,by rw [hl2,zdD,le],?_⟩
  refine ⟨p,8 + words - (y.1.cps.size:Int),_,rfl,rfl,zaa,by omega,by omega,by rw [sizeLine_eq]; simp; omega,fun r nr=>?_⟩
  rw [rep_non,show (8 + words - (y.1.cps.size:Int)).toNat = (8 + words).toNat - y.1.cps.size by omega]
  refine ⟨l2,r,_,_,rfl,rfl,zab hl2 nr,zaa,by rw [sizeLine_eq,le,List.length_replicate]; omega,fun x nx=>?_⟩
  exact k x _ ((S2.step nr).free nx) ((S2.step nr).step nx) zaa
theorem zhi {k:V} (h:KV k):inV k [V.int 0,V.int 1,V.int 2,V.int 3,V.int 4,V.int 5,V.int 6,V.int 7] = zcD k:=by
 rcases h with rfl | ⟨s,_,rfl⟩ | ⟨i,i0,rfl⟩
 ·rfl
 ·rfl
 ·rw [show [V.int 0,V.int 1,V.int 2,V.int 3,V.int 4,V.int 5,V.int 6,V.int 7] = ([0,1,2,3,4,5,6,7]:List Int).map V.int from rfl,zde]
  show decide (i ∈ ([0,1,2,3,4,5,6,7]:List Int)) = decide (i < 8)
  rw [Bool.eq_iff_iff,decide_eq_true_eq,decide_eq_true_eq]
  simp only [List.mem_cons,List.not_mem_nil,or_false]
  omega
theorem zfG {k:V} (h:KV k):(!inV k [V.str (Str.ofString "n"),V.str (Str.ofString "h"),V.non]) = isSp k:=by
 rcases h with rfl | ⟨s,rfl | rfl,rfl⟩ | ⟨i,i0,rfl⟩
 ·rfl
 ·rfl
 ·rfl
 ·rfl
noncomputable def sp_llost:Sp:=fun vs H Q _=>∃ (q kl:Addr) (w:Str) (us ks:List V) (tv:V) (tb:Tb),vs = [.ref q,.ref kl,tv]∧H q = some (.tup (.str w :: us))∧TbV H tv tb∧H kl = some (.lst ks)∧(∀ k ∈ ks,KV k)∧8 ≤ ks.length∧ks.length ≤ 24∧∀ (l:Addr) (H':Hp),H l = none->Same H H'->H' l = some (.lst (bh2 w tb (bh1 w ks)))->Q (.ref l) H'
set_option maxHeartbeats 4000000 in
theorem zey (T : Txt K mg a) : FnOk P w K mg base CX0 1 a.f_law_lost a.d_law_lost ["row", "kinds", "table"] sp_llost := by
  refine T.F_law_lost.okC sc_law_lost (fun vs H Q E h => ?_) (fun cdv A outer s H vs Q E hr h => ?_)
  · obtain ⟨q, kl, w, us, ks, tv, tb, rfl, _⟩ := h
    rfl
  · obtain ⟨q, kl, wd, us, ks, tv, tb, rfl, hq, TV, hk, kv, l8, l24, qq⟩ := h
    have hu := zaT hr
    refine ⟨_, (@zad _ _ _ _ _ (zaw (i := 3) sc_law_lost.nd (by rfl) (Or.inl rfl) (zaN call_list_of (by rfl) T.z_list (by decide +kernel) (@zac _ _ _ _ _ _ (pv 1) pa_nil)))
      (@zad _ _ _ _ _ (@zaD _ _ _ _ _ _ _ _ (zak op_eq (zah ix_F (pv 0) zag (fun _ _ => rfl)) zaB (zat _)) (@zaf _ _ _ (zaw (i := 3) sc_law_lost.nd (by rfl) (Or.inl rfl) (zaK op_cat (zaK op_rep (zav (zae zaR pa_nil)) zag) (zaW (N' := ["kind"]) (cap := [none]) ⟨rfl, (by decide +kernel), (by decide +kernel), (by rfl), rfl, (by rfl)⟩ (by rfl) (zaI (zcu sl_list (pv 3) (zdw zag) po_none)) (fun C_ ex_ s_ H_ => (zaq (i := 0) (show (["kind"] : List Str).Nodup by decide +kernel) (by rfl) (Or.inl rfl))) zaS (fun C_ ex_ s_ H_ => zaJ) (fun C_ ex_ s_ H_ => (za2 (zak (zfr (K := K) (by rfl)) (pv 0) (zav (@zai _ _ _ _ _ _ (@zai _ _ _ _ _ _ (@zai _ _ _ _ _ _ (@zai _ _ _ _ _ _ (@zai _ _ _ _ _ _ (@zai _ _ _ _ _ _ (@zai _ _ _ _ _ _ (@zai _ _ _ _ _ _ pa_nil))))))))) (by with_unfolding_all rfl)) zaR (pv 0))))))) pss_nil)
      (@zad _ _ _ _ _ (@zaD _ _ _ _ _ _ _ _ (PW.pt (zdu (za9 (zcg (pv 2))) (zcd (zak op_notIn_seq (zah ix_F (pv 0) zag (fun _ _ => rfl)) (zav (@zam _ _ _ _ _ _ (@zam _ _ _ _ _ _ (@zam _ _ _ _ _ _ pa_nil)))) (by with_unfolding_all rfl))))) (@zaf _ _ _ (zao (pv 3))) pss_nil)
      (@zad _ _ _ _ _ (za0 PassesOwn.never (by rfl) (za3 (by rfl) T.z_range (zae (zax call_lenF (by rfl) T.z_len (by decide +kernel) (@zac _ _ _ _ _ _ (pv 3) pa_nil)) pa_nil)) (zaq (i := 4) sc_law_lost.nd (by rfl) (Or.inl rfl))
      (@zad _ _ _ _ _ (@zaD _ _ _ _ _ _ _ _ (PW.pt (zcm (zak op_eq (zah ix_F (pv 3) (pv 4) (fun _ _ => rfl)) zaB (zat _)) (zbP (zak op_notIn_seq (pv 4) (zah ix_F (pv 2) zag (fun _ _ => rfl)) (by with_unfolding_all rfl))))) (@zaf _ _ _ (zbf zaR (zbr (pv 3) (pv 4) set_list))) pss_nil)
      (@zaf _ _ _ (@zaD _ _ _ _ _ _ _ _ (PW.pt (zcm (zak op_notIn_seq (zah ix_F (pv 3) (pv 4) (fun _ _ => rfl)) (zav (@zam _ _ _ _ _ _ (@zam _ _ _ _ _ _ (zae zaR pa_nil)))) (by with_unfolding_all rfl)) (zbP (zak (zdT hr.units) (zas (@zac _ _ _ _ _ _ (pv 4) (zae (zah ix_F (pv 3) (pv 4) (fun _ _ => rfl)) pa_nil))) (zah ix_F (pv 2) zag (fun _ _ => rfl)) (by with_unfolding_all rfl))))) (@zaf _ _ _ (zbf zaR (zbr (pv 3) (pv 4) set_list))) pss_nil))))
      (@zaf _ _ _ (zao (pv 3))))))), ?_⟩
    generalize hG2 : tSeq (tIfS (tOr _ _) _ _) _ = tail2
    simp! [hq]
    refine ⟨ks, .inl (.of hk), fun l0 nl0 => ?_⟩
    have S0 := Same.laid nl0 (u := .lst ks)
    refine ⟨_, by rw [S0 _ _ hq]; rfl, _, zcZ, rfl, ?_⟩
    have key2 : ∀ (lf : Addr) (k1 : List V) (H' : Hp), Same H H' → H lf = none → H' lf = some (.lst k1) → k1 = bh1 wd ks → tail2 { nx := fun x H' => Q V.non H', rt := Q } [some (.ref q), some (.ref kl), some tv, some (.ref lf), none] H' := by
      intro lf k1 H' S' nlf hlf e1
      have kv1 : (∀ k ∈ k1, KV k) ∧ k1.length = ks.length := by rw [e1]; exact zd3 kv
      subst hG2
      generalize hG3 : tSeq (tFor _ _ _) _ = tail3
      simp! [hq]
      rcases TV with ⟨etv, etb⟩ | ⟨t, l, m, us2, hs, ps, etv, etb, ht', TA⟩
      · rw [if_pos etv]
        refine qq lf H' nlf S' ?_
        rw [etb]
        show H' lf = some (.lst (bh1 wd ks))
        rw [← e1]
        exact hlf
      · rw [if_neg (by rw [etv]; intro z; cases z)]
        refine ⟨_, by rw [S' _ _ hq]; rfl, _, zcZ, fun p np => ?_⟩
        refine zcA (ws := ["make", "rest", "call"]) (.inl (.of zaa)) ⟨_, rfl, ?_⟩
        rw [if_pos rfl]
        have S1 := S'.step np (u := .lst [V.str (Str.ofString "make"), V.str (Str.ofString "rest"), V.str (Str.ofString "call")])
        have h1 := zab (u := .lst [V.str (Str.ofString "make"), V.str (Str.ofString "rest"), V.str (Str.ofString "call")]) hlf np
        revert S1 h1
        generalize upd H' p (.lst [V.str (Str.ofString "make"), V.str (Str.ofString "rest"), V.str (Str.ofString "call")]) = H1
        intro S1 h1
        by_cases c : zbF wd = true
        · rw [if_neg (show ¬ (!decide (wd ∈ (["make", "rest", "call"] : List Str))) = true by
            rw [show decide (wd ∈ (["make", "rest", "call"] : List Str)) = true from c]; simp)]
          have ebh : bh2 wd tb (bh1 wd ks) = mpn (fun p k => if zbN hs ps p k then .non else k) k1 k1.length := by
            rw [etb, ← e1]
            unfold bh2
            dsimp only
            rw [if_pos c]
          rw [ebh] at qq
          clear ebh
          subst hG3
          simp! []
          refine for1 (H1 := H1) (k1.length : Int) (fun Q2 h2 => by simp! [h1]; exact h2) (by omega) (by omega) (fun j σ H2 => ∃ (v4 : Option V) (ys : List V), σ = [some (.ref q), some (.ref kl), some tv, some (.ref lf), v4] ∧ Same H H2 ∧ H2 lf = some (.lst ys) ∧ ys.length = k1.length ∧ ∀ (i : Nat) (k : V), k1[i]? = some k → ys[i]? = some (if i < j then (if zbN hs ps i k then .non else k) else k)) ⟨_, k1, rfl, S1, h1, rfl, fun i k h => by rw [if_neg (Nat.not_lt_zero _)]; exact h⟩ ?_ ?_
          · rintro j σ H2 hj ⟨v4, ys, rfl, S2, h2, ly, ey⟩
            have jl : j < k1.length := by omega
            have hkj := List.getElem?_eq_getElem jl
            have kvj := kv1.1 _ (List.mem_of_getElem? hkj)
            revert hkj kvj
            generalize k1[j] = x
            intro hkj kvj
            have yj := ey j x hkj
            rw [if_neg (Nat.lt_irrefl _)] at yj
            have ay : atI ys ((j : Nat) : Int) = some x := zau yj
            have stay : zbN hs ps j x = false → ∀ H3, Same H H3 → H3 lf = some (.lst ys) → Same H H3 ∧ ∃ ys, H3 lf = some (.lst ys) ∧ ys.length = k1.length ∧ ∀ (i : Nat) (k : V), k1[i]? = some k → ys[i]? = some (if i < j + 1 then (if zbN hs ps i k then .non else k) else k) := fun z H3 S3 h3 => ⟨S3, ys, h3, ly, fun i k hk => by
              rw [ey i k hk]
              by_cases e : i = j
              · subst e
                rw [hkj] at hk
                cases hk
                rw [if_neg (Nat.lt_irrefl _), if_pos (Nat.lt_succ_self _), z, if_neg (by simp)]
              · by_cases e2 : i < j
                · rw [if_pos e2, if_pos (show i < j + 1 by omega)]
                · rw [if_neg e2, if_neg (show ¬ i < j + 1 by omega)]⟩
            have gone : zbN hs ps j x = true → ∀ H3, Same H H3 → Same H (upd H3 lf (.lst (ys.set j .non))) ∧ ∃ ys', upd H3 lf (.lst (ys.set j .non)) lf = some (.lst ys') ∧ ys'.length = k1.length ∧ ∀ (i : Nat) (k : V), k1[i]? = some k → ys'[i]? = some (if i < j + 1 then (if zbN hs ps i k then .non else k) else k) := fun z H3 S3 => ⟨zaz S3 nlf, ys.set j .non, zaa, by rw [List.length_set, ly], fun i k hk => by
              by_cases e : i = j
              · subst e
                rw [hkj] at hk
                cases hk
                rw [List.getElem?_set_self (by omega), if_pos (Nat.lt_succ_self _), z, if_pos rfl]
              · rw [List.getElem?_set_ne (Ne.symm e), ey i k hk]
                by_cases e2 : i < j
                · rw [if_pos e2, if_pos (show i < j + 1 by omega)]
                · rw [if_neg e2, if_neg (show ¬ i < j + 1 by omega)]⟩
            rw [etv]
            simp! [Int.zero_add, h2, ay]
            refine ⟨kvj.scalS, ?_⟩
            have TA2 := TA.same (S2)
            have ht2 := S2 _ _ ht'
            rcases kvj with rfl | ⟨s, rfl | rfl, rfl⟩ | ⟨i, i0, rfl⟩
            · rw [if_neg (by intro z; cases z)]
              intro p np
              refine ⟨p, _, rfl, .inl (.of zaa), rfl, rfl, ?_⟩
              rw [if_pos rfl, zfG (.inl rfl)]
              refine ⟨false, rfl, ?_⟩
              rw [if_neg (by simp)]
              exact stay rfl _ (S2.step np) (zab h2 np)
            · rw [if_neg (fun z => absurd (V.str.inj z) (by decide))]
              intro p np
              refine ⟨p, _, rfl, .inl (.of zaa), rfl, rfl, ?_⟩
              rw [if_pos rfl, zfG (.inr (.inl ⟨_, .inl rfl, rfl⟩))]
              refine ⟨false, rfl, ?_⟩
              rw [if_neg (by simp)]
              exact stay (by unfold zbN; dsimp only; rw [if_neg (by decide)]) _ (S2.step np) (zab h2 np)
            · rw [if_pos rfl]
              refine ⟨_, by rw [ht2]; rfl, _, zcZ, zcy TA2.hl ⟨_, rfl, ?_⟩⟩
              rw [if_pos rfl]
              have eT : zbN hs ps j (.str (Str.ofString "h")) = !decide ((j : Int) ∈ hs) := by unfold zbN; dsimp only; rw [if_pos rfl]
              by_cases c3 : (j : Int) ∈ hs
              · rw [if_neg (by simp [c3])]
                refine ⟨_, by rw [h2]; rfl, _, ay, fun p np => ?_⟩
                refine ⟨p, _, rfl, .inl (.of zaa), rfl, rfl, ?_⟩
                rw [if_pos rfl, zfG (.inr (.inl ⟨_, .inr rfl, rfl⟩))]
                refine ⟨false, rfl, ?_⟩
                rw [if_neg (by simp)]
                exact stay (by rw [eT, decide_eq_true c3]; rfl) _ (S2.step np) (zab h2 np)
              · rw [if_pos (by simp [c3])]
                refine ⟨_, h2, j, zca (by omega), .non, zau (by rw [List.getElem?_set_self (by omega)]), fun p np => ?_⟩
                refine ⟨p, _, rfl, .inl (.of zaa), rfl, rfl, ?_⟩
                rw [if_pos rfl, zfG (.inl rfl)]
                refine ⟨false, rfl, ?_⟩
                rw [if_neg (by simp)]
                obtain ⟨g1, ys', g2, g3⟩ := gone (by rw [eT, decide_eq_false c3]; rfl) H2 S2
                exact ⟨g1.step np, ys', zab g2 np, g3⟩
            · rw [if_neg (by intro z; cases z)]
              intro p np
              refine ⟨p, _, rfl, .inl (.of zaa), rfl, rfl, ?_⟩
              rw [if_pos rfl, zfG (.inr (.inr ⟨i, i0, rfl⟩))]
              refine ⟨true, rfl, ?_⟩
              rw [if_pos rfl]
              refine ⟨_, by rw [zab h2 np]; rfl, _, ay, fun p2 np2 => ?_⟩
              have S4 := (S2.step np (u := .lst [V.str (Str.ofString "n"), V.str (Str.ofString "h"), V.non])).step np2 (u := .tup [.int j, .int i])
              have h4 := zab (u := .tup [.int j, .int i]) (zab (u := .lst [V.str (Str.ofString "n"), V.str (Str.ofString "h"), V.non]) h2 np) np2
              have TA4 := TA.same S4
              refine ⟨_, by rw [S4 _ _ ht']; rfl, _, za8, prT ((j : Int), i), ps.map prT, zfI (p := ((j : Int), i)) zaa, TA4.pr.rep TA4.hm, ?_, zc8, ?_⟩
              · unfold SeqAt.shaped
                rw [Bool.and_eq_true]
                exact ⟨zeA _, decide_eq_true (Nat.le_trans (zex _) (by decide))⟩
              · rw [if_pos rfl, zep]
                refine ⟨_, rfl, ?_⟩
                by_cases c3 : ((j : Int), i) ∈ ps
                · rw [if_neg (by simp [c3])]
                  exact stay (by show (!decide (((j : Int), i) ∈ ps)) = false; rw [decide_eq_true c3]; rfl) _ S4 h4
                · rw [if_pos (by simp [c3])]
                  obtain ⟨g1, ys', g2, g3⟩ := gone (by show (!decide (((j : Int), i) ∈ ps)) = true; rw [decide_eq_false c3]; rfl) _ S4
                  rw [zaa] at g2
                  cases g2
                  exact ⟨_, h4, j, zca (by omega), g1, g3⟩
          · rintro σ H2 ⟨v4, ys, rfl, S2, h2, ly, ey⟩
            rw [Int.toNat_natCast] at ey
            simp! []
            refine qq lf H2 nlf S2 ?_
            rw [h2]
            congr 2
            refine zhr (by rw [zbK, ly]) fun i x y g1 g2 => ?_
            have il : i < k1.length := by rw [← ly]; exact (List.getElem?_eq_some_iff.mp g1).1
            have hk := List.getElem?_eq_getElem il
            rw [ey i _ hk, if_pos il] at g1
            rw [zfz il, List.getD_eq_getElem?_getD, hk] at g2
            cases g1
            cases g2
            rfl
        · rw [if_pos (show (!decide (wd ∈ (["make", "rest", "call"] : List Str))) = true by
            rw [show decide (wd ∈ (["make", "rest", "call"] : List Str)) = false from by
              cases z : decide (wd ∈ (["make", "rest", "call"] : List Str)) with
              | true => exact absurd z c
              | false => rfl]; rfl)]
          refine qq lf H1 nlf S1 ?_
          rw [etb]
          unfold bh2
          dsimp only
          rw [if_neg c, ← e1]
          exact h1
    clear hG2
    by_cases c : wd = "call"
    · rw [if_pos (by rw [c])]
      intro p np
      refine ⟨p, 8, _, rfl, rfl, zaa, by decide, by decide, by rw [sizeLine_eq]; simp, fun r nr => ?_⟩
      rw [rep_non, show Int.toNat 8 = 8 from rfl]
      have S1 := (S0.step np (u := .lst [V.non])).step nr (u := .lst (List.replicate 8 V.non))
      have hl1 := zab (u := .lst (List.replicate 8 V.non)) (zab (u := .lst [V.non]) (zaa (H := H) (a := l0) (o := .lst ks)) np) nr
      have hr1 : upd (upd (upd H l0 (.lst ks)) p (.lst [V.non])) r (.lst (List.replicate 8 V.non)) r = some (.lst (List.replicate 8 V.non)) := zaa
      revert S1 hl1 hr1
      generalize upd (upd (upd H l0 (.lst ks)) p (.lst [V.non])) r (.lst (List.replicate 8 V.non)) = H1
      intro S1 hl1 hr1
      refine zgv (Pre := fun b H2 => Same H1 H2 ∧ H2 b = some (.lst (ks.drop 8))) (fun Q2 h2 => ?_) ?_
      · simp! [tSl, tNoPart, zhQ]
        refine ⟨l0, _, rfl, .of hl1, fun b nb => ?_⟩
        rw [show (8 : Int) = ((8 : Nat) : Int) from rfl, zgT]
        exact h2 b _ ⟨Same.laid nb, zaa⟩
      rintro sl H2 ⟨S2, e2⟩
      have fmp : (ks.drop 8).filterMap (fun k => some (if zcD k then V.non else k)) = (ks.drop 8).map fun k => if zcD k then V.non else k := by
        show List.filterMap (some ∘ fun k => if zcD k then V.non else k) _ = _
        rw [List.filterMap_eq_map]
      refine zeT sl (ks.drop 8) (fun k => some (if zcD k then V.non else k)) (fun Q2 h2 => by simp! []; exact h2) (.of e2) (by rw [sizeLine_eq, List.length_drop]; omega) ?_ ?_
      · intro x H3 R N hx S3 hR hN
        have kx := kv x (List.mem_of_mem_drop hx)
        simp! [tTrue, zaG]
        intro t nt
        refine ⟨t, _, rfl, .inl (.of zaa), kx.flat, rfl, ?_⟩
        rw [if_neg Bool.false_ne_true, zhi kx]
        refine ⟨_, rfl, ?_⟩
        cases z : zcD x with
        | true => exact hR _ _ (by rw [z, if_pos rfl]) (Same.laid nt)
        | false => exact hR _ _ (by rw [z, if_neg (by simp)]) (Same.laid nt)
      · intro D H3 hD S3 e3
        rw [fmp] at e3
        have S13 := S2.trans S3
        refine ⟨r, D, _, _, rfl, rfl, S13 _ _ hr1, e3, by rw [sizeLine_eq, List.length_map, List.length_drop, List.length_replicate]; omega, fun x nx => ?_⟩
        have S03 := S1.trans S13
        refine key2 x _ _ (S03.step nx) (S03.free nx) zaa ?_
        unfold bh1
        rw [if_pos c]
        refine zhr (by rw [zbK]; simp; omega) fun i x y g1 g2 => ?_
        have il : i < ks.length := by
          have := (List.getElem?_eq_some_iff.mp g2).1
          rw [zbK] at this
          exact this
        have hk := List.getElem?_eq_getElem il
        rw [zfz il, List.getD_eq_getElem?_getD, hk] at g2
        cases g2
        by_cases c8 : i < 8
        · rw [List.getElem?_append_left (by simpa using c8), List.getElem?_replicate, if_pos c8] at g1
          cases g1
          unfold zeB
          rw [decide_eq_true (by omega), Bool.true_or, if_pos rfl]
        · rw [List.getElem?_append_right (by simpa using c8), List.length_replicate, List.getElem?_map, List.getElem?_drop, show 8 + (i - 8) = i by omega, hk] at g1
          cases g1
          unfold zeB
          rw [decide_eq_false (by omega), Bool.false_or]
          rfl
    · rw [if_neg (fun z => c (V.str.inj z))]
      exact key2 l0 _ _ S0 nl0 zaa (by unfold bh1; rw [if_neg c])
noncomputable def DG3:List (Str × Str):=[("nil","h"),("make","h"),("fetch","h")]
theorem merge_dg:zbb [] (shK DG3) = shK DG3:=by rfl
theorem dg_gn:∀ w ∈ WRw,(DG3.lookup w).getD (Str.ofString "n") = gn w:=by decide +kernel
noncomputable def sp_lbehind:Sp:=fun vs H Q _=>∃ (pl q kl:Addr) (tv:V) (tb:Tb) (das:List (Addr × Addr)) (sg:List (Str × Str)) (ws:Nat->Int) (words:Int) (w:Str) (us ks:List V),vs = [.ref pl,.ref q,.ref kl,tv]∧PgB H pl das sg ws∧H q = some (.tup (.str w :: us))∧RowOk (8 + words) w us∧TbV H tv tb∧H kl = some (.lst ks)∧(∀ k ∈ ks,KV k)∧(ks.length:Int) = 8 + words∧0 ≤ words∧words ≤ 16∧∀ (l:Addr) (H':Hp),H l = none->Same H H'->H' l = some (.lst (bh (sg.map (·.2)) w us ks tb))->Q (.ref l) H'
set_option maxHeartbeats 4000000 in
theorem zbV (T:Txt K mg a):FnOk P w K mg base CX0 2 a.f_law_behind a.d_law_behind ["program","row","kinds","table"] sp_lbehind:=by
 refine T.F_law_behind.okC sc_law_behind (fun vs H Q E h=>?_) (fun cdv A outer s H vs Q E hr h=>?_)
 ·obtain ⟨pl,q,kl,tv,tb,das,sg,ws,words,w,us,ks,rfl,_⟩:=h
  rfl
 ·obtain ⟨pl,q,kl,tv,tb,das,sg,ws,words,wd,us,ks,rfl,PG,hq,RO,TV,hk,kv,lk,w0,w16,qq⟩:=h
  have hu:=zaT hr
  refine ⟨_,(@zad _ _ _ _ _ (zaw (i:=4) sc_law_behind.nd (by rfl) (Or.inl rfl) (zal (zey T) (hr.mono (by decide)) (by rfl) T.m_law_lost T.F_law_lost.kp T.b_law_lost .nil zaC (@zac _ _ _ _ _ _ (pv 1) (@zac _ _ _ _ _ _ (pv 2) (@zac _ _ _ _ _ _ (pv 3) pa_nil)))))
   (@zad _ _ _ _ _ (zaw (i:=5) sc_law_behind.nd (by rfl) (Or.inr rfl) (zal (zdy T) (hr.mono (by decide)) (by rfl) T.m_law_writes T.F_law_writes.kp T.b_law_writes .nil zaC (@zac _ _ _ _ _ _ (pv 1) pa_nil)))
   (@zad _ _ _ _ _ (@zaD _ _ _ _ _ _ _ _ (za9 (zcg (pv 5))) (@zaf _ _ _ (zao (pv 4))) pss_nil)
   (@zad _ _ _ _ _ (zcb (i:=4) sc_law_behind.nd (by rfl) (Or.inl rfl) (N':=["kind","p"]) (cap:=[none,some 5]) ⟨rfl,(by decide +kernel),(by decide +kernel),(by rfl),rfl,(by rfl)⟩ (by rfl) (zaI (pv 4)) (fun C_ ex_ s_ H_=>(zaq (i:=0) (show (["kind","p"]:List Str).Nodup by decide +kernel) (by rfl) (Or.inl rfl))) zaS (fun C_ ex_ s_ H_=>zaJ) (fun C_ ex_ s_ H_=>(zah ix_F (zav (@zac _ _ _ _ _ _ (pv 0) (zae zaR pa_nil))) (zaN call_int1 (by rfl) T.z_int (by decide +kernel) (zae (za1 op_eq (pv 0) (pv 1) (zat _)) pa_nil)) (fun _ _=>rfl))))
   (@zad _ _ _ _ _ (@zgy _ 6 _ _ _ _ _ _ _ _ _ _ _ _ _ hu sc_law_behind.nd (by rfl) (Or.inl rfl) (@zaQ _ _ _ _ _ _ _ _ _ zaB zaB (@zaQ _ _ _ _ _ _ _ _ _ zaB zaB (@zaQ _ _ _ _ _ _ _ _ _ zaB zaB zbI))) (by rfl) (by rfl) (List.cons_ne_nil _ _) (Nat.le_of_ble_eq_true (by rfl)) (zah ix_F (pv 1) zag (fun _ _=>rfl)) zaB ⟨(by rfl),(by rfl),(by rfl),(by rfl)⟩ (by first | exact .inl (by rfl) | exact .inr (by rfl) | assumption))
   (@zad _ _ _ _ _ (@zaD _ _ _ _ _ _ _ _ (zak op_eq (zah ix_F (pv 1) zag (fun _ _=>rfl)) zaB (zat _)) (@zaf _ _ _ (zaw (i:=6) sc_law_behind.nd (by rfl) (Or.inl rfl) (zah ix_F (pv 4) (zah ix_F (pv 1) zag (fun _ _=>rfl)) (fun _ _=>rfl)))) (@zaf _ _ _ (@zaD _ _ _ _ _ _ _ _ (zak op_eq (zah ix_F (pv 1) zag (fun _ _=>rfl)) zaB (zat _)) (@zaf _ _ _ (zaw (i:=6) sc_law_behind.nd (by rfl) (Or.inl rfl) (zah ix_F (zav (zae (zah ix_F (pv 1) zag (fun _ _=>rfl)) (zae zaR pa_nil))) (zaN call_int1 (by rfl) T.z_int (by decide +kernel) (zae (za1 op_eq (zah ix_F (pv 1) zag (fun _ _=>rfl)) (pv 5) (zat _)) pa_nil)) (fun _ _=>rfl)))) (@zaf _ _ _ (@zaD _ _ _ _ _ _ _ _ (zak op_eq (zah ix_F (pv 1) zag (fun _ _=>rfl)) zaB (zat _)) (@zaf _ _ _ (zaw (i:=6) sc_law_behind.nd (by rfl) (Or.inl rfl) (zah ix_F (zah ix_F (pv 0) (zah ix_F (pv 1) zag (fun _ _=>rfl)) (fun _ _=>rfl)) zag (fun _ _=>rfl)))) pss_nil)))))
   (@zad _ _ _ _ _ (zbf (pv 6) (zbr (pv 4) (pv 5) set_list))
   (@zaf _ _ _ (zao (pv 4)))))))))),?_⟩
  generalize hG3:tSeq (tIfS (zgK _) _ (tIfS _ _ _)) _ = tail3
  simp! []
  refine ⟨q,kl,wd,us,ks,tv,tb,rfl,hq,TV,hk,kv,by omega,by omega,fun lf H1 nlf S1 h1=>?_⟩
  refine ⟨q,wd,us,_,rfl,S1 _ _ hq,RO,fun H2 S2=>?_⟩
  have S12:=S1.trans S2
  have h2:=S2 _ _ h1
  have kv2:(∀ k ∈ bh2 wd tb (bh1 wd ks),KV k)∧(bh2 wd tb (bh1 wd ks)).length = ks.length:=by
   have g1:=zd3 (w:=wd) kv
   have g2:=zf4 (w:=wd) (tb:=tb) g1.1
   exact ⟨g2.1,by rw [g2.2,g1.2]⟩
  by_cases c:wd ∈ WRw
  case neg =>
   rw [show wrU wd us = .non by unfold wrU; rw [if_neg c]]
   simp! []
   refine qq lf H2 nlf S12 ?_
   unfold bh bh3
   rw [if_neg c]
   exact h2
  obtain ⟨p,rest,eu,p0,p1⟩:=RO.wr c
  have ep:pW us = p:=by rw [eu]; rfl
  rw [show wrU wd us = .int p by unfold wrU; rw [if_pos c,ep]]
  simp! []
  obtain ⟨pN,rfl⟩:=Int.eq_ofNat_of_zero_le p0
  have e4:(bh2 wd tb (bh1 wd ks)).filterMap (fun k=>some (if k = .int (pN:Int) then .non else k)) = (bh2 wd tb (bh1 wd ks)).map fun k=>if k = .int (pN:Int) then .non else k:=by
   show List.filterMap (some ∘ fun k=>if k = V.int (pN:Int) then V.non else k) _ = _
   rw [List.filterMap_eq_map]
  refine zeT lf _ (fun k=>some (if k = .int (pN:Int) then .non else k)) (fun Q2 h2=>by simp! []; exact h2) (.of h2) (by rw [sizeLine_eq]; omega) ?_ ?_
  ·intro x H3 R N hx S3 hR hN
   have kx:=kv2.1 x hx
   simp! [tTrue,zaG]
   intro t nt
   refine ⟨kx.scalI,?_⟩
   by_cases e:x = .int (pN:Int)
   ·rw [if_pos e]
    exact ⟨_,za8,hR _ _ (by rw [if_pos e]) (Same.laid nt)⟩
   ·rw [if_neg e]
    exact ⟨_,zcZ,hR _ _ (by rw [if_neg e]) (Same.laid nt)⟩
  intro D H3 hD S3 e3
  rw [e4] at e3
  have S13:=S12.trans S3
  have nD:=S12.free hD
  have hq3:=S13 _ _ hq
  simp! [zdO,zdf,tPairs,tC]
  intro sd nsd
  refine ⟨shK DG3,rfl,by decide,?_⟩
  rw [merge_dg,zcV]
  have S4:=S13.step nsd (u:=.dK (shK DG3))
  have e4:=zab (u:=.dK (shK DG3)) e3 nsd
  have hsd:upd H3 sd (.dK (shK DG3)) sd = some (.dK (shK DG3)):=zaa
  revert S4 e4 hsd
  generalize upd H3 sd (.dK (shK DG3)) = H4
  intro S4 e4 hsd
  have hq4:=S4 _ _ hq
  refine ⟨.inl ⟨_,.of hsd⟩,_,by rw [hq4]; rfl,_,zcZ,_,DGet.k (k:=.inr wd) hsd,?_⟩
  rw [zeQ,show ((DG3.lookup wd).map V.str).getD (V.str (Str.ofString "n")) = .str (gn wd) from by rw [← dg_gn wd c]; cases DG3.lookup wd <;> rfl]
  have ebh:bh (sg.map (·.2)) wd us ks tb = ((bh2 wd tb (bh1 wd ks)).map fun k=>if k = .int (pN:Int) then .non else k).set pN (zdG (sg.map (·.2)) wd us ks):=by
   unfold bh bh3
   rw [if_pos c,ep,Int.toNat_natCast]
  have ix0:ixN ((bh2 wd tb (bh1 wd ks)).map fun k=>if k = .int (pN:Int) then .non else k).length (pN:Int) = some pN:=zca (by rw [List.length_map]; omega)
  have fin:∀ (H5:Hp) (g:V),Same H4 H5->g = zdG (sg.map (·.2)) wd us ks->Q (.ref D) (upd H5 D (.lst (((bh2 wd tb (bh1 wd ks)).map fun k=>if k = .int (pN:Int) then .non else k).set pN g))):=fun H5 g S5 eg=>by
   refine qq D _ nD (zaz (S4.trans S5) nD) ?_
   rw [zaa,ebh,eg]
  have PG4:=PG.same S4
  have topp:=PG4.top
  unfold zdG at fin
  subst hG3
  simp! [hq4,topp,e4]
  refine ite2 (fun cc=>?_) fun c1=>ite2 (fun cc=>?_) fun c2=>ite2 (fun cc=>?_) fun c3=>?_
  ·obtain ⟨p',g,rest',eu2,g0,g1⟩:=RO.cp cc
   obtain ⟨gN,rfl⟩:=Int.eq_ofNat_of_zero_le g0
   have eK:bh2 wd tb (bh1 wd ks) = ks:=by
    unfold bh2 bh1
    rw [if_neg (by rw [cc]; decide)]
    split
    ·rfl
    ·rw [if_neg (by rw [cc]; decide)]
   have hkn:=List.getElem?_eq_getElem (l:=ks) (i:=gN) (by omega)
   have a2:atI (V.str wd :: us) 2 = some (.int gN):=by rw [eu2]; exact zb1
   have a3:atI ((bh2 wd tb (bh1 wd ks)).map fun k=>if k = .int (pN:Int) then .non else k) ((gN:Nat):Int) = some (if (ks[gN]'(by omega)) = .int (pN:Int) then .non else ks[gN]'(by omega)):=zau (by rw [eK,List.getElem?_map,hkn]; rfl)
   refine ⟨_,a2,_,rfl,_,a3,pN,ix0,fin H4 _ (Same.refl _) ?_⟩
   have nc:¬ wd = Str.ofString "call":=by rw [cc]; decide
   rw [if_neg nc,if_pos cc,ep]
   have eq_:ks.getD (qW us).toNat .non = ks[gN]'(by omega):=by
    rw [eu2]
    show ks.getD ((gN:Int)).toNat .non = _
    rw [Int.toNat_natCast,List.getD_eq_getElem?_getD,hkn]; rfl
   rw [eq_]
  ·obtain ⟨p',g,rest',eu2,g0⟩:=RO.into cc
   have a2:atI (V.str wd :: us) 2 = some (.int g):=by rw [eu2]; exact zb1
   have eq_:qW us = g:=by rw [eu2]; rfl
   refine ⟨_,a2,fun t nt=>⟨_,by rw [zab hq4 nt]; rfl,_,a2,rfl,?_⟩⟩
   by_cases e:g = (pN:Int)
   ·rw [if_pos (by rw [e])]
    refine ⟨_,za8,_,zab e4 nt,pN,ix0,fin _ _ (Same.laid nt) ?_⟩
    rw [if_neg (by rw [cc]; decide),if_neg c1,if_pos cc,eq_,ep,if_pos e]
   ·rw [if_neg (fun z=>e (V.int.inj z))]
    refine ⟨_,zcZ,_,zab e4 nt,pN,ix0,fin _ _ (Same.laid nt) ?_⟩
    rw [if_neg (by rw [cc]; decide),if_neg c1,if_pos cc,eq_,ep,if_neg e]
  ·obtain ⟨p',g,rest',eu2,g0,g1⟩:=RO.call cc
   obtain ⟨gN,rfl⟩:=Int.eq_ofNat_of_zero_le g0
   obtain ⟨da,y,h1',h2',ad,ht⟩:=PG4.get (f:=gN) (by omega)
   have a2:atI (V.str wd :: us) 2 = some (.int gN):=by rw [eu2]; exact zb1
   refine ⟨_,a2,_,rfl,_,ad,_,rfl,_,by rw [ht]; rfl,_,za8,pN,ix0,fin H4 _ (Same.refl _) ?_⟩
   rw [if_pos cc]
   have eq_:(sg.map (·.2)).getD (qW us).toNat (Str.ofString "") = y.2:=by
    rw [eu2]
    show (sg.map (·.2)).getD ((gN:Int)).toNat (Str.ofString "") = _
    rw [Int.toNat_natCast,List.getD_eq_getElem?_getD,List.getElem?_map,h2']; rfl
   rw [eq_]
  ·exact ⟨pN,ix0,fin H4 _ (Same.refl _) (by rw [if_neg c3,if_neg c1,if_neg c2])⟩
end
section
variable {P:Program} {w:World} {K:PySem.W.Frag} {mg:Str->Option Value} {base:Heap} {a:Ad}
noncomputable def LW:List (Str × Str):=[("put","pi"),("nil","p"),("copy","pp"),("plus","ppp"),("less","ppp"),("make","pkk"),("fetch","ppk"),("read","ppk"),("hang","pkp"),("write","pkp"),("into","ppk"),("look","ppp"),("lay","ppp"),("jump","t"),("zero","pt"),("none","pt"),("same","ppt"),("call","pfq"),("back","p"),("tell","p"),("rest","")]
noncomputable def LET:List (Key × V):=LW.map fun p=>(.inr p.1,.str p.2)
abbrev Part:=Int ⊕ List Int
abbrev Row:=Str × List Part
abbrev Sg:=Str × Str
noncomputable def zch (H:Hp) (v:V):Part->Prop
 | .inl x=>v = .int x
 | .inr l=>∃ q,v = .ref q∧H q = some (.tup (l.map V.int))
structure PartsAt (H:Hp) (vs:List V) (ps:List Part):Prop where
 len:vs.length = ps.length
 at_:∀ (i:Nat) (v:V) (p:Part),vs[i]? = some v->ps[i]? = some p->zch H v p
noncomputable def zbe (H:Hp) (p:Addr) (r:Row):Prop:=∃ vs,H p = some (.tup (.str r.1 :: vs))∧PartsAt H vs r.2
noncomputable def zbq (words many:Int) (sg:List Sg) (ps:List Part) (c:Nat) (p:Part):Prop :=
 (c = 112∧∃ x,p = .inl x∧0 ≤ x∧x < 8 + words) ∨ (c = 107∧∃ x,p = .inl x∧0 ≤ x∧x < 10) ∨ (c = 116∧∃ x,p = .inl x∧0 ≤ x∧x < many) ∨ (c = 102∧∃ x,p = .inl x∧0 ≤ x∧x < sg.length) ∨
 (c = 105∧∃ x,p = .inl x∧-(10 ^ 60) < x∧x < 10 ^ 60) ∨ (c = 113∧∃ (f:Nat) (l:List Int) (z:Sg),ps[1]? = some (.inl (f:Int))∧sg[f]? = some z∧p = .inr l∧l.length = z.1.cps.size∧∀ x ∈ l,0 ≤ x∧x < 8 + words)
structure PartsFit (words many:Int) (sg:List Sg) (ls:Str) (ps:List Part):Prop where
 at_:∀ (i c:Nat) (p:Part),ls.cps[i]? = some c->ps[i]? = some p->zbq words many sg ps c p
noncomputable def zaH (words many:Int) (sg:List Sg) (r:Row):Prop:=∃ ls,(r.1,ls) ∈ LW∧r.2.length = ls.cps.size∧PartsFit words many sg ls r.2
theorem LW_ok:∀ p ∈ LW,p.2.cps.size ≤ 3∧p.2.cps.all (· < 128) = true∧valV LET (.inr p.1) = some (.str p.2):=by
 intro p hp
 simp only [LW,List.mem_cons,List.not_mem_nil,or_false] at hp
 rcases hp with rfl | rfl | rfl | rfl | rfl | rfl | rfl | rfl | rfl | rfl | rfl | rfl | rfl | rfl | rfl | rfl | rfl | rfl | rfl | rfl | rfl
 all_goals exact ⟨by decide +kernel,by decide +kernel,by rfl⟩
theorem BagAt.has {H:Hp} {b c:Addr} {cs:List Int} (x:BagAt H b c cs):∃ o,H b = some o:=by obtain ⟨⟨i,v,s,n,e,_⟩,_⟩:=x; exact ⟨_,e⟩
theorem BagAt.tup {H H':Hp} {b c q:Addr} {cs:List Int} {xs:List V} (x:BagAt H b c cs) (k:Kp b H H') (h:H q = some (.tup xs)):H' q = some (.tup xs):=by
 refine k q _ h (fun e=>?_)
 obtain ⟨⟨i,v,st,n,hb,_⟩,_⟩:=x
 rw [e,hb] at h
 cases h
theorem zch.kp {H H':Hp} {b c:Addr} {cs:List Int} {v:V} {p:Part} (x:BagAt H b c cs) (k:Kp b H H') (h:zch H v p):zch H' v p:=by
 cases p with
 | inl y=>exact h
 | inr l=>obtain ⟨q,e,h⟩:=h; exact ⟨q,e,x.tup k h⟩
theorem PartsAt.kp {H H':Hp} {b c:Addr} {cs:List Int} {vs:List V} {ps:List Part} (x:BagAt H b c cs) (k:Kp b H H') (h:PartsAt H vs ps):PartsAt H' vs ps:=⟨h.len,fun i v p h1 h2=>(h.at_ i v p h1 h2).kp x k⟩
theorem zbe.kp {H H':Hp} {b c q:Addr} {cs:List Int} {r:Row} (x:BagAt H b c cs) (k:Kp b H H') (h:zbe H q r):zbe H' q r:=by
 obtain ⟨vs,e,h⟩:=h
 exact ⟨vs,x.tup k e,h.kp x k⟩
structure RowsOf (H:Hp) (rl:Addr) (rs:List Addr) (rws:List Row):Prop where
 top:H rl = some (.lst (rs.map V.ref))
 len:rs.length = rws.length
 row:∀ (i:Nat) (p:Addr) (r:Row),rs[i]? = some p->rws[i]? = some r->zbe H p r
theorem RowsOf.kp {H H':Hp} {b c rl:Addr} {cs:List Int} {rs:List Addr} {rws:List Row} (x:BagAt H b c cs) (k:Kp b H H') (n:rl ≠ b) (h:RowsOf H rl rs rws):RowsOf H' rl rs rws:=⟨k _ _ h.top n,h.len,fun i p y h1 h2=>(h.row i p y h1 h2).kp x k⟩
theorem zbe.fr {H H':Hp} {M:Addr->Prop} {q:Addr} {r:Row} (f:Fr M H H') (h:zbe H q r):zbe H' q r:=by
 obtain ⟨vs,e,hl,h⟩:=h
 refine ⟨vs,f.tups _ _ e,hl,fun i v p h1 h2=>?_⟩
 have:=h i v p h1 h2
 cases p with
 | inl y=>exact this
 | inr l=>obtain ⟨t,e,h⟩:=this; exact ⟨t,e,f.tups _ _ h⟩
theorem RowsOf.snoc {H H':Hp} {M:Addr->Prop} {rl p:Addr} {rs:List Addr} {rws:List Row} {r:Row} (f:Fr M H H') (h:∀ (i:Nat) (p:Addr) (r:Row),rs[i]? = some p->rws[i]? = some r->zbe H p r) (len:rs.length = rws.length) (top:H' rl = some (.lst (rs.map V.ref ++ [.ref p]))) (hr:zbe H' p r):RowsOf H' rl (rs ++ [p]) (rws ++ [r]):=⟨by rw [top,List.map_append]; rfl,by rw [List.length_append,List.length_append,len]; rfl,fun i q y h1 h2=>by
 by_cases d:i < rws.length
 ·rw [List.getElem?_append_left d] at h2
  rw [List.getElem?_append_left (by rw [len]; exact d)] at h1
  exact (h i q y h1 h2).fr f
 ·have e:i = rws.length:=by
   have:=(List.getElem?_eq_some_iff.mp h2).1
   rw [List.length_append,List.length_singleton] at this
   omega
  rw [e] at h1 h2
  rw [List.getElem?_append_right (Nat.le_refl _),Nat.sub_self] at h2
  rw [← len,List.getElem?_append_right (Nat.le_refl _),Nat.sub_self] at h1
  cases h1
  cases h2
  exact hr⟩
noncomputable def ze2 (rws:List Row):Prop:=∃ r,rws.getLast? = some r∧(r.1 = "back" ∨ r.1 = "jump")
theorem zgn (l:List Nat):PySem.Txt.join "" (l.map fun c=>(⟨#[c]⟩:Str)) = ⟨l.toArray⟩:=by
 have key:∀ (r:List Nat) (acc:Array Nat),(r.map fun c=>(⟨#[c]⟩:Str)).foldl (fun acc p=>acc ++ (Str.ofString "").cps ++ p.cps) acc = acc ++ r.toArray:=by
  intro r
  induction r with
  | nil=>intro acc; simp
  | cons c r ih =>
   intro acc
   rw [List.map_cons,List.foldl_cons,ih]
   rw [show (Str.ofString "").cps = #[] by decide]
   simp
 cases l with
 | nil=>rfl
 | cons c r =>
  show (⟨(r.map fun c=>(⟨#[c]⟩:Str)).foldl (fun acc p=>acc ++ (Str.ofString "").cps ++ p.cps) #[c]⟩:Str) = _
  rw [key]
  simp
noncomputable def NH (c:Nat):Prop:=c = 110 ∨ c = 104
structure SgFit (sg:List Sg):Prop where
 sz:∀ x ∈ sg,x.1.cps.size ≤ 6
 let_:∀ x ∈ sg,∀ c ∈ x.1.cps.toList,NH c
 gives:∀ x ∈ sg,x.2 = ⟨#[110]⟩ ∨ x.2 = ⟨#[104]⟩
 first:∀ x:Sg,sg[0]? = some x->(∀ c ∈ x.1.cps.toList,c = 110)∧x.2 = ⟨#[110]⟩
theorem SgFit.asc {sg:List Sg} (x:SgFit sg):∀ y ∈ sg,y.1.cps.size ≤ 6∧y.1.cps.all (· < 128) = true:=fun y hy=>⟨x.sz y hy,by
 rw [← Array.all_toList,List.all_eq_true]
 intro c hc
 rcases x.let_ y hy c hc with h | h <;> rw [h] <;> decide⟩
abbrev Df:=Sg × Int × List Row
structure ProgAt (H:Hp) (pl:Addr) (das:List (Addr × Addr × List Addr)) (ds:List Df):Prop where
 top:H pl = some (.lst (das.map fun a=>V.ref a.1))
 len:das.length = ds.length
 def_:∀ (i:Nat) (a:Addr × Addr × List Addr) (d:Df),das[i]? = some a->ds[i]? = some d->H a.1 = some (.tup [.str d.1.1,.str d.1.2,.int d.2.1,.ref a.2.1])∧RowsOf H a.2.1 a.2.2 d.2.2
structure DfFit (sg:List Sg) (d:Df):Prop where
 w0:0 ≤ d.2.1
 w1:d.2.1 ≤ 16
 n0:0 < d.2.2.length
 n1:d.2.2.length ≤ 40
 rows:∀ r ∈ d.2.2,zaH d.2.1 d.2.2.length sg r
 last:ze2 d.2.2
structure ProgFit (ds:List Df):Prop where
 sg:SgFit (ds.map (·.1))
 n0:0 < ds.length
 n1:ds.length ≤ 8
 defs:∀ d ∈ ds,DfFit (ds.map (·.1)) d
theorem RowsOf.fr {H H':Hp} {M:Addr->Prop} {rl:Addr} {rs:List Addr} {rws:List Row} (f:Fr M H H') (h:RowsOf H rl rs rws) (n:¬ M rl):RowsOf H' rl rs rws:=⟨f.keep _ _ h.top n,h.len,fun i p r h1 h2=>(h.row i p r h1 h2).fr f⟩
theorem zfh {b q:Addr} {H H':Hp} (k:Kp b H H') (n:q ≠ b) (h:H' q = none):H q = none:=by
 cases e:H q with
 | none=>rfl
 | some o=>rw [k _ _ e n] at h; cases h
theorem BagAt.apart {H:Hp} {b c l:Addr} {cs:List Int} (B:BagAt H b c cs) (h:H l = none):l ≠ b∧l ≠ c:=by
 refine ⟨fun e=>?_,fun e=>?_⟩
 ·obtain ⟨o,z⟩:=B.has
  rw [← e,h] at z; cases z
 ·have z:=B.at_
  rw [← e,h] at z; cases z
end
section
variable {P:Program} {w:World} {K:PySem.W.Frag} {mg:Str->Option Value} {base:Heap} {a:Ad}
noncomputable def zg7 (r:Row):Int:=match r.2.getLast? with
 | some (.inl x)=>x
 | _=>0
noncomputable def twoI (a b:Int):List Int:=if a = b then [a] else if a < b then [a,b] else [b,a]
noncomputable def Br (s:Str):Prop:=s = "zero" ∨ s = "none" ∨ s = "same"
instance {s:Str}:Decidable (Br s):=by unfold Br; exact inferInstance
noncomputable def nxt (r:Row) (k:Int):List Int:=if r.1 = "back" then [] else if r.1 = "jump" then [zg7 r] else if Br r.1 then twoI (k + 1) (zg7 r) else [k + 1]
theorem LW_t:∀ p ∈ LW,(p.1 = "jump"->p.2 = ("t":Str))∧(p.1 = "zero"->p.2 = ("pt":Str))∧(p.1 = "none"->p.2 = ("pt":Str))∧(p.1 = "same"->p.2 = ("ppt":Str)):=by decide +kernel
theorem ziy {words many:Int} {sg:List Sg} {ps:List Part} {p:Part} (h:zbq words many sg ps 116 p):∃ x,p = .inl x∧0 ≤ x∧x < many:=by
 rcases h with ⟨e,_⟩ | ⟨e,_⟩ | ⟨_,h⟩ | ⟨e,_⟩ | ⟨e,_⟩ | ⟨e,_⟩
 ·exact absurd e (by decide)
 ·exact absurd e (by decide)
 ·exact h
 ·exact absurd e (by decide)
 ·exact absurd e (by decide)
 ·exact absurd e (by decide)
theorem zdb {words many:Int} {sg:List Sg} {r:Row} (F:zaH words many sg r) (e:r.1 = "jump" ∨ Br r.1):∃ pre x,r.2 = pre ++ [.inl x]∧0 ≤ x∧x < many∧(r.1 = "jump"->pre = [])∧zg7 r = x:=by
 obtain ⟨ls,m,l,pf⟩:=F
 have key:∃ n,r.2.length = n + 1∧ls.cps[n]? = some 116∧(r.1 = "jump"->n = 0):=by
  obtain ⟨t1,t2,t3,t4⟩:=LW_t _ m
  rcases e with e | e | e | e
  ·have:=t1 e; dsimp only at this; subst this; exact ⟨0,l,rfl,fun _=>rfl⟩
  ·have:=t2 e; dsimp only at this; subst this; exact ⟨1,l,rfl,fun z=>by rw [e] at z; exact absurd z (by decide)⟩
  ·have:=t3 e; dsimp only at this; subst this; exact ⟨1,l,rfl,fun z=>by rw [e] at z; exact absurd z (by decide)⟩
  ·have:=t4 e; dsimp only at this; subst this; exact ⟨2,l,rfl,fun z=>by rw [e] at z; exact absurd z (by decide)⟩
 obtain ⟨n,hn,hc,h0⟩:=key
 have hl:n < r.2.length:=by omega
 obtain ⟨x,ex,x0,x1⟩:=ziy (pf.at_ n 116 _ hc (List.getElem?_eq_getElem hl))
 have es:r.2 = r.2.take n ++ [.inl x]:=by
  rw [← ex,← List.take_succ_eq_append_getElem hl,List.take_of_length_le (by omega)]
 refine ⟨r.2.take n,x,es,x0,x1,fun z=>by rw [h0 z]; rfl,?_⟩
 unfold zg7
 rw [es,List.getLast?_concat]
theorem zbx {H:Hp} {vs:List V} {pre:List Part} {x:Int} (h:PartsAt H vs (pre ++ [.inl x])):∃ us,vs = us ++ [.int x]∧us.length = pre.length:=by
 have l:=h.len
 rw [List.length_append,List.length_singleton] at l
 have hl:pre.length < vs.length:=by omega
 have e:=h.at_ pre.length _ (.inl x) (List.getElem?_eq_getElem hl) (by rw [List.getElem?_append_right (Nat.le_refl _),Nat.sub_self]; rfl)
 have e':vs[pre.length] = .int x:=e
 refine ⟨vs.take pre.length,?_,by rw [List.length_take]; omega⟩
 rw [← e',← List.take_succ_eq_append_getElem hl,List.take_of_length_le (by omega)]
noncomputable def sp_nexts:Sp:=fun vs H Q _=>∃ (rl:Addr) (k:Nat) (rs:List Addr) (rws:List Row) (r:Row) (words many:Int) (sg:List Sg),vs = [.ref rl,.int k]∧RowsOf H rl rs rws∧rws[k]? = some r∧zaH words many sg r∧many ≤ 40∧k < 40 ∧
 ∀ (l:Addr) (H':Hp),H l = none->Same H H'->H' l = some (.lst ((nxt r k).map V.int))->Q (.ref l) H'
theorem zda {a b:Int} {ns:List Int} (h:ns.Perm (zcq a b)) (s:ns.Pairwise (· ≤ ·)):ns = twoI a b:=by
 have r:(twoI a b).Perm (zcq a b)∧(twoI a b).Pairwise (· < ·):=by
  unfold twoI zcq
  by_cases c:a = b
  ·rw [if_pos c,if_pos c]; exact ⟨.refl _,by simp⟩
  ·rw [if_neg c,if_neg c]
   by_cases d:a < b
   ·rw [if_pos d]; exact ⟨.refl _,by simp [d]⟩
   ·rw [if_neg d]; exact ⟨.swap ..,by simp; omega⟩
 exact zen (h.trans r.1.symm) s r.2
theorem zin {s:Str}:inV (.str s) [.str "zero",.str "none",.str "same"] = decide (Br s):=by
 have:=zdA (s:=s) (l:=["zero","none","same"])
 rw [show [V.str "zero",V.str "none",V.str "same"] = (["zero","none","same"]:List Str).map V.str from rfl,this]
 rw [Bool.eq_iff_iff,decide_eq_true_eq,decide_eq_true_eq]
 simp only [List.mem_cons,List.not_mem_nil,or_false,Br]
theorem zcz {H:Hp} {p q:Addr} {u:HO} (h:upd H p u q = none):q ≠ p∧H q = none:=by
 by_cases c:q = p
 ·rw [c,zaa] at h; cases h
 ·rw [zaj c] at h; exact ⟨c,h⟩
theorem ziK {s:Str} {v:V} {H:Hp} {Q:VK} (h:∃ p,v = .ref p∧(H p = some (.tup [.str "zero",.str "none",.str "same"]) ∨ H p = some (.lst [.str "zero",.str "none",.str "same"]))) (q:Q (.bl (decide (Br s))) H):rIn K false (.str s) v H Q:=by
 obtain ⟨p,rfl,h⟩:=h
 refine ⟨p,_,rfl,h.elim (fun h=>.inr (.of h)) (fun h=>.inl (.of h)),rfl,rfl,?_⟩
 rw [if_neg (by simp),zin]; exact q
set_option maxHeartbeats 1000000 in
theorem zdo (T:Txt K mg a):FnOk P w K mg base CX0 1 a.f_nexts a.d_nexts ["rows","at"] sp_nexts:=by
 refine T.F_nexts.okC sc_nexts (fun vs H Q E h=>?_) (fun cdv A outer s H vs Q E hr h=>?_)
 ·obtain ⟨rl,k,rs,rws,r,words,many,sg,rfl,_⟩:=h
  rfl
 ·obtain ⟨rl,k,rs,rws,r,words,many,sg,rfl,R,hk,F,m40,k40,q⟩:=h
  have hu:=zaT hr
  refine ⟨_,(@zad _ _ _ _ _ (zaw (i:=2) sc_nexts.nd (by rfl) (Or.inl rfl) (zah ix_F (pv 0) (pv 1) (fun _ _=>rfl)))
   (@zad _ _ _ _ _ (@zaD _ _ _ _ _ _ _ _ (zak op_eq (zah ix_F (pv 2) zag (fun _ _=>rfl)) zaB (zat _)) (@zaf _ _ _ (zao (zav pa_nil))) pss_nil)
   (@zad _ _ _ _ _ (@zaD _ _ _ _ _ _ _ _ (zak op_eq (zah ix_F (pv 2) zag (fun _ _=>rfl)) zaB (zat _)) (@zaf _ _ _ (zao (zav (zae (zah ix_F (pv 2) zag (fun _ _=>rfl)) pa_nil)))) pss_nil)
   (@zad _ _ _ _ _ (@zaD _ _ _ _ _ _ _ _ (zak op_in_seq (zah ix_F (pv 2) zag (fun _ _=>rfl)) (zas (@zam _ _ _ _ _ _ (@zam _ _ _ _ _ _ (@zam _ _ _ _ _ _ pa_nil)))) (by with_unfolding_all rfl)) (@zaf _ _ _ (zao (zax (zbu (by rfl) (by rfl)) (by rfl) T.z_sorted (by decide +kernel) (zae (zaN (zce (by rfl) (by rfl)) (by rfl) T.z_set (by decide +kernel) (zae (zav (zae (zaK op_add (pv 1) zag) (zae (zah ix_F (pv 2) (zgV un_neg zag) (fun _ _=>rfl)) pa_nil))) pa_nil)) pa_nil)))) pss_nil)
   (@zaf _ _ _ (zao (zav (zae (zaK op_add (pv 1) zag) pa_nil)))))))),?_⟩
  have kl:=(List.getElem?_eq_some_iff.mp hk).1
  have ks:k < rs.length:=by rw [R.len]; exact kl
  obtain ⟨vs,hp,PA⟩:=R.row k _ r (List.getElem?_eq_getElem ks) hk
  have top:=R.top
  have a1:atI (rs.map V.ref) ((k:Nat):Int) = some (.ref rs[k]):=zau (by rw [List.getElem?_map,List.getElem?_eq_getElem ks]; rfl)
  simp! [top,a1,hp]
  refine ite2 (fun e=>?_) fun e1=>ite2 (fun e=>?_) fun e2=>?_
  ·intro l hl
   refine q l _ hl (.laid hl) ?_
   rw [zaa]; unfold nxt; rw [if_pos e]; rfl
  ·obtain ⟨pre,x,er,x0,x1,ep,el⟩:=zdb F (.inl e)
   rw [er,ep e] at PA
   obtain ⟨us,ev,lu⟩:=zbx PA
   have:us = []:=List.eq_nil_of_length_eq_zero lu
   rw [ev,this]
   refine ⟨_,za8,fun l hl=>q l _ hl (.laid hl) ?_⟩
   rw [zaa]; unfold nxt; rw [if_neg e1,if_pos e,el]; rfl
  ·intro p np
   refine ziK ⟨p,rfl,.inl zaa⟩ ?_
   refine ⟨_,rfl,?_⟩
   have hp':=zab (u:=.tup [.str "zero",.str "none",.str "same"]) hp np
   by_cases c:Br r.1
   ·rw [decide_eq_true c,if_pos rfl]
    obtain ⟨pre,x,er,x0,x1,ep,el⟩:=zdb F (.inr c)
    rw [er] at PA
    obtain ⟨us,ev,lu⟩:=zbx PA
    refine ⟨_,by rw [hp']; rfl,.int x,by rw [ev,← List.cons_append]; exact zcB _ _,fun l1 nl1=>⟨x,rfl,by omega,by omega,x0,by omega,fun a2 na2=>⟨_,rfl,?_,fun l ns' nl pm st=>?_⟩⟩⟩
    ·unfold zcq; split <;> simp
    ·have S1:Same H (upd H p (.tup [.str "zero",.str "none",.str "same"])):=.laid np
     have S2:=(S1.step nl1 (u:=.lst [.int ((k:Int) + 1),.int x])).step na2 (u:=SetO w a2 (zcq ((k:Int) + 1) x))
     refine q l _ (S2.free nl) (S2.step nl) ?_
     rw [zaa,zda pm st]
     unfold nxt
     rw [if_neg e1,if_neg e2,if_pos c,el]
   ·rw [decide_eq_false c,if_neg (by simp)]
    intro l nl
    have S1:Same H (upd H p (.tup [.str "zero",.str "none",.str "same"])):=.laid np
    refine q l _ (S1.free nl) (S1.step nl) ?_
    rw [zaa]; unfold nxt; rw [if_neg e1,if_neg e2,if_neg c]; rfl
set_option maxHeartbeats 1000000 in
theorem zck (T:Txt K mg a):FnOk P w K mg base CX0 1 a.f_law_nexts a.d_law_nexts ["rows","at"] sp_nexts:=by
 refine T.F_law_nexts.okC sc_law_nexts (fun vs H Q E h=>?_) (fun cdv A outer s H vs Q E hr h=>?_)
 ·obtain ⟨rl,k,rs,rws,r,words,many,sg,rfl,_⟩:=h
  rfl
 ·obtain ⟨rl,k,rs,rws,r,words,many,sg,rfl,R,hk,F,m40,k40,q⟩:=h
  have hu:=zaT hr
  refine ⟨_,(@zad _ _ _ _ _ (@zaD _ _ _ _ _ _ _ _ (zak op_eq (zah ix_F (zah ix_F (pv 0) (pv 1) (fun _ _=>rfl)) zag (fun _ _=>rfl)) zaB (zat _)) (@zaf _ _ _ (zao (zav (zae (zah ix_F (zah ix_F (pv 0) (pv 1) (fun _ _=>rfl)) zag (fun _ _=>rfl)) pa_nil)))) pss_nil)
   (@zad _ _ _ _ _ (@zaD _ _ _ _ _ _ _ _ (zak op_eq (zah ix_F (zah ix_F (pv 0) (pv 1) (fun _ _=>rfl)) zag (fun _ _=>rfl)) zaB (zat _)) (@zaf _ _ _ (zao (zav pa_nil))) pss_nil)
   (@zad _ _ _ _ _ (@zaD _ _ _ _ _ _ _ _ (zak op_in_seq (zah ix_F (zah ix_F (pv 0) (pv 1) (fun _ _=>rfl)) zag (fun _ _=>rfl)) (zav (@zam _ _ _ _ _ _ (@zam _ _ _ _ _ _ (@zam _ _ _ _ _ _ pa_nil)))) (by with_unfolding_all rfl)) (@zaf _ _ _ (zao (zax (zbu (by rfl) (by rfl)) (by rfl) T.z_sorted (by decide +kernel) (zae (zaN (zce (by rfl) (by rfl)) (by rfl) T.z_set (by decide +kernel) (zae (zav (zae (zaK op_add (pv 1) zag) (zae (zah ix_F (zah ix_F (pv 0) (pv 1) (fun _ _=>rfl)) (zgV un_neg zag) (fun _ _=>rfl)) pa_nil))) pa_nil)) pa_nil)))) pss_nil)
   (@zaf _ _ _ (zao (zav (zae (zaK op_add (pv 1) zag) pa_nil))))))),?_⟩
  have kl:=(List.getElem?_eq_some_iff.mp hk).1
  have ks:k < rs.length:=by rw [R.len]; exact kl
  obtain ⟨vs,hp,PA⟩:=R.row k _ r (List.getElem?_eq_getElem ks) hk
  have top:=R.top
  have a1:atI (rs.map V.ref) ((k:Nat):Int) = some (.ref rs[k]):=zau (by rw [List.getElem?_map,List.getElem?_eq_getElem ks]; rfl)
  simp! [top,a1,hp]
  refine ite2 (fun e=>?_) fun e2=>ite2 (fun e1=>?_) fun e1=>?_
  ·obtain ⟨pre,x,er,x0,x1,ep,el⟩:=zdb F (.inl e)
   rw [er,ep e] at PA
   obtain ⟨us,ev,lu⟩:=zbx PA
   have:us = []:=List.eq_nil_of_length_eq_zero lu
   rw [ev,this]
   refine ⟨_,za8,fun l hl=>q l _ hl (.laid hl) ?_⟩
   rw [zaa]; unfold nxt; rw [if_neg (by rw [e]; simp [zcP]),if_pos e,el]; rfl
  ·intro l hl
   refine q l _ hl (.laid hl) ?_
   rw [zaa]; unfold nxt; rw [if_pos e1]; rfl
  ·intro p np
   refine ziK ⟨p,rfl,.inr zaa⟩ ?_
   refine ⟨_,rfl,?_⟩
   have hp':=zab (u:=.lst [.str "zero",.str "none",.str "same"]) hp np
   have top':=zab (u:=.lst [.str "zero",.str "none",.str "same"]) top np
   by_cases c:Br r.1
   ·rw [decide_eq_true c,if_pos rfl]
    obtain ⟨pre,x,er,x0,x1,ep,el⟩:=zdb F (.inr c)
    rw [er] at PA
    obtain ⟨us,ev,lu⟩:=zbx PA
    refine ⟨_,by rw [top']; rfl,_,a1,_,rfl,_,by rw [hp']; rfl,.int x,by rw [ev,← List.cons_append]; exact zcB _ _,fun l1 nl1=>⟨x,rfl,by omega,by omega,x0,by omega,fun a2 na2=>⟨_,rfl,?_,fun l ns' nl pm st=>?_⟩⟩⟩
    ·unfold zcq; split <;> simp
    ·have S1:Same H (upd H p (.lst [.str "zero",.str "none",.str "same"])):=.laid np
     have S2:=(S1.step nl1 (u:=.lst [.int ((k:Int) + 1),.int x])).step na2 (u:=SetO w a2 (zcq ((k:Int) + 1) x))
     refine q l _ (S2.free nl) (S2.step nl) ?_
     rw [zaa,zda pm st]
     unfold nxt
     rw [if_neg e1,if_neg e2,if_pos c,el]
   ·rw [decide_eq_false c,if_neg (by simp)]
    intro l nl
    have S1:Same H (upd H p (.lst [.str "zero",.str "none",.str "same"])):=.laid np
    refine q l _ (S1.free nl) (S1.step nl) ?_
    rw [zaa]; unfold nxt; rw [if_neg e1,if_neg e2,if_neg c]; rfl
end
section
variable {P:Program} {w:World} {K:PySem.W.Frag} {mg:Str->Option Value} {base:Heap} {a:Ad}
noncomputable def zaF (r:Row) (i:Nat):V:=match r.2[i]? with
 | some (.inl x)=>.int x
 | _=>.non
noncomputable def UST:List (Str × List (Nat × Str)):=[("put",[]),("nil",[]),("copy",[]),("plus",[(2,"n"),(3,"n")]),("less",[(2,"n"),(3,"n")]),("make",[]),("fetch",[(2,"h")]),("read",[(2,"h")]),("hang",[(1,"h"),(3,"h")]),("write",[(1,"h"),(3,"n")]),("into",[(2,"h")]),("jump",[]),("zero",[(1,"n")]),("none",[(1,"h")]),("same",[(1,"h"),(2,"h")]),("tell",[(1,"n")]),("rest",[])]
noncomputable def ust (w:Str):List (Nat × Str):=(UST.lookup w).getD []
noncomputable def usV (sg:List Sg) (gives:Str) (r:Row):List (V × V) :=
 if r.1 = "call" then (match r.2 with
  | [_,.inl g,.inr l]=>(l.map V.int).zip ((sg.getD g.toNat ("","")).1.cps.toList.map fun c=>V.str ⟨#[c]⟩)
  | _=>[])
 else if r.1 = "back" then [(zaF r 0,.str gives)]
 else if r.1 = "look" then [(zaF r 1,zaF r 2)]
 else if r.1 = "lay" then [(zaF r 0,zaF r 1),(zaF r 2,.str "n")]
 else (ust r.1).map fun q=>(zaF r (q.1 - 1),.str q.2)
structure Prw (H:Hp) (l:Addr) (ps:List (V × V)) (rs:List Addr):Prop where
 top:H l = some (.lst (rs.map V.ref))
 len:rs.length = ps.length
 at_:∀ (k:Nat) (r:Addr) (p:V × V),rs[k]? = some r->ps[k]? = some p->H r = some (.tup [p.1,p.2])
noncomputable def sp_uses:Sp:=fun vs H Q _=>∃ (pl p:Addr) (f:Nat) (das:List (Addr × Addr × List Addr)) (ds:List Df) (d:Df) (r:Row) (words many:Int),vs = [.ref pl,.int f,.ref p]∧ProgAt H pl das ds∧ds[f]? = some d∧zbe H p r∧zaH words many (ds.map (·.1)) r∧SgFit (ds.map (·.1)) ∧
 ∀ (l:Addr) (rs:List Addr) (H':Hp),H l = none->Same H H'->Prw H' l (usV (ds.map (·.1)) d.1.2 r) rs->Q (.ref l) H'
theorem len3 {α:Type}:∀ {l:List α},l.length = 3->∃ a b c,l = [a,b,c]
 | [a,b,c],_=>⟨a,b,c,rfl⟩
theorem LW_s:∀ p ∈ LW,(p.1 = "back"->p.2 = ("p":Str))∧(p.1 = "look"->p.2 = ("ppp":Str))∧(p.1 = "lay"->p.2 = ("ppp":Str))∧(p.1 = "call"->p.2 = ("pfq":Str)):=by decide +kernel
theorem zei {words many:Int} {sg:List Sg} {ps:List Part} {p:Part} (h:zbq words many sg ps 112 p):∃ x,p = .inl x:=by
 rcases h with ⟨_,x,e1,_⟩ | ⟨z,_⟩ | ⟨z,_⟩ | ⟨z,_⟩ | ⟨z,_⟩ | ⟨z,_⟩
 ·exact ⟨x,e1⟩
 all_goals omega
theorem zeR {words many:Int} {sg:List Sg} {r:Row} (F:zaH words many sg r) (h:r.1 = "back"):∃ x,r.2 = [.inl x]:=by
 obtain ⟨ls,m,l,pf⟩:=F
 have e:=(LW_s _ m).1 h
 rw [show ls = ("p":Str) from e] at l pf
 have l':r.2.length = 1:=l
 obtain ⟨a,ea⟩:=List.length_eq_one_iff.mp l'
 obtain ⟨x,rfl⟩:=zei (pf.at_ 0 112 a rfl (by rw [ea]; rfl))
 exact ⟨x,ea⟩
theorem zdH {words many:Int} {sg:List Sg} {r:Row} (F:zaH words many sg r) (h:r.1 = "look" ∨ r.1 = "lay"):∃ x y z,r.2 = [.inl x,.inl y,.inl z]:=by
 obtain ⟨ls,m,l,pf⟩:=F
 have e:ls = ("ppp":Str):=by
  rcases h with h | h
  ·exact (LW_s _ m).2.1 h
  ·exact (LW_s _ m).2.2.1 h
 rw [e] at l pf
 have l':r.2.length = 3:=l
 obtain ⟨a,b,c,ea⟩:=len3 l'
 obtain ⟨x,rfl⟩:=zei (pf.at_ 0 112 a rfl (by rw [ea]; rfl))
 obtain ⟨y,rfl⟩:=zei (pf.at_ 1 112 b rfl (by rw [ea]; rfl))
 obtain ⟨z,rfl⟩:=zei (pf.at_ 2 112 c rfl (by rw [ea]; rfl))
 exact ⟨x,y,z,ea⟩
theorem zeY {words many:Int} {sg:List Sg} {r:Row} (F:zaH words many sg r) (h:r.1 = "call"):∃ (x:Int) (g:Nat) (l:List Int) (z:Sg),r.2 = [.inl x,.inl (g:Int),.inr l]∧sg[g]? = some z∧l.length = z.1.cps.size:=by
 obtain ⟨ls,m,l,pf⟩:=F
 have e:=(LW_s _ m).2.2.2 h
 rw [show ls = ("pfq":Str) from e] at l pf
 have l':r.2.length = 3:=l
 obtain ⟨a,b,c,ea⟩:=len3 l'
 obtain ⟨x,rfl⟩:=zei (pf.at_ 0 112 a rfl (by rw [ea]; rfl))
 have q:=pf.at_ 2 113 c rfl (by rw [ea]; rfl)
 rcases q with ⟨z,_⟩ | ⟨z,_⟩ | ⟨z,_⟩ | ⟨z,_⟩ | ⟨z,_⟩ | ⟨_,g,l1,z,h1,h2,h3,h4,_⟩
 ·omega
 ·omega
 ·omega
 ·omega
 ·omega
 ·rw [ea] at h1
  cases h1
  subst h3
  exact ⟨x,g,l1,z,ea,h2,h4⟩
theorem zhu {H:Hp} {us:List V} {x:Int} (PA:PartsAt H us [.inl x]):us = [.int x]:=by
 obtain ⟨v,e⟩:=List.length_eq_one_iff.mp PA.len
 subst e
 rw [show v = .int x from PA.at_ 0 v (.inl x) rfl rfl]
theorem zc7 {H:Hp} {us:List V} {a b c:Part} (PA:PartsAt H us [a,b,c]):∃ u v w,us = [u,v,w]∧zch H u a∧zch H v b∧zch H w c:=by
 obtain ⟨u,v,w,e⟩:=len3 PA.len
 subst e
 exact ⟨u,v,w,rfl,PA.at_ 0 u a rfl rfl,PA.at_ 1 v b rfl rfl,PA.at_ 2 w c rfl rfl⟩
theorem Prw.one {H:Hp} {t l:Addr} {x y:V} (ht:H t = some (.tup [x,y])) (hl:H l = some (.lst [.ref t])):Prw H l [(x,y)] [t]:=⟨hl,rfl,fun k r p h1 h2=>by
 cases k with
 | zero=>cases h1; cases h2; exact ht
 | succ k=>simp at h1⟩
theorem Prw.two {H:Hp} {t t2 l:Addr} {x y x2 y2:V} (ht:H t = some (.tup [x,y])) (ht2:H t2 = some (.tup [x2,y2])) (hl:H l = some (.lst [.ref t,.ref t2])):Prw H l [(x,y),(x2,y2)] [t,t2]:=⟨hl,rfl,fun k r p h1 h2=>by
 match k,h1,h2 with
 | 0,h1,h2=>cases h1; cases h2; exact ht
 | 1,h1,h2=>cases h1; cases h2; exact ht2
 | k + 2,h1,h2=>simp at h1⟩
noncomputable def ustD (p:Str × List (Nat × Str)):PyData × PyData:=(.str p.1,.tuple (p.2.map fun q=>.tuple [.int q.1,.str q.2]))
theorem kd_uses_eq:kd_USES = .dict (UST.map ustD):=rfl
theorem zeN {w:Str} {ps:List (Nat × Str)}:∀ {D:List (Str × V)} {us:List (Str × List (Nat × Str))},D.length = us.length->(∀ (i:Nat) (p:Str × V) (q:Str × List (Nat × Str)),D[i]? = some p->us[i]? = some q->p.1 = q.1)->(∀ (i:Nat) (p:Str × V) (q:Str × List (Nat × Str)),D[i]? = some p->us[i]? = some q->KRp K p.2 (ustD q).2)->us.lookup w = some ps->∃ v,PyProof.Rows.KTD.datumAt w D = some v∧KRp K v (ustD (w,ps)).2
 | [],[],_,_,_,h=>by simp at h
 | [],u :: us,h,_,_,_=>by simp at h
 | d :: D,[],h,_,_,_=>by simp at h
 | d :: D,u :: us,hl,hk,hv,h=>by
  have k0:=hk 0 d u rfl rfl
  have v0:=hv 0 d u rfl rfl
  rw [List.lookup_cons] at h
  split at h
  ·rename_i e
   cases h
   have e2:=eq_of_beq e
   refine ⟨d.2,?_,v0⟩
   obtain ⟨d1,d2⟩:=d
   have:d1 = w:=by rw [e2]; exact k0
   subst this
   simp [PyProof.Rows.KTD.datumAt]
  ·rename_i e
   obtain ⟨v,g1,g2⟩:=zeN (D:=D) (us:=us) (by simpa using hl) (fun i p q h1 h2=>hk (i + 1) p q (by simpa using h1) (by simpa using h2)) (fun i p q h1 h2=>hv (i + 1) p q (by simpa using h1) (by simpa using h2)) h
   refine ⟨v,?_,g2⟩
   obtain ⟨d1,d2⟩:=d
   have ne:d1 ≠ w:=fun z=>by
    have:d1 = u.1:=k0
    rw [← this,z] at e
    simp at e
   simp only [PyProof.Rows.KTD.datumAt]
   rw [if_neg (by simpa using Ne.symm ne)]
   exact g1
theorem LW_u:∀ p ∈ LW,p.1 ≠ "call"->p.1 ≠ "back"->p.1 ≠ "look"->p.1 ≠ "lay"->UST.lookup p.1 = some (ust p.1)∧∀ q ∈ ust p.1,1 ≤ q.1∧p.2.cps[q.1 - 1]? = some 112:=by decide +kernel
theorem zhd {x:V} {i:Int} {s:Str} (h:KRp K x (.tuple [.int i,.str s])):∃ b,x = .ref b∧∀ H,SqT K H b [.int i,.str s]:=by
 cases h with
 | tup h1 h2 h3 =>
  rename_i b xs
  refine ⟨b,rfl,?_⟩
  match xs,h2 with
  | [u,v],_ =>
   have a1:=h3 0 u _ rfl rfl
   have a2:=h3 1 v _ rfl rfl
   cases a1
   cases a2
   exact h1
theorem ust_len:∀ p ∈ UST,p.2.length ≤ 2:=by decide
theorem zbA {w:Str} {ps:List (Nat × Str)}:∀ {us:List (Str × List (Nat × Str))},us.lookup w = some ps->(w,ps) ∈ us
 | [],h=>by simp at h
 | u :: us,h=>by
  rw [List.lookup_cons] at h
  split at h
  ·rename_i e
   cases h
   rw [eq_of_beq e]
   exact List.mem_cons_self
  ·exact List.mem_cons_of_mem _ (zbA h)
set_option maxHeartbeats 2000000 in
theorem zhH (T:Txt K mg a):FnOk P w K mg base CX0 1 a.f_uses a.d_uses ["program","f","row"] sp_uses:=by
 refine T.F_uses.okC sc_uses (fun vs H Q E h=>?_) (fun cdv A outer s H vs Q E hr h=>?_)
 ·obtain ⟨pl,p,f,das,ds,d,r,words,many,rfl,_⟩:=h
  rfl
 ·obtain ⟨pl,p,f,das,ds,d,r,words,many,rfl,PR,hd,RA,F,SF,q⟩:=h
  have hu:=zaT hr
  refine ⟨_,(@zad _ _ _ _ _ (zaw (i:=3) sc_uses.nd (by rfl) (Or.inl rfl) (zah ix_F (pv 2) zag (fun _ _=>rfl)))
   (@zad _ _ _ _ _ (@zaD _ _ _ _ _ _ _ _ (zak op_eq (pv 3) zaB (zat _)) (@zaf _ _ _ (zao (zee (K:=K) (by rfl) (by rfl) (by rfl) T.z_list (by rfl) T.z_zip (zae (zah ix_F (pv 2) zag (fun _ _=>rfl)) (zae (zah ix_F (zah ix_F (pv 0) (zah ix_F (pv 2) zag (fun _ _=>rfl)) (fun _ _=>rfl)) zag (fun _ _=>rfl)) pa_nil))))) pss_nil)
   (@zad _ _ _ _ _ (@zaD _ _ _ _ _ _ _ _ (zak op_eq (pv 3) zaB (zat _)) (@zaf _ _ _ (zao (zav (zae (zas (zae (zah ix_F (pv 2) zag (fun _ _=>rfl)) (zae (zah ix_F (zah ix_F (pv 0) (pv 1) (fun _ _=>rfl)) zag (fun _ _=>rfl)) pa_nil))) pa_nil)))) pss_nil)
   (@zad _ _ _ _ _ (@zaD _ _ _ _ _ _ _ _ (zak op_eq (pv 3) zaB (zat _)) (@zaf _ _ _ (zao (zav (zae (zas (zae (zah ix_F (pv 2) zag (fun _ _=>rfl)) (zae (zah ix_F (pv 2) zag (fun _ _=>rfl)) pa_nil))) pa_nil)))) pss_nil)
   (@zad _ _ _ _ _ (@zaD _ _ _ _ _ _ _ _ (zak op_eq (pv 3) zaB (zat _)) (@zaf _ _ _ (zao (zav (zae (zas (zae (zah ix_F (pv 2) zag (fun _ _=>rfl)) (zae (zah ix_F (pv 2) zag (fun _ _=>rfl)) pa_nil))) (zae (zas (zae (zah ix_F (pv 2) zag (fun _ _=>rfl)) (@zam _ _ _ _ _ _ pa_nil))) pa_nil))))) pss_nil)
   (@zaf _ _ _ (zao (zaW (N':=["part","kind","row"]) (cap:=[none,none,some 2]) ⟨rfl,(by decide +kernel),(by decide +kernel),(by rfl),rfl,(by rfl)⟩ (by rfl) (ziN (zfZ (K:=K) (by rfl) (zb9 (v:=.ref a.g_USES) (by rfl) T.m_USES (by rfl)) (pv 3) (fun _ _=>rfl))) (fun C_ ex_ s_ H_=>(zbo (n:=2) (by rfl) (zaA (zaq (i:=0) (show (["part","kind","row"]:List Str).Nodup by decide +kernel) (by rfl) (Or.inl rfl)) (zaA (zaq (i:=1) (show (["part","kind","row"]:List Str).Nodup by decide +kernel) (by rfl) (Or.inl rfl)) pgs_nil)))) (zbS (zaO (by rfl) (zaO (by rfl) zbi))) (fun C_ ex_ s_ H_=>zaJ) (fun C_ ex_ s_ H_=>(zas (zae (zah ix_F (pv 2) (pv 0) (fun _ _=>rfl)) (@zac _ _ _ _ _ _ (pv 1) pa_nil)))))))))))),?_⟩
  obtain ⟨us,hp,PA⟩:=RA
  simp! [hp]
  unfold usV at q
  have fl:=(List.getElem?_eq_some_iff.mp hd).1
  have lp:=PR.len
  have hda:=List.getElem?_eq_getElem (l:=das) (i:=f) (by omega)
  by_cases c1:r.1 = "call"
  ·rw [if_pos c1]
   rw [if_pos c1] at q
   obtain ⟨x,g,al,z,er,hz,lz⟩:=zeY F c1
   rw [er] at PA q
   obtain ⟨u,v,w,rfl,p1,p2,p3⟩:=zc7 PA
   cases (show u = .int x from p1)
   cases (show v = .int (g:Int) from p2)
   obtain ⟨t,rfl,ht⟩:=p3
   have gl:=(List.getElem?_eq_some_iff.mp hz).1
   rw [List.length_map] at gl
   have hg:=List.getElem?_eq_getElem gl
   have hga:=List.getElem?_eq_getElem (l:=das) (i:=g) (by omega)
   have hzt:=(PR.def_ g _ _ hga hg).1
   have topp:=PR.top
   have ag:atI (das.map fun a=>V.ref a.1) ((g:Nat):Int) = some (.ref das[g].1):=zau (by rw [List.getElem?_map,hga]; rfl)
   dsimp only [ze0]
   simp! [hp,topp,ag,hzt]
   rw [List.getElem?_map,hg] at hz
   cases hz
   have lz':al.length = ds[g].1.1.cps.size:=lz
   have mz:ds[g].1 ∈ ds.map (·.1):=List.mem_map.mpr ⟨_,List.getElem_mem gl,rfl⟩
   obtain ⟨z6,za⟩:=SF.asc _ mz
   have eg:((ds.map (·.1)).getD ((g:Int)).toNat (("":Str),("":Str))) = ds[g].1:=by
    rw [Int.toNat_natCast,List.getD_eq_getElem?_getD,List.getElem?_map,hg]
    rfl
   dsimp only at q
   rw [eg] at q
   refine ⟨al.map V.int,.inl ⟨t,rfl,.of ht⟩,ds[g].1.1.cps.toList.map (fun c=>V.str ⟨#[c]⟩),.inr (.inr ⟨_,rfl,za,rfl⟩),by rw [List.length_map,List.length_map,Array.length_toList]; exact lz',by rw [List.length_map]; omega,fun D rs H' S nD hD lr hr'=>q D rs H' nD S ⟨hD,?_,fun k r' pp h1 h2=>?_⟩⟩
   ·rw [lr,List.length_zip,List.length_map,List.length_map]
    rw [show al.length = ds[g].1.1.cps.toList.length from by rw [Array.length_toList]; exact lz',Nat.min_self]
   ·obtain ⟨g1,g2⟩:=List.getElem?_zip_eq_some.mp h2
    exact hr' k r' pp.1 pp.2 h1 g1 g2
  rw [if_neg c1]
  rw [if_neg c1] at q
  by_cases c2:r.1 = "back"
  ·rw [if_pos c2]
   rw [if_pos c2] at q
   obtain ⟨x,er⟩:=zeR F c2
   rw [er] at PA
   have eu:=zhu PA
   subst eu
   have hdt:=(PR.def_ f _ _ hda hd).1
   have q2:zaF r 0 = .int x:=by unfold zaF; rw [er]; rfl
   rw [q2] at q
   refine ⟨_,za8,_,by rw [PR.top]; rfl,_,zau (by rw [List.getElem?_map,hda]; rfl),_,rfl,_,by rw [hdt]; rfl,_,za8,fun t nt l nl=>?_⟩
   exact q l [t] _ ((Same.laid nt).free nl) ((Same.laid nt).step nl) (.one (zab zaa nl) zaa)
  rw [if_neg c2]
  rw [if_neg c2] at q
  by_cases c3:r.1 = "look"
  ·rw [if_pos c3]
   rw [if_pos c3] at q
   obtain ⟨x,y,z,er⟩:=zdH F (.inl c3)
   rw [er] at PA
   obtain ⟨u,v,w,rfl,p1,p2,p3⟩:=zc7 PA
   cases (show u = .int x from p1)
   cases (show v = .int y from p2)
   cases (show w = .int z from p3)
   have q2:zaF r 1 = .int y:=by unfold zaF; rw [er]; rfl
   have q3:zaF r 2 = .int z:=by unfold zaF; rw [er]; rfl
   rw [q2,q3] at q
   refine ⟨_,zb1,_,zgD,fun t nt l nl=>?_⟩
   exact q l [t] _ ((Same.laid nt).free nl) ((Same.laid nt).step nl) (.one (zab zaa nl) zaa)
  rw [if_neg c3]
  rw [if_neg c3] at q
  by_cases c4:r.1 = "lay"
  ·rw [if_pos c4]
   rw [if_pos c4] at q
   obtain ⟨x,y,z,er⟩:=zdH F (.inr c4)
   rw [er] at PA
   obtain ⟨u,v,w,rfl,p1,p2,p3⟩:=zc7 PA
   cases (show u = .int x from p1)
   cases (show v = .int y from p2)
   cases (show w = .int z from p3)
   have q1:zaF r 0 = .int x:=by unfold zaF; rw [er]; rfl
   have q2:zaF r 1 = .int y:=by unfold zaF; rw [er]; rfl
   have q3:zaF r 2 = .int z:=by unfold zaF; rw [er]; rfl
   rw [q1,q2,q3] at q
   refine ⟨_,za8,_,zb1,fun t nt=>⟨_,by rw [zab hp nt]; rfl,_,zgD,fun t2 nt2 l nl=>?_⟩⟩
   exact q l [t,t2] _ (((Same.laid nt).step nt2).free nl) (((Same.laid nt).step nt2).step nl) (.two (zab (zab zaa nt2) nl) (zab zaa nl) zaa)
  rw [if_neg c4]
  rw [if_neg c4] at q
  obtain ⟨ls,m,l,pf⟩:=F
  obtain ⟨lk,parts⟩:=LW_u _ m c1 c2 c3 c4
  have hK:=zed T.k_USES
  rw [kd_uses_eq] at hK
  cases hK with
  | dct g1 g2 g3 g4 =>
   rename_i D0
   rw [List.length_map] at g2
   obtain ⟨v,d1,d2⟩:=zeN g2 (fun i p q h1 h2=>by
    have:=g3 i p (ustD q) h1 (by rw [List.getElem?_map,h2]; rfl)
    exact (PyData.str.inj this).symm) (fun i p q h1 h2=>g4 i p (ustD q) h1 (by rw [List.getElem?_map,h2]; rfl)) lk
   have d3:KRp K v (.tuple ((ust r.1).map fun q=>.tuple [.int q.1,.str q.2])):=d2
   cases d3 with
   | tup e1 e2 e3 =>
    rename_i ta xs
    rw [List.length_map] at e2
    have ul:(ust r.1).length ≤ 2:=ust_len _ (zbA lk)
    refine compT (H1:=H) ta xs (fun Q2 h2=>⟨_,rfl,a.g_USES,D0,r.1,_,rfl,rfl,g1,d1,h2⟩) (e1 H) (fun D i ys H2=>∃ rs:List Addr,ys = rs.map V.ref∧rs.length = i∧Same H H2∧H2 D = some (.lst ys)∧∀ (k:Nat) (r':Addr) (q:Nat × Str),rs[k]? = some r'->(ust r.1)[k]? = some q->H2 r' = some (.tup [zaF r (q.1 - 1),.str q.2])∧r' ≠ D)
     (fun D nD=>⟨[],rfl,rfl,Same.laid nD,zaa,fun k r' q h=>by simp at h⟩) ?_ (by rw [sizeLine_eq]; omega) ?_ ?_
    ·intro D nD i ys H2 hi ⟨rs,ey,el,S,hD,_⟩
     exact ⟨e1 H2,hD,by rw [ey,List.length_map]; omega⟩
    ·intro D nD i x ys H2 hx ⟨rs,ey,el,S,hD,at_⟩
     have il:i < (ust r.1).length:=by
      have:=(List.getElem?_eq_some_iff.mp hx).1
      omega
     have hq:=List.getElem?_eq_getElem il
     obtain ⟨b,rfl,sq⟩:=zhd (e3 i x _ hx (by rw [List.getElem?_map,hq]; rfl))
     obtain ⟨q1,qp⟩:=parts _ (List.getElem_mem il)
     have lk2:(ust r.1)[i].1 - 1 < r.2.length:=by
      have:_ < ls.cps.size:=(Array.getElem?_eq_some_iff.mp qp).1
      omega
     have hr2:=List.getElem?_eq_getElem lk2
     obtain ⟨x,ex⟩:=zei (pf.at_ _ 112 _ qp hr2)
     rw [ex] at hr2
     have hus:=List.getElem?_eq_getElem (l:=us) (i:=(ust r.1)[i].1 - 1) (by rw [PA.len]; exact lk2)
     have hv:=PA.at_ _ _ _ hus hr2
     rw [show us[(ust r.1)[i].1 - 1]'(by rw [PA.len]; exact lk2) = .int x from hv] at hus
     have pv:zaF r ((ust r.1)[i].1 - 1) = .int x:=by unfold zaF; rw [hr2]
     have ai:atI (V.str r.1 :: us) (((ust r.1)[i].1:Nat):Int) = some (.int x):=zau (by
      rw [show (ust r.1)[i].1 = ((ust r.1)[i].1 - 1) + 1 from by omega,List.getElem?_cons_succ]
      exact hus)
     have hp2:=S p _ hp
     have sqi:=sq H2
     refine ⟨b,_,rfl,sqi,rfl,?_⟩
     simp! [tTrue,zaG,hp2,ai]
     intro t nt
     have nlD:t ≠ D:=fun e=>by rw [e,hD] at nt; cases nt
     subst ey
     refine ⟨zab hD nt,rs ++ [t],by rw [List.map_append]; rfl,by rw [List.length_append,el]; rfl,zaz (S.step nt) nD,fun j r' m g1 g2=>?_⟩
     rcases Nat.lt_trichotomy j i with cc | cc | cc
     ·rw [List.getElem?_append_left (by omega)] at g1
      obtain ⟨q1,q2⟩:=at_ j r' m g1 g2
      exact ⟨by rw [zaj q2]; exact zab q1 nt,q2⟩
     ·rw [List.getElem?_append_right (by omega),cc,el,Nat.sub_self] at g1
      rw [cc,hq] at g2
      cases g1
      cases g2
      exact ⟨by rw [zaj nlD,pv]; exact zaa,nlD⟩
     ·rw [List.getElem?_eq_none (by simp; omega)] at g1
      cases g1
    ·intro D nD ys H2 ⟨rs,ey,el,S,hD,at_⟩
     subst ey
     refine q D rs H2 nD S ⟨hD,by rw [List.length_map]; omega,fun k r' pp h1 h2=>?_⟩
     rw [List.getElem?_map] at h2
     obtain ⟨q0,h3,rfl⟩:=Option.map_eq_some_iff.mp h2
     exact (at_ k r' q0 h1 h3).1
end
section
variable {P:Program} {w:World} {K:PySem.W.Frag} {mg:Str->Option Value} {base:Heap} {a:Ad}
theorem zbe.same {H H':Hp} {q:Addr} {r:Row} (S:Same H H') (h:zbe H q r):zbe H' q r:=h.fr (M:=fun _=>False) (.of_same S)
theorem RowsOf.same {H H':Hp} {rl:Addr} {rs:List Addr} {rws:List Row} (S:Same H H') (h:RowsOf H rl rs rws):RowsOf H' rl rs rws:=⟨S _ _ h.top,h.len,fun i p r h1 h2=>(h.row i p r h1 h2).same S⟩
theorem ProgAt.same {H H':Hp} {pl:Addr} {das:List (Addr × Addr × List Addr)} {ds:List Df} (S:Same H H') (h:ProgAt H pl das ds):ProgAt H' pl das ds:=⟨S _ _ h.top,h.len,fun i a d h1 h2=>⟨S _ _ (h.def_ i a d h1 h2).1,(h.def_ i a d h1 h2).2.same S⟩⟩
noncomputable def sp_luses:Sp:=fun vs H Q _=>∃ (pl p:Addr) (f:Nat) (das:List (Addr × Addr × List Addr)) (ds:List Df) (d:Df) (r:Row) (words many:Int),vs = [.ref pl,.int f,.ref p]∧ProgAt H pl das ds∧ds[f]? = some d∧zbe H p r∧zaH words many (ds.map (·.1)) r∧SgFit (ds.map (·.1)) ∧
 ∀ (l:Addr) (rs:List Addr) (H':Hp),Same H H'->Prw H' l (usV (ds.map (·.1)) d.1.2 r) rs->Q (.ref l) H'
theorem absH {C Good:Hp->Prop} {X:Hp} (g:Good X) (h:∀ Y,Good Y->C Y):C X:=h X g
noncomputable def UL (H:Hp) (v:V) (ps:List (Nat × Str)):Prop:=∃ l rs,v = .ref l∧Prw H l (ps.map fun q=>(V.int q.1,V.str q.2)) rs
noncomputable def UsD (H:Hp):List (Key × V)->List (Str × List (Nat × Str))->Prop
 | [],[]=>True
 | kv :: kvs,t :: ts=>kv.1 = .inr t.1∧UL H kv.2 t.2∧UsD H kvs ts
 | _,_=>False
theorem UL.keep {H H':Hp} {v:V} {ps:List (Nat × Str)} (k:∀ q xs,(H q = some (.lst xs)->H' q = some (.lst xs))∧(H q = some (.tup xs)->H' q = some (.tup xs))) (h:UL H v ps):UL H' v ps:=by
 obtain ⟨l,rs,e,P⟩:=h
 exact ⟨l,rs,e,(k _ _).1 P.top,P.len,fun i r p h1 h2=>(k _ _).2 (P.at_ i r p h1 h2)⟩
theorem UsD.keep {H H':Hp} (k:∀ q xs,(H q = some (.lst xs)->H' q = some (.lst xs))∧(H q = some (.tup xs)->H' q = some (.tup xs))):∀ {D:List (Key × V)} {ts:List (Str × List (Nat × Str))},UsD H D ts->UsD H' D ts
 | [],[],_=>True.intro
 | _ :: _,_ :: _,h=>⟨h.1,h.2.1.keep k,UsD.keep k h.2.2⟩
theorem UsD.same {H H':Hp} {D:List (Key × V)} {ts:List (Str × List (Nat × Str))} (h:UsD H D ts) (S:Same H H'):UsD H' D ts:=h.keep fun q xs=>⟨fun e=>S _ _ e,fun e=>S _ _ e⟩
theorem UsD.upD {H:Hp} {D:List (Key × V)} {ts:List (Str × List (Nat × Str))} (h:UsD H D ts) {a:Addr} {kv kv':List (Key × V)} (e:H a = some (.dK kv)):UsD (upd H a (.dK kv')) D ts:=h.keep fun q xs=>⟨fun g=>by rw [zaj (fun z=>by rw [z,e] at g; cases g)]; exact g,fun g=>by rw [zaj (fun z=>by rw [z,e] at g; cases g)]; exact g⟩
theorem UsD.app {H:Hp}:∀ {D E:List (Key × V)} {ts us:List (Str × List (Nat × Str))},UsD H D ts->UsD H E us->UsD H (D ++ E) (ts ++ us)
 | [],_,[],_,_,h2=>h2
 | _ :: _,_,_ :: _,_,h,h2=>⟨h.1,h.2.1,UsD.app h.2.2 h2⟩
theorem UsD.get {H:Hp} {w:Str}:∀ {D:List (Key × V)} {ts:List (Str × List (Nat × Str))},UsD H D ts->(valV D (.inr w) = none∧ts.lookup w = none) ∨ ∃ v ps,valV D (.inr w) = some v∧ts.lookup w = some ps∧UL H v ps
 | [],[],_=>.inl ⟨rfl,rfl⟩
 | kv :: D,t :: ts,h=>by
  obtain ⟨h1,h2,h3⟩:=h
  unfold valV
  rw [List.find?_cons,List.lookup_cons]
  by_cases c:t.1 = w
  ·refine .inr ⟨kv.2,t.2,?_,?_,h2⟩
   ·rw [show decide (kv.1 = (.inr w:Key)) = true from decide_eq_true (by rw [h1,c])]; rfl
   ·rw [show (w == t.1) = true by rw [c]; exact beq_self_eq_true w]
  ·rw [show decide (kv.1 = (.inr w:Key)) = false from decide_eq_false (fun z=>by rw [h1] at z; exact c (Sum.inr.inj z)),show (w == t.1) = false from beq_eq_false_iff_ne.mpr (Ne.symm c)]
   exact UsD.get h3
noncomputable def TAB:List (Str × List (Nat × Str)):=[("plus",[(2,"n"),(3,"n")]),("less",[(2,"n"),(3,"n")]),("zero",[(1,"n")]),("fetch",[(2,"h")]),("read",[(2,"h")]),("into",[(2,"h")]),("tell",[(1,"n")]),("write",[(1,"h"),(3,"n")]),("none",[(1,"h")]),("same",[(1,"h"),(2,"h")]),("hang",[(1,"h"),(3,"h")])]
theorem TAB_ust:∀ p ∈ LW,p.1 ≠ "call"->p.1 ≠ "back"->p.1 ≠ "look"->p.1 ≠ "lay"->(TAB.lookup p.1).getD [] = ust p.1:=by decide +kernel
set_option maxHeartbeats 4000000 in
theorem zeh (T:Txt K mg a):FnOk P w K mg base CX0 1 a.f_law_uses a.d_law_uses ["program","f","row"] sp_luses:=by
 refine T.F_law_uses.okC sc_law_uses (fun vs H Q E h=>?_) (fun cdv A outer s H vs Q E hr h=>?_)
 ·obtain ⟨pl,p,f,das,ds,d,r,words,many,rfl,_⟩:=h
  rfl
 ·obtain ⟨pl,p,f,das,ds,d,r,words,many,rfl,PR,hd,RA,F,SF,q⟩:=h
  have hu:=zaT hr
  refine ⟨_,(@zad _ _ _ _ _ (@zem _ 3 _ _ _ _ _ _ _ sc_law_uses.nd (by rfl) (Or.inl rfl) (@zaQ _ _ _ _ _ _ _ _ _ zaB (@zav _ _ _ _ (@zae _ _ _ _ _ (@zas _ _ _ _ _ (@zai _ _ _ _ _ _ (@zam _ _ _ _ _ _ pa_nil))) (@zae _ _ _ _ _ (@zas _ _ _ _ _ (@zai _ _ _ _ _ _ (@zam _ _ _ _ _ _ pa_nil))) pa_nil (by rfl)) (by rfl))) (@zaQ _ _ _ _ _ _ _ _ _ zaB (@zav _ _ _ _ (@zae _ _ _ _ _ (@zas _ _ _ _ _ (@zai _ _ _ _ _ _ (@zam _ _ _ _ _ _ pa_nil))) (@zae _ _ _ _ _ (@zas _ _ _ _ _ (@zai _ _ _ _ _ _ (@zam _ _ _ _ _ _ pa_nil))) pa_nil (by rfl)) (by rfl))) (@zaQ _ _ _ _ _ _ _ _ _ zaB (@zav _ _ _ _ (@zae _ _ _ _ _ (@zas _ _ _ _ _ (@zai _ _ _ _ _ _ (@zam _ _ _ _ _ _ pa_nil))) pa_nil (by rfl))) zbI))) (by rfl) (by rfl) (List.cons_ne_nil _ _) (Nat.le_of_ble_eq_true (by rfl)) (by first | exact .inl (by rfl) | exact .inr (by rfl) | assumption))
   (@zad _ _ _ _ _ (za6 (zct PySem.F.plainAttrs_dict PySem.F.slot_dict_update PySem.F.type_dict_update mt_update (pv 3) (@zae _ _ _ _ _ (@zcR _ _ _ _ _ (@zaQ _ _ _ _ _ _ _ _ _ zaB (@zav _ _ _ _ (@zae _ _ _ _ _ (@zas _ _ _ _ _ (@zai _ _ _ _ _ _ (@zam _ _ _ _ _ _ pa_nil))) pa_nil (by rfl))) (@zaQ _ _ _ _ _ _ _ _ _ zaB (@zav _ _ _ _ (@zae _ _ _ _ _ (@zas _ _ _ _ _ (@zai _ _ _ _ _ _ (@zam _ _ _ _ _ _ pa_nil))) pa_nil (by rfl))) (@zaQ _ _ _ _ _ _ _ _ _ zaB (@zav _ _ _ _ (@zae _ _ _ _ _ (@zas _ _ _ _ _ (@zai _ _ _ _ _ _ (@zam _ _ _ _ _ _ pa_nil))) pa_nil (by rfl))) (@zaQ _ _ _ _ _ _ _ _ _ zaB (@zav _ _ _ _ (@zae _ _ _ _ _ (@zas _ _ _ _ _ (@zai _ _ _ _ _ _ (@zam _ _ _ _ _ _ pa_nil))) pa_nil (by rfl))) zbI)))) (by rfl) (by rfl) (List.cons_ne_nil _ _) (Nat.le_of_ble_eq_true (by rfl))) pa_nil (by rfl))))
   (@zad _ _ _ _ _ (za6 (zct PySem.F.plainAttrs_dict PySem.F.slot_dict_update PySem.F.type_dict_update mt_update (pv 3) (@zae _ _ _ _ _ (@zcR _ _ _ _ _ (@zaQ _ _ _ _ _ _ _ _ _ zaB (@zav _ _ _ _ (@zae _ _ _ _ _ (@zas _ _ _ _ _ (@zai _ _ _ _ _ _ (@zam _ _ _ _ _ _ pa_nil))) (@zae _ _ _ _ _ (@zas _ _ _ _ _ (@zai _ _ _ _ _ _ (@zam _ _ _ _ _ _ pa_nil))) pa_nil (by rfl)) (by rfl))) (@zaQ _ _ _ _ _ _ _ _ _ zaB (@zav _ _ _ _ (@zae _ _ _ _ _ (@zas _ _ _ _ _ (@zai _ _ _ _ _ _ (@zam _ _ _ _ _ _ pa_nil))) pa_nil (by rfl))) (@zaQ _ _ _ _ _ _ _ _ _ zaB (@zav _ _ _ _ (@zae _ _ _ _ _ (@zas _ _ _ _ _ (@zai _ _ _ _ _ _ (@zam _ _ _ _ _ _ pa_nil))) (@zae _ _ _ _ _ (@zas _ _ _ _ _ (@zai _ _ _ _ _ _ (@zam _ _ _ _ _ _ pa_nil))) pa_nil (by rfl)) (by rfl))) zbI))) (by rfl) (by rfl) (List.cons_ne_nil _ _) (Nat.le_of_ble_eq_true (by rfl))) pa_nil (by rfl))))
   (@zad _ _ _ _ _ (za6 (zct PySem.F.plainAttrs_dict PySem.F.slot_dict_update PySem.F.type_dict_update mt_update (pv 3) (@zae _ _ _ _ _ (@zcR _ _ _ _ _ (@zaQ _ _ _ _ _ _ _ _ _ zaB (@zav _ _ _ _ (@zae _ _ _ _ _ (@zas _ _ _ _ _ (@zai _ _ _ _ _ _ (@zam _ _ _ _ _ _ pa_nil))) (@zae _ _ _ _ _ (@zas _ _ _ _ _ (@zai _ _ _ _ _ _ (@zam _ _ _ _ _ _ pa_nil))) pa_nil (by rfl)) (by rfl))) zbI) (by rfl) (by rfl) (List.cons_ne_nil _ _) (Nat.le_of_ble_eq_true (by rfl))) pa_nil (by rfl))))
   (@zad _ _ _ _ _ (@zaD _ _ _ _ _ _ _ _ (@zak _ _ _ _ _ _ _ _ op_eq (@zah _ _ _ _ _ _ _ ix_F (pv 2) zag (fun _ _=>rfl)) zaB (zat _)) (@zaf _ _ _ (@zao _ _ _ _ (@zav _ _ _ _ (@zae _ _ _ _ _ (@zas _ _ _ _ _ (@zae _ _ _ _ _ (@zah _ _ _ _ _ _ _ ix_F (pv 2) zag (fun _ _=>rfl)) (@zae _ _ _ _ _ (@zah _ _ _ _ _ _ _ ix_F (pv 2) zag (fun _ _=>rfl)) pa_nil (by rfl)) (by rfl))) pa_nil (by rfl))))) pss_nil)
   (@zad _ _ _ _ _ (@zaD _ _ _ _ _ _ _ _ (@zak _ _ _ _ _ _ _ _ op_eq (@zah _ _ _ _ _ _ _ ix_F (pv 2) zag (fun _ _=>rfl)) zaB (zat _)) (@zaf _ _ _ (@zao _ _ _ _ (@zav _ _ _ _ (@zae _ _ _ _ _ (@zas _ _ _ _ _ (@zae _ _ _ _ _ (@zah _ _ _ _ _ _ _ ix_F (pv 2) zag (fun _ _=>rfl)) (@zae _ _ _ _ _ (@zah _ _ _ _ _ _ _ ix_F (pv 2) zag (fun _ _=>rfl)) pa_nil (by rfl)) (by rfl))) (@zae _ _ _ _ _ (@zas _ _ _ _ _ (@zae _ _ _ _ _ (@zah _ _ _ _ _ _ _ ix_F (pv 2) zag (fun _ _=>rfl)) (@zam _ _ _ _ _ _ pa_nil) (by rfl))) pa_nil (by rfl)) (by rfl))))) pss_nil)
   (@zad _ _ _ _ _ (@zaD _ _ _ _ _ _ _ _ (@zak _ _ _ _ _ _ _ _ op_eq (@zah _ _ _ _ _ _ _ ix_F (pv 2) zag (fun _ _=>rfl)) zaB (zat _)) (@zaf _ _ _ (@zao _ _ _ _ (zaW (N':=["k","row","program"]) (cap:=[none,some 2,some 0]) ⟨rfl,(by decide +kernel),(by decide +kernel),(by rfl),rfl,(by rfl)⟩ (by rfl) (za3 (by rfl) T.z_range (@zae _ _ _ _ _ (zax call_lenF (by rfl) T.z_len (by decide +kernel) (@zae _ _ _ _ _ (@zah _ _ _ _ _ _ _ ix_F (pv 2) zag (fun _ _=>rfl)) pa_nil (by rfl))) pa_nil (by rfl))) (fun C_ ex_ s_ H_=>(zaq (i:=0) (show (["k","row","program"]:List Str).Nodup by decide +kernel) (by rfl) (Or.inl rfl))) zaS (fun C_ ex_ s_ H_=>zaJ) (fun C_ ex_ s_ H_=>(@zas _ _ _ _ _ (@zae _ _ _ _ _ (@zah _ _ _ _ _ _ _ ix_F (@zah _ _ _ _ _ _ _ ix_F (pv 1) zag (fun _ _=>rfl)) (pv 0) (fun _ _=>rfl)) (@zae _ _ _ _ _ (@zah _ _ _ _ _ _ _ ix_str (@zah _ _ _ _ _ _ _ ix_F (@zah _ _ _ _ _ _ _ ix_F (pv 2) (@zah _ _ _ _ _ _ _ ix_F (pv 1) zag (fun _ _=>rfl)) (fun _ _=>rfl)) zag (fun _ _=>rfl)) (pv 0) (fun _ _=>rfl)) pa_nil (by rfl)) (by rfl))))))) pss_nil)
   (@zad _ _ _ _ _ (@zaD _ _ _ _ _ _ _ _ (@zak _ _ _ _ _ _ _ _ op_eq (@zah _ _ _ _ _ _ _ ix_F (pv 2) zag (fun _ _=>rfl)) zaB (zat _)) (@zaf _ _ _ (@zao _ _ _ _ (@zav _ _ _ _ (@zae _ _ _ _ _ (@zas _ _ _ _ _ (@zae _ _ _ _ _ (@zah _ _ _ _ _ _ _ ix_F (pv 2) zag (fun _ _=>rfl)) (@zae _ _ _ _ _ (@zah _ _ _ _ _ _ _ ix_F (@zah _ _ _ _ _ _ _ ix_F (pv 0) (pv 1) (fun _ _=>rfl)) zag (fun _ _=>rfl)) pa_nil (by rfl)) (by rfl))) pa_nil (by rfl))))) pss_nil)
   (@zaf _ _ _ (@zao _ _ _ _ (zaW (N':=["k","kind","row"]) (cap:=[none,none,some 2]) ⟨rfl,(by decide +kernel),(by decide +kernel),(by rfl),rfl,(by rfl)⟩ (by rfl) (zaI (zdB hu (pv 3) (@zah _ _ _ _ _ _ _ ix_F (pv 2) zag (fun _ _=>rfl)) (@zav _ _ _ _ pa_nil) ⟨rfl,rfl,rfl,rfl⟩)) (fun C_ ex_ s_ H_=>(zbo (n:=2) (by rfl) (zaA (zaq (i:=0) (show (["k","kind","row"]:List Str).Nodup by decide +kernel) (by rfl) (Or.inl rfl)) (zaA (zaq (i:=1) (show (["k","kind","row"]:List Str).Nodup by decide +kernel) (by rfl) (Or.inl rfl)) pgs_nil)))) (zbS (zaO (by rfl) (zaO (by rfl) zbi))) (fun C_ ex_ s_ H_=>zaJ) (fun C_ ex_ s_ H_=>(@zas _ _ _ _ _ (@zae _ _ _ _ _ (@zah _ _ _ _ _ _ _ ix_F (pv 2) (pv 0) (fun _ _=>rfl)) (@zac _ _ _ _ _ _ (pv 1) pa_nil) (by rfl))))))))))))))),?_⟩
  generalize hG:tSeq (zd6 _) _ = tail
  simp! [zdf,tPairs,tC]
  intro d0 nd0 t0_0_0 nt0_0_0 t0_0_1 nt0_0_1 l0_0 nl0_0 t0_1_0 nt0_1_0 t0_1_1 nt0_1_1 l0_1 nl0_1 t0_2_0 nt0_2_0 l0_2 nl0_2
  have SS0:Same H (upd (upd (upd (upd (upd (upd (upd (upd (upd H d0 (.dK [])) t0_0_0 (.tup [V.int 2,V.str (Str.ofString "n")])) t0_0_1 (.tup [V.int 3,V.str (Str.ofString "n")])) l0_0 (.lst [V.ref t0_0_0,V.ref t0_0_1])) t0_1_0 (.tup [V.int 2,V.str (Str.ofString "n")])) t0_1_1 (.tup [V.int 3,V.str (Str.ofString "n")])) l0_1 (.lst [V.ref t0_1_0,V.ref t0_1_1])) t0_2_0 (.tup [V.int 1,V.str (Str.ofString "n")])) l0_2 (.lst [V.ref t0_2_0])):=(((((((((Same.laid nd0).step nt0_0_0).step nt0_0_1).step nl0_0).step nt0_1_0).step nt0_1_1).step nl0_1).step nt0_2_0).step nl0_2)
  have eX0:(upd (upd (upd (upd (upd (upd (upd (upd (upd H d0 (.dK [])) t0_0_0 (.tup [V.int 2,V.str (Str.ofString "n")])) t0_0_1 (.tup [V.int 3,V.str (Str.ofString "n")])) l0_0 (.lst [V.ref t0_0_0,V.ref t0_0_1])) t0_1_0 (.tup [V.int 2,V.str (Str.ofString "n")])) t0_1_1 (.tup [V.int 3,V.str (Str.ofString "n")])) l0_1 (.lst [V.ref t0_1_0,V.ref t0_1_1])) t0_2_0 (.tup [V.int 1,V.str (Str.ofString "n")])) l0_2 (.lst [V.ref t0_2_0])) d0 = some (.dK []):=(zab (zab (zab (zab (zab (zab (zab (zab zaa nt0_0_0) nt0_0_1) nl0_0) nt0_1_0) nt0_1_1) nl0_1) nt0_2_0) nl0_2)
  have UX0:UsD (upd (upd (upd (upd (upd (upd (upd (upd (upd H d0 (.dK [])) t0_0_0 (.tup [V.int 2,V.str (Str.ofString "n")])) t0_0_1 (.tup [V.int 3,V.str (Str.ofString "n")])) l0_0 (.lst [V.ref t0_0_0,V.ref t0_0_1])) t0_1_0 (.tup [V.int 2,V.str (Str.ofString "n")])) t0_1_1 (.tup [V.int 3,V.str (Str.ofString "n")])) l0_1 (.lst [V.ref t0_1_0,V.ref t0_1_1])) t0_2_0 (.tup [V.int 1,V.str (Str.ofString "n")])) l0_2 (.lst [V.ref t0_2_0])) [(.inr "plus",.ref l0_0),(.inr "less",.ref l0_1),(.inr "zero",.ref l0_2)] [("plus",[(2,"n"),(3,"n")]),("less",[(2,"n"),(3,"n")]),("zero",[(1,"n")])]:=⟨rfl,⟨l0_0,[t0_0_0,t0_0_1],rfl,.two (zab (zab (zab (zab (zab (zab (zab zaa nt0_0_1) nl0_0) nt0_1_0) nt0_1_1) nl0_1) nt0_2_0) nl0_2) (zab (zab (zab (zab (zab (zab zaa nl0_0) nt0_1_0) nt0_1_1) nl0_1) nt0_2_0) nl0_2) (zab (zab (zab (zab (zab zaa nt0_1_0) nt0_1_1) nl0_1) nt0_2_0) nl0_2)⟩,rfl,⟨l0_1,[t0_1_0,t0_1_1],rfl,.two (zab (zab (zab (zab zaa nt0_1_1) nl0_1) nt0_2_0) nl0_2) (zab (zab (zab zaa nl0_1) nt0_2_0) nl0_2) (zab (zab zaa nt0_2_0) nl0_2)⟩,rfl,⟨l0_2,[t0_2_0],rfl,.one (zab zaa nl0_2) zaa⟩,True.intro⟩
  have nX0:=nd0
  revert SS0 eX0 UX0
  generalize (upd (upd (upd (upd (upd (upd (upd (upd (upd H d0 (.dK [])) t0_0_0 (.tup [V.int 2,V.str (Str.ofString "n")])) t0_0_1 (.tup [V.int 3,V.str (Str.ofString "n")])) l0_0 (.lst [V.ref t0_0_0,V.ref t0_0_1])) t0_1_0 (.tup [V.int 2,V.str (Str.ofString "n")])) t0_1_1 (.tup [V.int 3,V.str (Str.ofString "n")])) l0_1 (.lst [V.ref t0_1_0,V.ref t0_1_1])) t0_2_0 (.tup [V.int 1,V.str (Str.ofString "n")])) l0_2 (.lst [V.ref t0_2_0])) = X0
  intro SS0 eX0 UX0
  clear nl0_2 nt0_2_0 nl0_1 nt0_1_1 nt0_1_0 nl0_0 nt0_0_1 nt0_0_0
  refine ⟨eX0,[(.inr "plus",.ref l0_0),(.inr "less",.ref l0_1),(.inr "zero",.ref l0_2)],rfl,by simp,?_⟩
  refine absH (C:=tail _ _) (Good:=fun Y=>Same H Y∧Y d0 = some (.dK [(.inr "plus",.ref l0_0),(.inr "less",.ref l0_1),(.inr "zero",.ref l0_2)])∧UsD Y [(.inr "plus",.ref l0_0),(.inr "less",.ref l0_1),(.inr "zero",.ref l0_2)] [("plus",[(2,"n"),(3,"n")]),("less",[(2,"n"),(3,"n")]),("zero",[(1,"n")])]) ⟨zaz (fun c o e=>SS0 _ _ e) nd0,zaa,UX0.upD eX0⟩ ?_
  rintro HA0 ⟨SA0,e0,U0⟩
  clear SS0 eX0 UX0
  subst hG
  generalize hG:tSeq (zd6 _) (tSeq (zd6 _) (tSeq (tIfS _ _ _) _)) = tail
  simp! [tBM,zdf,tPairs,tC]
  refine ⟨.inr (.inr (.inl ⟨rfl,.inl ⟨_,e0⟩⟩)),?_⟩
  intro d1 nd1 t1_0_0 nt1_0_0 l1_0 nl1_0 t1_1_0 nt1_1_0 l1_1 nl1_1 t1_2_0 nt1_2_0 l1_2 nl1_2 t1_3_0 nt1_3_0 l1_3 nl1_3
  have SS1:Same HA0 (upd (upd (upd (upd (upd (upd (upd (upd (upd HA0 d1 (.dK [])) t1_0_0 (.tup [V.int 2,V.str (Str.ofString "h")])) l1_0 (.lst [V.ref t1_0_0])) t1_1_0 (.tup [V.int 2,V.str (Str.ofString "h")])) l1_1 (.lst [V.ref t1_1_0])) t1_2_0 (.tup [V.int 2,V.str (Str.ofString "h")])) l1_2 (.lst [V.ref t1_2_0])) t1_3_0 (.tup [V.int 1,V.str (Str.ofString "n")])) l1_3 (.lst [V.ref t1_3_0])):=(((((((((Same.laid nd1).step nt1_0_0).step nl1_0).step nt1_1_0).step nl1_1).step nt1_2_0).step nl1_2).step nt1_3_0).step nl1_3)
  have eX1:(upd (upd (upd (upd (upd (upd (upd (upd (upd HA0 d1 (.dK [])) t1_0_0 (.tup [V.int 2,V.str (Str.ofString "h")])) l1_0 (.lst [V.ref t1_0_0])) t1_1_0 (.tup [V.int 2,V.str (Str.ofString "h")])) l1_1 (.lst [V.ref t1_1_0])) t1_2_0 (.tup [V.int 2,V.str (Str.ofString "h")])) l1_2 (.lst [V.ref t1_2_0])) t1_3_0 (.tup [V.int 1,V.str (Str.ofString "n")])) l1_3 (.lst [V.ref t1_3_0])) d1 = some (.dK []):=(zab (zab (zab (zab (zab (zab (zab (zab zaa nt1_0_0) nl1_0) nt1_1_0) nl1_1) nt1_2_0) nl1_2) nt1_3_0) nl1_3)
  have UX1:UsD (upd (upd (upd (upd (upd (upd (upd (upd (upd HA0 d1 (.dK [])) t1_0_0 (.tup [V.int 2,V.str (Str.ofString "h")])) l1_0 (.lst [V.ref t1_0_0])) t1_1_0 (.tup [V.int 2,V.str (Str.ofString "h")])) l1_1 (.lst [V.ref t1_1_0])) t1_2_0 (.tup [V.int 2,V.str (Str.ofString "h")])) l1_2 (.lst [V.ref t1_2_0])) t1_3_0 (.tup [V.int 1,V.str (Str.ofString "n")])) l1_3 (.lst [V.ref t1_3_0])) [(.inr "fetch",.ref l1_0),(.inr "read",.ref l1_1),(.inr "into",.ref l1_2),(.inr "tell",.ref l1_3)] [("fetch",[(2,"h")]),("read",[(2,"h")]),("into",[(2,"h")]),("tell",[(1,"n")])]:=⟨rfl,⟨l1_0,[t1_0_0],rfl,.one (zab (zab (zab (zab (zab (zab (zab zaa nl1_0) nt1_1_0) nl1_1) nt1_2_0) nl1_2) nt1_3_0) nl1_3) (zab (zab (zab (zab (zab (zab zaa nt1_1_0) nl1_1) nt1_2_0) nl1_2) nt1_3_0) nl1_3)⟩,rfl,⟨l1_1,[t1_1_0],rfl,.one (zab (zab (zab (zab (zab zaa nl1_1) nt1_2_0) nl1_2) nt1_3_0) nl1_3) (zab (zab (zab (zab zaa nt1_2_0) nl1_2) nt1_3_0) nl1_3)⟩,rfl,⟨l1_2,[t1_2_0],rfl,.one (zab (zab (zab zaa nl1_2) nt1_3_0) nl1_3) (zab (zab zaa nt1_3_0) nl1_3)⟩,rfl,⟨l1_3,[t1_3_0],rfl,.one (zab zaa nl1_3) zaa⟩,True.intro⟩
  have nX1:=nd1
  revert SS1 eX1 UX1
  generalize (upd (upd (upd (upd (upd (upd (upd (upd (upd HA0 d1 (.dK [])) t1_0_0 (.tup [V.int 2,V.str (Str.ofString "h")])) l1_0 (.lst [V.ref t1_0_0])) t1_1_0 (.tup [V.int 2,V.str (Str.ofString "h")])) l1_1 (.lst [V.ref t1_1_0])) t1_2_0 (.tup [V.int 2,V.str (Str.ofString "h")])) l1_2 (.lst [V.ref t1_2_0])) t1_3_0 (.tup [V.int 1,V.str (Str.ofString "n")])) l1_3 (.lst [V.ref t1_3_0])) = X1
  intro SS1 eX1 UX1
  clear nl1_3 nt1_3_0 nl1_2 nt1_2_0 nl1_1 nt1_1_0 nl1_0 nt1_0_0
  refine ⟨eX1,[(.inr "fetch",.ref l1_0),(.inr "read",.ref l1_1),(.inr "into",.ref l1_2),(.inr "tell",.ref l1_3)],rfl,by simp,?_⟩
  have ne1:=zan e0 nd1
  refine ⟨d0,d1,_,_,rfl,rfl,ne1,by rw [zaj ne1]; exact SS1 _ _ e0,zaa,Nat.le_of_ble_eq_true rfl,?_⟩
  refine absH (C:=tail _ _) (Good:=fun Y=>Same H Y∧Y d0 = some (.dK [(.inr "plus",.ref l0_0),(.inr "less",.ref l0_1),(.inr "zero",.ref l0_2),(.inr "fetch",.ref l1_0),(.inr "read",.ref l1_1),(.inr "into",.ref l1_2),(.inr "tell",.ref l1_3)])∧UsD Y [(.inr "plus",.ref l0_0),(.inr "less",.ref l0_1),(.inr "zero",.ref l0_2),(.inr "fetch",.ref l1_0),(.inr "read",.ref l1_1),(.inr "into",.ref l1_2),(.inr "tell",.ref l1_3)] [("plus",[(2,"n"),(3,"n")]),("less",[(2,"n"),(3,"n")]),("zero",[(1,"n")]),("fetch",[(2,"h")]),("read",[(2,"h")]),("into",[(2,"h")]),("tell",[(1,"n")])]) ⟨zaz (fun c o e=>?_) nd0,zaa,?_⟩ ?_
  ·rw [zaj (zan e (SA0.free nd1))]; exact SS1 _ _ (SA0 _ _ e)
  ·exact UsD.upD (UsD.app ((U0.same SS1).upD eX1) (UX1.upD eX1)) (a:=d0) (by rw [zaj ne1]; exact SS1 _ _ e0)
  rintro HA1 ⟨SA1,e1,U1⟩
  clear SS1 eX1 UX1
  subst hG
  generalize hG:tSeq (zd6 _) (tSeq (tIfS _ _ _) _) = tail
  simp! [tBM,zdf,tPairs,tC]
  refine ⟨.inr (.inr (.inl ⟨rfl,.inl ⟨_,e1⟩⟩)),?_⟩
  intro d2 nd2 t2_0_0 nt2_0_0 t2_0_1 nt2_0_1 l2_0 nl2_0 t2_1_0 nt2_1_0 l2_1 nl2_1 t2_2_0 nt2_2_0 t2_2_1 nt2_2_1 l2_2 nl2_2
  have SS2:Same HA1 (upd (upd (upd (upd (upd (upd (upd (upd (upd HA1 d2 (.dK [])) t2_0_0 (.tup [V.int 1,V.str (Str.ofString "h")])) t2_0_1 (.tup [V.int 3,V.str (Str.ofString "n")])) l2_0 (.lst [V.ref t2_0_0,V.ref t2_0_1])) t2_1_0 (.tup [V.int 1,V.str (Str.ofString "h")])) l2_1 (.lst [V.ref t2_1_0])) t2_2_0 (.tup [V.int 1,V.str (Str.ofString "h")])) t2_2_1 (.tup [V.int 2,V.str (Str.ofString "h")])) l2_2 (.lst [V.ref t2_2_0,V.ref t2_2_1])):=(((((((((Same.laid nd2).step nt2_0_0).step nt2_0_1).step nl2_0).step nt2_1_0).step nl2_1).step nt2_2_0).step nt2_2_1).step nl2_2)
  have eX2:(upd (upd (upd (upd (upd (upd (upd (upd (upd HA1 d2 (.dK [])) t2_0_0 (.tup [V.int 1,V.str (Str.ofString "h")])) t2_0_1 (.tup [V.int 3,V.str (Str.ofString "n")])) l2_0 (.lst [V.ref t2_0_0,V.ref t2_0_1])) t2_1_0 (.tup [V.int 1,V.str (Str.ofString "h")])) l2_1 (.lst [V.ref t2_1_0])) t2_2_0 (.tup [V.int 1,V.str (Str.ofString "h")])) t2_2_1 (.tup [V.int 2,V.str (Str.ofString "h")])) l2_2 (.lst [V.ref t2_2_0,V.ref t2_2_1])) d2 = some (.dK []):=(zab (zab (zab (zab (zab (zab (zab (zab zaa nt2_0_0) nt2_0_1) nl2_0) nt2_1_0) nl2_1) nt2_2_0) nt2_2_1) nl2_2)
  have UX2:UsD (upd (upd (upd (upd (upd (upd (upd (upd (upd HA1 d2 (.dK [])) t2_0_0 (.tup [V.int 1,V.str (Str.ofString "h")])) t2_0_1 (.tup [V.int 3,V.str (Str.ofString "n")])) l2_0 (.lst [V.ref t2_0_0,V.ref t2_0_1])) t2_1_0 (.tup [V.int 1,V.str (Str.ofString "h")])) l2_1 (.lst [V.ref t2_1_0])) t2_2_0 (.tup [V.int 1,V.str (Str.ofString "h")])) t2_2_1 (.tup [V.int 2,V.str (Str.ofString "h")])) l2_2 (.lst [V.ref t2_2_0,V.ref t2_2_1])) [(.inr "write",.ref l2_0),(.inr "none",.ref l2_1),(.inr "same",.ref l2_2)] [("write",[(1,"h"),(3,"n")]),("none",[(1,"h")]),("same",[(1,"h"),(2,"h")])]:=⟨rfl,⟨l2_0,[t2_0_0,t2_0_1],rfl,.two (zab (zab (zab (zab (zab (zab (zab zaa nt2_0_1) nl2_0) nt2_1_0) nl2_1) nt2_2_0) nt2_2_1) nl2_2) (zab (zab (zab (zab (zab (zab zaa nl2_0) nt2_1_0) nl2_1) nt2_2_0) nt2_2_1) nl2_2) (zab (zab (zab (zab (zab zaa nt2_1_0) nl2_1) nt2_2_0) nt2_2_1) nl2_2)⟩,rfl,⟨l2_1,[t2_1_0],rfl,.one (zab (zab (zab (zab zaa nl2_1) nt2_2_0) nt2_2_1) nl2_2) (zab (zab (zab zaa nt2_2_0) nt2_2_1) nl2_2)⟩,rfl,⟨l2_2,[t2_2_0,t2_2_1],rfl,.two (zab (zab zaa nt2_2_1) nl2_2) (zab zaa nl2_2) zaa⟩,True.intro⟩
  have nX2:=nd2
  revert SS2 eX2 UX2
  generalize (upd (upd (upd (upd (upd (upd (upd (upd (upd HA1 d2 (.dK [])) t2_0_0 (.tup [V.int 1,V.str (Str.ofString "h")])) t2_0_1 (.tup [V.int 3,V.str (Str.ofString "n")])) l2_0 (.lst [V.ref t2_0_0,V.ref t2_0_1])) t2_1_0 (.tup [V.int 1,V.str (Str.ofString "h")])) l2_1 (.lst [V.ref t2_1_0])) t2_2_0 (.tup [V.int 1,V.str (Str.ofString "h")])) t2_2_1 (.tup [V.int 2,V.str (Str.ofString "h")])) l2_2 (.lst [V.ref t2_2_0,V.ref t2_2_1])) = X2
  intro SS2 eX2 UX2
  clear nl2_2 nt2_2_1 nt2_2_0 nl2_1 nt2_1_0 nl2_0 nt2_0_1 nt2_0_0
  refine ⟨eX2,[(.inr "write",.ref l2_0),(.inr "none",.ref l2_1),(.inr "same",.ref l2_2)],rfl,by simp,?_⟩
  have ne2:=zan e1 nd2
  refine ⟨d0,d2,_,_,rfl,rfl,ne2,by rw [zaj ne2]; exact SS2 _ _ e1,zaa,Nat.le_of_ble_eq_true rfl,?_⟩
  refine absH (C:=tail _ _) (Good:=fun Y=>Same H Y∧Y d0 = some (.dK [(.inr "plus",.ref l0_0),(.inr "less",.ref l0_1),(.inr "zero",.ref l0_2),(.inr "fetch",.ref l1_0),(.inr "read",.ref l1_1),(.inr "into",.ref l1_2),(.inr "tell",.ref l1_3),(.inr "write",.ref l2_0),(.inr "none",.ref l2_1),(.inr "same",.ref l2_2)])∧UsD Y [(.inr "plus",.ref l0_0),(.inr "less",.ref l0_1),(.inr "zero",.ref l0_2),(.inr "fetch",.ref l1_0),(.inr "read",.ref l1_1),(.inr "into",.ref l1_2),(.inr "tell",.ref l1_3),(.inr "write",.ref l2_0),(.inr "none",.ref l2_1),(.inr "same",.ref l2_2)] [("plus",[(2,"n"),(3,"n")]),("less",[(2,"n"),(3,"n")]),("zero",[(1,"n")]),("fetch",[(2,"h")]),("read",[(2,"h")]),("into",[(2,"h")]),("tell",[(1,"n")]),("write",[(1,"h"),(3,"n")]),("none",[(1,"h")]),("same",[(1,"h"),(2,"h")])]) ⟨zaz (fun c o e=>?_) nd0,zaa,?_⟩ ?_
  ·rw [zaj (zan e (SA1.free nd2))]; exact SS2 _ _ (SA1 _ _ e)
  ·exact UsD.upD (UsD.app ((U1.same SS2).upD eX2) (UX2.upD eX2)) (a:=d0) (by rw [zaj ne2]; exact SS2 _ _ e1)
  rintro HA2 ⟨SA2,e2,U2⟩
  clear SS2 eX2 UX2
  subst hG
  generalize hG:tSeq (tIfS _ _ _) _ = tail
  simp! [tBM,zdf,tPairs,tC]
  refine ⟨.inr (.inr (.inl ⟨rfl,.inl ⟨_,e2⟩⟩)),?_⟩
  intro d3 nd3 t3_0_0 nt3_0_0 t3_0_1 nt3_0_1 l3_0 nl3_0
  have SS3:Same HA2 (upd (upd (upd (upd HA2 d3 (.dK [])) t3_0_0 (.tup [V.int 1,V.str (Str.ofString "h")])) t3_0_1 (.tup [V.int 3,V.str (Str.ofString "h")])) l3_0 (.lst [V.ref t3_0_0,V.ref t3_0_1])):=((((Same.laid nd3).step nt3_0_0).step nt3_0_1).step nl3_0)
  have eX3:(upd (upd (upd (upd HA2 d3 (.dK [])) t3_0_0 (.tup [V.int 1,V.str (Str.ofString "h")])) t3_0_1 (.tup [V.int 3,V.str (Str.ofString "h")])) l3_0 (.lst [V.ref t3_0_0,V.ref t3_0_1])) d3 = some (.dK []):=(zab (zab (zab zaa nt3_0_0) nt3_0_1) nl3_0)
  have UX3:UsD (upd (upd (upd (upd HA2 d3 (.dK [])) t3_0_0 (.tup [V.int 1,V.str (Str.ofString "h")])) t3_0_1 (.tup [V.int 3,V.str (Str.ofString "h")])) l3_0 (.lst [V.ref t3_0_0,V.ref t3_0_1])) [(.inr "hang",.ref l3_0)] [("hang",[(1,"h"),(3,"h")])]:=⟨rfl,⟨l3_0,[t3_0_0,t3_0_1],rfl,.two (zab (zab zaa nt3_0_1) nl3_0) (zab zaa nl3_0) zaa⟩,True.intro⟩
  have nX3:=nd3
  revert SS3 eX3 UX3
  generalize (upd (upd (upd (upd HA2 d3 (.dK [])) t3_0_0 (.tup [V.int 1,V.str (Str.ofString "h")])) t3_0_1 (.tup [V.int 3,V.str (Str.ofString "h")])) l3_0 (.lst [V.ref t3_0_0,V.ref t3_0_1])) = X3
  intro SS3 eX3 UX3
  clear nl3_0 nt3_0_1 nt3_0_0
  refine ⟨eX3,[(.inr "hang",.ref l3_0)],rfl,by simp,?_⟩
  have ne3:=zan e2 nd3
  refine ⟨d0,d3,_,_,rfl,rfl,ne3,by rw [zaj ne3]; exact SS3 _ _ e2,zaa,Nat.le_of_ble_eq_true rfl,?_⟩
  refine absH (C:=tail _ _) (Good:=fun Y=>Same H Y∧Y d0 = some (.dK [(.inr "plus",.ref l0_0),(.inr "less",.ref l0_1),(.inr "zero",.ref l0_2),(.inr "fetch",.ref l1_0),(.inr "read",.ref l1_1),(.inr "into",.ref l1_2),(.inr "tell",.ref l1_3),(.inr "write",.ref l2_0),(.inr "none",.ref l2_1),(.inr "same",.ref l2_2),(.inr "hang",.ref l3_0)])∧UsD Y [(.inr "plus",.ref l0_0),(.inr "less",.ref l0_1),(.inr "zero",.ref l0_2),(.inr "fetch",.ref l1_0),(.inr "read",.ref l1_1),(.inr "into",.ref l1_2),(.inr "tell",.ref l1_3),(.inr "write",.ref l2_0),(.inr "none",.ref l2_1),(.inr "same",.ref l2_2),(.inr "hang",.ref l3_0)] [("plus",[(2,"n"),(3,"n")]),("less",[(2,"n"),(3,"n")]),("zero",[(1,"n")]),("fetch",[(2,"h")]),("read",[(2,"h")]),("into",[(2,"h")]),("tell",[(1,"n")]),("write",[(1,"h"),(3,"n")]),("none",[(1,"h")]),("same",[(1,"h"),(2,"h")]),("hang",[(1,"h"),(3,"h")])]) ⟨zaz (fun c o e=>?_) nd0,zaa,?_⟩ ?_
  ·rw [zaj (zan e (SA2.free nd3))]; exact SS3 _ _ (SA2 _ _ e)
  ·exact UsD.upD (UsD.app ((U2.same SS3).upD eX3) (UX3.upD eX3)) (a:=d0) (by rw [zaj ne3]; exact SS3 _ _ e2)
  rintro HA3 ⟨SA3,e3,U3⟩
  clear SS3 eX3 UX3
  subst hG
  clear U0 U1 U2 e0 e1 e2 SA0 SA1 SA2
  have PR:=PR.same SA3
  obtain ⟨us,hp,PA⟩:=RA.same SA3
  have q:∀ (l:Addr) (rs:List Addr) (H':Hp),Same HA3 H'->Prw H' l (usV (ds.map (·.1)) d.1.2 r) rs->Q (.ref l) H':=fun l rs H' S P=>q l rs H' (SA3.trans S) P
  unfold usV at q
  have fl:=(List.getElem?_eq_some_iff.mp hd).1
  have lp:=PR.len
  have hda:=List.getElem?_eq_getElem (l:=das) (i:=f) (by omega)
  simp! [hp]
  by_cases c3:r.1 = "look"
  ·rw [if_pos c3]
   rw [if_neg (by rw [c3]; simp [zcP]),if_neg (by rw [c3]; simp [zcP]),if_pos c3] at q
   obtain ⟨x,y,z,er⟩:=zdH F (.inl c3)
   rw [er] at PA
   obtain ⟨u,v,w,rfl,p1,p2,p3⟩:=zc7 PA
   cases (show u = .int x from p1)
   cases (show v = .int y from p2)
   cases (show w = .int z from p3)
   have q2:zaF r 1 = .int y:=by unfold zaF; rw [er]; rfl
   have q3:zaF r 2 = .int z:=by unfold zaF; rw [er]; rfl
   rw [q2,q3] at q
   refine ⟨_,zb1,_,zgD,fun t nt l nl=>?_⟩
   exact q l [t] _ ((Same.laid nt).step nl) (.one (zab zaa nl) zaa)
  rw [if_neg c3]
  by_cases c4:r.1 = "lay"
  ·rw [if_pos c4]
   rw [if_neg (by rw [c4]; simp [zcP]),if_neg (by rw [c4]; simp [zcP]),if_neg c3,if_pos c4] at q
   obtain ⟨x,y,z,er⟩:=zdH F (.inr c4)
   rw [er] at PA
   obtain ⟨u,v,w,rfl,p1,p2,p3⟩:=zc7 PA
   cases (show u = .int x from p1)
   cases (show v = .int y from p2)
   cases (show w = .int z from p3)
   have q1:zaF r 0 = .int x:=by unfold zaF; rw [er]; rfl
   have q2:zaF r 1 = .int y:=by unfold zaF; rw [er]; rfl
   have q3:zaF r 2 = .int z:=by unfold zaF; rw [er]; rfl
   rw [q1,q2,q3] at q
   refine ⟨_,za8,_,zb1,fun t nt=>⟨_,by rw [zab hp nt]; rfl,_,zgD,fun t2 nt2 l nl=>?_⟩⟩
   exact q l [t,t2] _ (((Same.laid nt).step nt2).step nl) (.two (zab (zab zaa nt2) nl) (zab zaa nl) zaa)
  rw [if_neg c4]
  by_cases c1:r.1 = "call"
  ·rw [if_pos c1]
   rw [if_pos c1] at q
   obtain ⟨x,g,al,z,er,hz,lz⟩:=zeY F c1
   rw [er] at PA q
   obtain ⟨u,v,w,rfl,p1,p2,p3⟩:=zc7 PA
   cases (show u = .int x from p1)
   cases (show v = .int (g:Int) from p2)
   obtain ⟨t,rfl,ht⟩:=p3
   have gl:=(List.getElem?_eq_some_iff.mp hz).1
   rw [List.length_map] at gl
   have hg:=List.getElem?_eq_getElem gl
   have hga:=List.getElem?_eq_getElem (l:=das) (i:=g) (by omega)
   have hzt:=(PR.def_ g _ _ hga hg).1
   have topp:=PR.top
   have ag:atI (das.map fun a=>V.ref a.1) ((g:Nat):Int) = some (.ref das[g].1):=zau (by rw [List.getElem?_map,hga]; rfl)
   rw [List.getElem?_map,hg] at hz
   cases hz
   have lz':al.length = ds[g].1.1.cps.size:=lz
   have mz:ds[g].1 ∈ ds.map (·.1):=List.mem_map.mpr ⟨_,List.getElem_mem gl,rfl⟩
   obtain ⟨z6,za⟩:=SF.asc _ mz
   have eg:((ds.map (·.1)).getD ((g:Int)).toNat (("":Str),("":Str))) = ds[g].1:=by
    rw [Int.toNat_natCast,List.getD_eq_getElem?_getD,List.getElem?_map,hg]
    rfl
   dsimp only at q
   rw [eg] at q
   refine zhJ (H1:=HA3) (al.length:Int) (fun Q2 h2=>by simp! [hp,ht,List.length_map]; exact h2) (by omega) (by omega) (fun D i ys H2=>∃ rs:List Addr,ys = rs.map V.ref∧rs.length = i∧Same HA3 H2∧H2 D = some (.lst ys)∧∀ (k:Nat) (r':Addr) (y c:V),rs[k]? = some r'->(al.map V.int)[k]? = some y->(ds[g].1.1.cps.toList.map fun c=>V.str ⟨#[c]⟩)[k]? = some c->H2 r' = some (.tup [y,c])∧r' ≠ D)
    (fun D nD=>⟨[],rfl,rfl,Same.laid nD,zaa,fun k r' y c h=>by simp at h⟩) ?_ (by rw [sizeLine_eq]; omega) ?_ ?_
   ·rintro D nD i ys H2 hi ⟨rs,rfl,el,S,hD,at_⟩
    exact ⟨hD,by rw [List.length_map]; omega⟩
   ·rintro D nD i ys H2 hi ⟨rs,rfl,el,S,hD,at_⟩
    have il:i < al.length:=by omega
    have hp2:=S _ _ hp
    have ht2:=S _ _ ht
    have top2:=S _ _ topp
    have hz2:=S _ _ hzt
    have a1:atI (al.map V.int) (((i:Nat):Int)) = some (.int al[i]):=zau (by rw [List.getElem?_map,List.getElem?_eq_getElem il]; rfl)
    have ic:i < ds[g].1.1.cps.toList.length:=by rw [Array.length_toList]; omega
    have a2:atI ds[g].1.1.cps.toList (((i:Nat):Int)) = some (ds[g].1.1.cps.toList[i]):=zau (List.getElem?_eq_getElem ic)
    simp! [zaG,tTrue,hp2,ht2,top2,hz2,ag]
    refine ⟨_,by rw [Int.zero_add]; exact a1,_,_,_,rfl,rfl,by show ds[g].1.1.cps.size ≤ _; rw [sizeLine_eq]; omega,by rw [Int.zero_add]; exact a2,fun t nt=>?_⟩
    have nlD:t ≠ D:=fun e=>by rw [e,hD] at nt; cases nt
    refine ⟨zab hD nt,rs ++ [t],by rw [List.map_append]; rfl,by rw [List.length_append,el]; rfl,zaz (S.step nt) nD,fun j r' y c g1 g2 g3=>?_⟩
    rcases Nat.lt_trichotomy j i with cc | cc | cc
    ·rw [List.getElem?_append_left (by omega)] at g1
     obtain ⟨q1,q2⟩:=at_ j r' y c g1 g2 g3
     exact ⟨by rw [zaj q2]; exact zab q1 nt,q2⟩
    ·rw [List.getElem?_append_right (by omega),cc,el,Nat.sub_self] at g1
     rw [cc,List.getElem?_map,List.getElem?_eq_getElem il] at g2
     rw [cc,List.getElem?_map,List.getElem?_eq_getElem ic] at g3
     cases g1
     cases g2
     cases g3
     exact ⟨by rw [zaj nlD]; exact zaa,nlD⟩
    ·rw [List.getElem?_eq_none (by simp; omega)] at g1
     cases g1
   ·rintro D nD ys H2 ⟨rs,rfl,el,S,hD,at_⟩
    rw [Int.toNat_natCast] at el
    refine q D rs H2 S ⟨hD,?_,fun k r' pp h1 h2=>?_⟩
    ·rw [el,List.length_zip,List.length_map,List.length_map]
     rw [show al.length = ds[g].1.1.cps.toList.length from by rw [Array.length_toList]; exact lz',Nat.min_self]
    ·obtain ⟨g1,g2⟩:=List.getElem?_zip_eq_some.mp h2
     exact (at_ k r' pp.1 pp.2 h1 g1 g2).1
  rw [if_neg c1]
  rw [if_neg c1] at q
  by_cases c2:r.1 = "back"
  ·rw [if_pos c2]
   rw [if_pos c2] at q
   obtain ⟨x,er⟩:=zeR F c2
   rw [er] at PA
   have eu:=zhu PA
   subst eu
   have hdt:=(PR.def_ f _ _ hda hd).1
   have q2:zaF r 0 = .int x:=by unfold zaF; rw [er]; rfl
   rw [q2] at q
   refine ⟨_,za8,_,by rw [PR.top]; rfl,_,zau (by rw [List.getElem?_map,hda]; rfl),_,rfl,_,by rw [hdt]; rfl,_,za8,fun t nt l nl=>?_⟩
   exact q l [t] _ ((Same.laid nt).step nl) (.one (zab zaa nl) zaa)
  rw [if_neg c2]
  rw [if_neg c2,if_neg c3,if_neg c4] at q
  obtain ⟨ls,m,l,pf⟩:=F
  obtain ⟨lk,parts⟩:=LW_u _ m c1 c2 c3 c4
  have eT:=TAB_ust _ m c1 c2 c3 c4
  have ul:(ust r.1).length ≤ 2:=ust_len _ (zbA lk)
  refine zgv (fun ua H2=>∃ rs0,Same HA3 H2∧Prw H2 ua ((ust r.1).map fun q=>(V.int q.1,V.str q.2)) rs0) (fun Q2 hQ=>?_) ?_
  ·simp! [hp,zdO]
   refine ⟨.inl ⟨_,.inl e3⟩,fun p0 np0=>?_⟩
   have e3':=zab (u:=.lst []) e3 np0
   refine ⟨_,DGet.k (k:=.inr r.1) e3',?_⟩
   rcases UsD.get (w:=r.1) U3 with ⟨g1,g2⟩ | ⟨v,ps,g1,g2,g3⟩
   ·rw [show TAB.lookup r.1 = none from g2] at eT
    rw [g1]
    exact hQ p0 _ ⟨[],.laid np0,by rw [← eT]; exact ⟨zaa,rfl,fun k r' p h=>by simp at h⟩⟩
   ·rw [show TAB.lookup r.1 = some ps from g2] at eT
    obtain ⟨ua,rs0,rfl,P⟩:=g3
    rw [g1]
    have eT:ps = ust r.1:=eT
    refine hQ ua _ ⟨rs0,.laid np0,?_⟩
    rw [← eT]
    exact ⟨zab P.top np0,P.len,fun k r' p h1 h2=>zab (P.at_ k r' p h1 h2) np0⟩
  rintro ua HB ⟨rs0,SB,PB⟩
  have lB:=PB.len
  rw [List.length_map] at lB
  refine zeo (H1:=HB) ua (rs0.map V.ref) (fun Q2 h2=>h2) (.of PB.top) (fun D i ys H2=>∃ rs:List Addr,ys = rs.map V.ref∧rs.length = i∧Same HB H2∧H2 D = some (.lst ys)∧∀ (k:Nat) (r':Addr) (q:Nat × Str),rs[k]? = some r'->(ust r.1)[k]? = some q->H2 r' = some (.tup [zaF r (q.1 - 1),.str q.2])∧r' ≠ D)
   (fun D nD=>⟨[],rfl,rfl,Same.laid nD,zaa,fun k r' q h=>by simp at h⟩) ?_ (by rw [sizeLine_eq,List.length_map]; omega) ?_ ?_
  ·rintro D nD i ys H2 hi ⟨rs,rfl,el,S,hD,_⟩
   exact ⟨.of (S _ _ PB.top),hD,by rw [List.length_map]; omega⟩
  ·rintro D nD i x ys H2 hx ⟨rs,rfl,el,S,hD,at_⟩
   obtain ⟨b,hb0,rfl⟩:=zay hx
   have il:i < (ust r.1).length:=by
    have:=(List.getElem?_eq_some_iff.mp hb0).1
    omega
   have hq:=List.getElem?_eq_getElem il
   have sq:=S _ _ (PB.at_ i b _ hb0 (by rw [List.getElem?_map,hq]; rfl))
   obtain ⟨q1,qp⟩:=parts _ (List.getElem_mem il)
   have lk2:(ust r.1)[i].1 - 1 < r.2.length:=by
    have:_ < ls.cps.size:=(Array.getElem?_eq_some_iff.mp qp).1
    omega
   have hr2:=List.getElem?_eq_getElem lk2
   obtain ⟨x,ex⟩:=zei (pf.at_ _ 112 _ qp hr2)
   rw [ex] at hr2
   have hus:=List.getElem?_eq_getElem (l:=us) (i:=(ust r.1)[i].1 - 1) (by rw [PA.len]; exact lk2)
   have hv:=PA.at_ _ _ _ hus hr2
   rw [show us[(ust r.1)[i].1 - 1]'(by rw [PA.len]; exact lk2) = .int x from hv] at hus
   have pv:zaF r ((ust r.1)[i].1 - 1) = .int x:=by unfold zaF; rw [hr2]
   have ai:atI (V.str r.1 :: us) (((ust r.1)[i].1:Nat):Int) = some (.int x):=zau (by
    rw [show (ust r.1)[i].1 = ((ust r.1)[i].1 - 1) + 1 from by omega,List.getElem?_cons_succ]
    exact hus)
   have hp2:=S p _ (SB _ _ hp)
   refine za7 sq rfl ?_
   simp! [tTrue,zaG,hp2,ai]
   intro t nt
   have nlD:t ≠ D:=fun e=>by rw [e,hD] at nt; cases nt
   refine ⟨zab hD nt,rs ++ [t],by rw [List.map_append]; rfl,by rw [List.length_append,el]; rfl,zaz (S.step nt) nD,fun j r' m g1 g2=>?_⟩
   rcases Nat.lt_trichotomy j i with cc | cc | cc
   ·rw [List.getElem?_append_left (by omega)] at g1
    obtain ⟨q1,q2⟩:=at_ j r' m g1 g2
    exact ⟨by rw [zaj q2]; exact zab q1 nt,q2⟩
   ·rw [List.getElem?_append_right (by omega),cc,el,Nat.sub_self] at g1
    rw [cc,hq] at g2
    cases g1
    cases g2
    exact ⟨by rw [zaj nlD,pv]; exact zaa,nlD⟩
   ·rw [List.getElem?_eq_none (by simp; omega)] at g1
    cases g1
  ·rintro D nD ys H2 ⟨rs,rfl,el,S,hD,at_⟩
   rw [List.length_map] at el
   refine q D rs H2 (SB.trans S) ⟨hD,by rw [List.length_map]; omega,fun k r' pp h1 h2=>?_⟩
   rw [List.getElem?_map] at h2
   obtain ⟨q0,h3,rfl⟩:=Option.map_eq_some_iff.mp h2
   exact (at_ k r' q0 h1 h3).1
end
section
variable {P:Program} {w:World} {K:PySem.W.Frag} {mg:Str->Option Value} {base:Heap} {a:Ad}
inductive Rch (rws:List Row):Int->Prop
 | zero:Rch rws 0
 | step {y:Int} {r:Row} {k:Nat}:Rch rws k->rws[k]? = some r->y ∈ nxt r k->Rch rws y
structure RowsFit (rws:List Row):Prop where
 fit:∀ r ∈ rws,∃ (words:Int) (sg:List Sg),zaH words rws.length sg r∧∀ x ∈ sg,x.1.cps.size ≤ 6
 last:ze2 rws
 n0:0 < rws.length
 n1:rws.length ≤ 40
theorem RowsFit.in_ {rws:List Row} (F:RowsFit rws) {k:Nat} {r:Row} (hk:rws[k]? = some r) {y:Int} (hy:y ∈ nxt r k):0 ≤ y∧y < rws.length:=by
 have kl:=(List.getElem?_eq_some_iff.mp hk).1
 obtain ⟨words,sg,rf,_⟩:=F.fit r (List.mem_of_getElem? hk)
 have key:r.1 ≠ "back"->r.1 ≠ "jump"->k + 1 < rws.length:=fun n1 n2=>by
  by_cases c:k + 1 = rws.length
  ·obtain ⟨r',h1,h2⟩:=F.last
   rw [List.getLast?_eq_getElem?,← c,Nat.add_sub_cancel,hk] at h1
   cases h1
   rcases h2 with h2 | h2
   ·exact absurd h2 n1
   ·exact absurd h2 n2
  ·omega
 unfold nxt at hy
 by_cases e1:r.1 = "back"
 ·rw [if_pos e1] at hy; cases hy
 rw [if_neg e1] at hy
 by_cases e2:r.1 = "jump"
 ·rw [if_pos e2] at hy
  obtain ⟨pre,x,_,x0,x1,_,el⟩:=zdb rf (.inl e2)
  rw [List.mem_singleton.mp hy,el]
  exact ⟨x0,x1⟩
 rw [if_neg e2] at hy
 have:=key e1 e2
 by_cases c:Br r.1
 ·rw [if_pos c] at hy
  obtain ⟨pre,x,_,x0,x1,_,el⟩:=zdb rf (.inr c)
  rw [el] at hy
  have:y = (k:Int) + 1 ∨ y = x:=by
   unfold twoI at hy
   split at hy
   ·exact .inl (List.mem_singleton.mp hy)
   ·split at hy
    ·simpa using hy
    ·have:y = x ∨ y = (k:Int) + 1:=by simpa using hy
     exact this.symm
  omega
 ·rw [if_neg c] at hy
  rw [List.mem_singleton.mp hy]; omega
theorem nodup_sub:∀ {a b:List Int},a.Nodup->(∀ x ∈ a,x ∈ b)->a.length ≤ b.length
 | [],_,_,_=>Nat.zero_le _
 | x :: r,b,n,h=>by
  obtain ⟨nx,nr⟩:=List.nodup_cons.mp n
  have hx:=h x List.mem_cons_self
  have:=nodup_sub (b:=b.erase x) nr fun y hy=>(List.mem_erase_of_ne (show y ≠ x from fun e=>nx (by rw [← e]; exact hy))).mpr (h y (List.mem_cons_of_mem _ hy))
  rw [List.length_erase_of_mem hx] at this
  have:=List.length_pos_of_mem hx
  rw [List.length_cons]; omega
theorem zb5 {ks:List Int} {n:Nat} (nd:ks.Nodup) (h:∀ x ∈ ks,0 ≤ x∧x < n):ks.length ≤ n:=by
 have:=nodup_sub (b:=(List.range n).map fun (k:Nat)=>(k:Int)) nd fun x hx=>by
  obtain ⟨x0,x1⟩:=h x hx
  exact List.mem_map.mpr ⟨x.toNat,List.mem_range.mpr (by omega),by omega⟩
 rw [List.length_map,List.length_range] at this
 exact this
structure Dfs (rws:List Row) (ks td:List Int) (hold:Int->Prop):Prop where
 z:(0:Int) ∈ ks
 nd:ks.Nodup
 sub:∀ x ∈ td,x ∈ ks
 rch:∀ x ∈ ks,Rch rws x
 rng:∀ x ∈ ks,0 ≤ x∧x < rws.length
 cl:∀ (k:Nat) (r:Row),(k:Int) ∈ ks->(k:Int) ∉ td->¬ hold k->rws[k]? = some r->∀ y ∈ nxt r k,y ∈ ks
noncomputable def no:Int->Prop:=fun _=>False
theorem Dfs.init {rws:List Row} (h:0 < rws.length):Dfs rws [0] [0] no :=
 ⟨by simp,by simp,by simp,fun x hx=>by rw [List.mem_singleton.mp hx]; exact .zero,fun x hx=>by rw [List.mem_singleton.mp hx]; omega,fun k r h1 h2=>absurd h1 h2⟩
theorem Dfs.pop {rws:List Row} {ks td:List Int} {x:Int} (D:Dfs rws ks (td ++ [x]) no):Dfs rws ks td (· = x) :=
 ⟨D.z,D.nd,fun y hy=>D.sub y (List.mem_append_left _ hy),D.rch,D.rng,fun k r h1 h2 h3 h4=>D.cl k r h1 (fun m=>by
  rcases List.mem_append.mp m with m | m
  ·exact h2 m
  ·exact h3 (List.mem_singleton.mp m)) (fun z=>z) h4⟩
theorem Dfs.add {rws:List Row} {ks td:List Int} {hold:Int->Prop} {t:Int} (D:Dfs rws ks td hold) (F:RowsFit rws) {k:Nat} {r:Row} (hk:(k:Int) ∈ ks) (hr:rws[k]? = some r) (ht:t ∈ nxt r k) (nt:t ∉ ks):Dfs rws (ks ++ [t]) (td ++ [t]) hold:=by
 refine ⟨List.mem_append_left _ D.z,?_,fun y hy=>?_,fun y hy=>?_,fun y hy=>?_,fun k' r' h1 h2 h3 h4 y hy=>?_⟩
 ·rw [List.nodup_append]
  exact ⟨D.nd,by simp,fun x hx y hy e=>nt (by rw [← List.mem_singleton.mp hy,← e]; exact hx)⟩
 ·rcases List.mem_append.mp hy with m | m
  ·exact List.mem_append_left _ (D.sub y m)
  ·exact List.mem_append_right _ m
 ·rcases List.mem_append.mp hy with m | m
  ·exact D.rch y m
  ·rw [List.mem_singleton.mp m]; exact .step (D.rch _ hk) hr ht
 ·rcases List.mem_append.mp hy with m | m
  ·exact D.rng y m
  ·rw [List.mem_singleton.mp m]; exact F.in_ hr ht
 ·rcases List.mem_append.mp h1 with m | m
  ·exact List.mem_append_left _ (D.cl k' r' m (fun z=>h2 (List.mem_append_left _ z)) h3 h4 y hy)
  ·exact absurd (List.mem_append_right _ m) h2
theorem Dfs.end_ {rws:List Row} {ks td:List Int} {k:Nat} {r:Row} (D:Dfs rws ks td (· = (k:Int))) (hr:rws[k]? = some r) (h:∀ y ∈ nxt r k,y ∈ ks):Dfs rws ks td no :=
 ⟨D.z,D.nd,D.sub,D.rch,D.rng,fun k' r' h1 h2 _ h4 y hy=>by
  by_cases c:(k':Int) = k
  ·have:k' = k:=by omega
   subst this
   rw [hr] at h4
   cases h4
   exact h y hy
  ·exact D.cl k' r' h1 h2 c h4 y hy⟩
theorem Dfs.all {rws:List Row} {ks:List Int} (D:Dfs rws ks [] no) (x:Int):x ∈ ks ↔ Rch rws x:=by
 refine ⟨D.rch x,fun h=>?_⟩
 induction h with
 | zero=>exact D.z
 | step _ hr hy ih=>exact D.cl _ _ ih (by simp) (fun z=>z) hr _ hy
noncomputable def RchL (rws:List Row) (ns:List Int):Prop:=ns.Pairwise (· < ·)∧∀ x,x ∈ ns ↔ Rch rws x
theorem zgB {ns ks:List Int} (p:ns.Perm ks) (nd:ks.Nodup) (s:ns.Pairwise (· ≤ ·)):ns.Pairwise (· < ·):=by
 have n2:ns.Nodup:=p.nodup_iff.mpr nd
 exact (s.and n2).imp fun {a b} h=>by
  have h1:=h.1
  have h2:=h.2
  omega
theorem rise_ext:∀ {a b:List Int},a.Pairwise (· < ·)->b.Pairwise (· < ·)->(∀ x,x ∈ a ↔ x ∈ b)->a = b
 | [],[],_,_,_=>rfl
 | [],y :: b,_,_,h=>absurd ((h y).mpr List.mem_cons_self) (by simp)
 | x :: a,[],_,_,h=>absurd ((h x).mp List.mem_cons_self) (by simp)
 | x :: a,y :: b,p,q,h=>by
  obtain ⟨p1,p2⟩:=List.pairwise_cons.mp p
  obtain ⟨q1,q2⟩:=List.pairwise_cons.mp q
  have e:x = y:=by
   have h1:=List.mem_cons.mp ((h x).mp List.mem_cons_self)
   have h2:=List.mem_cons.mp ((h y).mpr List.mem_cons_self)
   rcases h1 with h1 | h1
   ·exact h1
   ·rcases h2 with h2 | h2
    ·exact h2.symm
    ·have:=q1 x h1
     have:=p1 y h2
     omega
  subst e
  refine congrArg _ (rise_ext p2 q2 fun z=>?_)
  have hz:=h z
  rw [List.mem_cons,List.mem_cons] at hz
  constructor
  ·intro m
   rcases hz.mp (.inr m) with e | m'
   ·have:=p1 z m; omega
   ·exact m'
  ·intro m
   rcases hz.mpr (.inr m) with e | m'
   ·have:=q1 z m; omega
   ·exact m'
noncomputable def setK (ks:List Int):List (Key × V):=ks.map fun k=>(Sum.inl k,V.bl true)
theorem zgz {ks:List Int} {t:Int}:(valV (setK ks) (Sum.inl t)).isSome = decide (t ∈ ks):=by
 rw [← zbB,Bool.eq_iff_iff]
 unfold setK
 simp [List.any_eq_true]
theorem zgR {ks:List Int} {t:Int} (h:t ∉ ks):putK (setK ks) (Sum.inl t) (V.bl true) = setK (ks ++ [t]):=by
 have:valV (setK ks) (Sum.inl t) = none:=by
  have:=zgz (ks:=ks) (t:=t)
  rw [decide_eq_false h] at this
  exact Option.not_isSome_iff_eq_none.mp (by rw [this]; simp)
 rw [zeJ _ this]
 unfold setK
 rw [List.map_append]; rfl
theorem Same.new {H H':Hp} {p:Addr} {u:HO} (S:Same H H') (hp:H p = none):Same H (upd H' p u):=fun q o h=>by rw [zaj (zan h hp)]; exact S _ _ h
noncomputable def sp_reached:Sp:=fun vs H Q _=>∃ (rl:Addr) (rs:List Addr) (rws:List Row),vs = [.ref rl]∧RowsOf H rl rs rws∧RowsFit rws ∧
 ∀ (l:Addr) (ns:List Int) (H':Hp),Same H H'->RchL rws ns->H' l = some (.lst (ns.map V.int))->Q (.ref l) H'
set_option maxHeartbeats 1000000 in
theorem zfR {D:Ends} {rl d tl:Addr} {rs:List Addr} {rws:List Row} {k:Nat} {r:Row} {ks td:List Int} {H0 H:Hp} {v4:Option V} (R:RowsOf H0 rl rs rws) (F:RowsFit rws) (nd:H0 d = none) (ntl:H0 tl = none) (Dk:Dfs rws ks td (· = (k:Int))) (hk:(k:Int) ∈ ks) (hr:rws[k]? = some r)
  (hd:H d = some (.dK (setK ks))) (ht:H tl = some (.lst (td.map V.int))) (ltd:td.length ≤ 2 * rws.length) (S:Same H0 H)
  (q:∀ (ks' td':List Int) (v4':Option V) (H':Hp),Dfs rws ks' td' no->H' d = some (.dK (setK ks'))->H' tl = some (.lst (td'.map V.int))->Same H0 H'->2 * (rws.length - ks'.length) + td'.length ≤ 2 * (rws.length - ks.length) + td.length->D.nx [some (.ref rl),some (.ref d),some (.ref tl),some (.int k),v4'] H') :
  tFor (zcs K (zgb sp_nexts [] E0 (zcp (tVar 0) (zcp (tVar 3) tNil)))) (zcJ 4) (tIfS (tB (zdk (tVar 4) (tVar 1))) (tSeq (zfM (tVar 1) (tVar 4) (tC (V.bl true))) (zd6 (tBM K "list" rAppend (tVar 2) (zcp (tVar 4) tNil)))) tNext) D [some (.ref rl),some (.ref d),some (.ref tl),some (.int k),v4] H:=by
 have kl:=(List.getElem?_eq_some_iff.mp hr).1
 have n40:=F.n1
 refine zes (fun l H1=>H1 l = some (.lst ((nxt r k).map V.int))∧Same H H1∧H l = none) (fun Q2 hQ=>?_) ?_
 ·obtain ⟨words,sg,rf,_⟩:=F.fit r (List.mem_of_getElem? hr)
  simp! []
  exact ⟨rl,k,rs,rws,r,words,rws.length,sg,rfl,R.fr (M:=fun _=>False) (.of_same S) id,hr,rf,by omega,by omega,fun l H1 nl S1 hl=>hQ l H1 ⟨hl,S1,nl⟩⟩
 rintro l H1 ⟨hl,S1,nl⟩
 have nld:l ≠ d:=(zan hd nl).symm
 have nlt:l ≠ tl:=(zan ht nl).symm
 have ndt:d ≠ tl:=zhV hd ht (by intro z; cases z)
 refine forL (H1:=H1) l _ (fun Q2 h2=>h2) (fun j σ H3=>∃ (ks' td':List Int) (v4':Option V),σ = [some (.ref rl),some (.ref d),some (.ref tl),some (.int k),v4']∧Dfs rws ks' td' (· = (k:Int))∧(k:Int) ∈ ks'∧(∀ y ∈ (nxt r k).take j,y ∈ ks')∧H3 d = some (.dK (setK ks'))∧H3 tl = some (.lst (td'.map V.int))∧H3 l = some (.lst ((nxt r k).map V.int))∧Same H0 H3∧2 * (rws.length - ks'.length) + td'.length ≤ 2 * (rws.length - ks.length) + td.length)
  ⟨ks,td,v4,rfl,Dk,hk,by simp,S1 _ _ hd,S1 _ _ ht,hl,S.trans S1,Nat.le_refl _⟩ (fun j σ H3 _ ⟨_,_,_,_,_,_,_,_,_,h,_⟩=>.of h) ?_ ?_
 ·rintro j x σ H3 hj ⟨ks',td',v4',rfl,D3,hk3,tk,hd3,ht3,hl3,S3,mu⟩
  obtain ⟨y,hy,rfl⟩:=zay hj
  have my:y ∈ nxt r k:=List.mem_of_getElem? hy
  have le:=zb5 D3.nd D3.rng
  have tk':∀ {zs:List Int},(∀ x ∈ ks',x ∈ zs)->y ∈ zs->∀ z ∈ (nxt r k).take (j + 1),z ∈ zs:=fun h1 h2 z hz=>by
   rw [List.take_succ,hy] at hz
   rcases List.mem_append.mp hz with m | m
   ·exact h1 _ (tk z m)
   ·have e:z = y:=by simpa using m
    rw [e]; exact h2
  simp! [hd3,zgz,tBM]
  refine ite2 (fun c=>?_) fun c=>?_
  ·have D4:=D3.add F hk3 hr my c
   have le4:=zb5 D4.nd D4.rng
   rw [List.length_append,List.length_singleton] at le4
   have hl4:(setK ks').length < 16777216:=by unfold setK; rw [List.length_map]; omega
   have g1:upd H3 d (.dK (putK (setK ks') (Sum.inl y) (V.bl true))) tl = some (.lst (td'.map V.int)):=by rw [zaj ndt.symm]; exact ht3
   refine ⟨hl4,.inl ⟨rfl,_,.of g1⟩,tl,_,_,rfl,rfl,g1,by rw [List.length_map,sizeLine_eq]; omega,ks' ++ [y],td' ++ [y],D4,List.mem_append_left _ hk3,tk' (fun x h=>List.mem_append_left _ h) (by simp),?_,?_,?_,?_,?_⟩
   ·rw [zaj ndt,zaa,zgR c]
   ·rw [zaa,List.map_append]; rfl
   ·rw [zaj nlt,zaj nld]; exact hl3
   ·exact Same.new (Same.new S3 nd) ntl
   ·rw [List.length_append,List.length_append,List.length_singleton]; omega
  ·exact ⟨ks',td',D3,hk3,tk' (fun x h=>h) (by simpa using c),rfl,ht3,hl3,S3,mu⟩
 ·rintro σ H3 ⟨ks',td',v4',rfl,D3,hk3,tk,hd3,ht3,hl3,S3,mu⟩
  rw [List.length_map,List.take_length] at tk
  exact q ks' td' v4' H3 (D3.end_ hr tk) hd3 ht3 S3 mu
set_option maxHeartbeats 1000000 in
theorem zfq (T:Txt K mg a):FnOk P w K mg base CX0 2 a.f_reached a.d_reached ["rows"] sp_reached:=by
 refine T.F_reached.okC sc_reached (fun vs H Q E h=>?_) (fun cdv A outer s H vs Q E hr h=>?_)
 ·obtain ⟨rl,rs,rws,rfl,_⟩:=h
  rfl
 ·obtain ⟨rl,rs,rws,rfl,R,F,q⟩:=h
  have hu:=zaT hr
  refine ⟨_,(@zad _ _ _ _ _ (@zem _ 1 _ _ _ _ _ _ _ sc_reached.nd (by rfl) (Or.inl rfl) (@zaQ _ _ _ _ _ _ _ _ _ zag zcU zbI) (by rfl) (by rfl) (List.cons_ne_nil _ _) (Nat.le_of_ble_eq_true (by rfl)) (by first | exact .inl (by rfl) | exact .inr (by rfl) | assumption))
   (@zad _ _ _ _ _ (@zbm _ 2 _ _ _ _ _ _ sc_reached.nd (by rfl) (Or.inl rfl) (@zai _ _ _ _ _ _ pa_nil) (by first | exact .inl (by rfl) | exact .inr (by rfl) | assumption))
   (@zad _ _ _ _ _ (zcC PassesOwn.never (zdE (pv 2) (fun _=>rfl)) (@zad _ _ _ _ _ (zaw (i:=3) sc_reached.nd (by rfl) (Or.inl rfl) (zf1 PySem.F.plainAttrs_list PySem.F.slot_list_pop PySem.F.type_list_pop mt_pop (pv 2)))
   (@zaf _ _ _ (za0 PassesOwn.never (by rfl) (zaI (zal (zdo T) (hr.mono (by decide)) (by rfl) T.m_nexts T.F_nexts.kp T.b_nexts .nil zaC (@zac _ _ _ _ _ _ (pv 0) (@zac _ _ _ _ _ _ (pv 3) pa_nil)))) (zaq (i:=4) sc_reached.nd (by rfl) (Or.inl rfl))
   (@zaf _ _ _ (@zaD _ _ _ _ _ _ _ _ (za9 (zdd hu (pv 4) (pv 1))) (@zad _ _ _ _ _ (zdC hu (pv 1) (pv 4) zcU (by rfl))
   (@zaf _ _ _ (za6 (zct PySem.F.plainAttrs_list PySem.F.slot_list_append PySem.F.type_list_append mt_append (pv 2) (@zac _ _ _ _ _ _ (pv 4) pa_nil))))) pss_nil))))))
   (@zaf _ _ _ (zao (zax (zbn (by rfl)) (by rfl) T.z_sorted (by decide +kernel) (@zac _ _ _ _ _ _ (pv 1) pa_nil))))))),?_⟩
  simp! []
  intro d nd
  simp! [tPairs]
  refine ⟨[(Sum.inl 0,V.bl true)],rfl,by simp,?_⟩
  rw [zcV,show zbb [] [((Sum.inl 0:Key),V.bl true)] = setK [0] from rfl]
  intro tl ntl
  have S1:Same H (upd H d (.dK (setK [0]))):=.laid nd
  have S2:=S1.step ntl (u:=.lst [.int 0])
  have ntd:H tl = none:=S1.free ntl
  have hd2:=zab (u:=.lst [.int 0]) (zaa (H:=H) (a:=d) (o:=.dK (setK [0]))) ntl
  have ht2:upd (upd H d (.dK (setK [0]))) tl (.lst [.int 0]) tl = some (.lst ([(0:Int)].map V.int)):=zaa
  revert S2 hd2 ht2
  generalize upd (upd H d (.dK (setK [0]))) tl (.lst [.int 0]) = H0
  intro S2 hd2 ht2
  refine ⟨fun m σ H2=>∃ (ks td:List Int) (v3 v4:Option V),σ = [some (.ref rl),some (.ref d),some (.ref tl),v3,v4]∧m = 2 * (rws.length - ks.length) + td.length∧Dfs rws ks td no∧H2 d = some (.dK (setK ks))∧H2 tl = some (.lst (td.map V.int))∧Same H H2∧2 * (rws.length - ks.length) + td.length ≤ 2 * rws.length,
   ⟨_,[0],[0],_,_,rfl,rfl,Dfs.init F.n0,hd2,ht2,S2,by have:=F.n0; simp; omega⟩,?_⟩
  clear S2 hd2 ht2 S1
  rintro m σ H2 ⟨ks,td,v3,v4,rfl,rfl,D,hd,ht,S,mb⟩
  simp! []
  refine ⟨!(td.map V.int).isEmpty,.inl ⟨_,.of ht,rfl⟩,?_⟩
  rcases List.eq_nil_or_concat td with e | ⟨td0,x,e⟩
  ·subst e
   rw [if_neg (by simp)]
   have le:=zb5 D.nd D.rng
   have n40:=F.n1
   refine ⟨_,hd,ks,by unfold setK; rw [List.map_map]; rfl,by omega,fun l ns' nl pm st=>?_⟩
   exact q l ns' _ (S.step nl) ⟨zgB pm D.nd st,fun z=>by rw [pm.mem_iff]; exact D.all z⟩ zaa
  ·rw [List.concat_eq_append] at e
   subst e
   rw [List.length_append,List.length_singleton] at mb
   rw [if_pos (by simp)]
   have le:=zb5 D.nd D.rng
   have mx:x ∈ ks:=D.sub x (by simp)
   obtain ⟨x0,x1⟩:=D.rng x mx
   obtain ⟨xN,rfl⟩:=Int.eq_ofNat_of_zero_le x0
   have xl:xN < rws.length:=by omega
   refine ⟨fun σ' H'=>∃ (ks' td':List Int) (v3 v4:Option V),σ' = [some (.ref rl),some (.ref d),some (.ref tl),v3,v4]∧Dfs rws ks' td' no∧H' d = some (.dK (setK ks'))∧H' tl = some (.lst (td'.map V.int))∧Same H H'∧2 * (rws.length - ks'.length) + td'.length ≤ 2 * (rws.length - ks.length) + td0.length,?_,?_⟩
   ·rintro σ' H' ⟨ks',td',v3,v4,rfl,h1,h2,h3,h4,h5⟩
    refine ⟨_,?_,ks',td',v3,v4,rfl,rfl,h1,h2,h3,h4,by omega⟩
    rw [List.length_append,List.length_singleton]; omega
   ·simp! [tBM0]
    refine ⟨.inl ⟨rfl,_,.of ht⟩,tl,_,.int xN,rfl,rfl,ht,by simp,?_⟩
    have e1:((td0 ++ [(xN:Int)]).map V.int).dropLast = td0.map V.int:=by rw [List.map_append]; simp
    rw [e1]
    have ndt:d ≠ tl:=zhV hd ht (by intro z; cases z)
    have lt:td0.length ≤ 2 * rws.length:=by omega
    refine zfR (ks:=ks) (td:=td0) (H0:=H) (rws:=rws) (rs:=rs) (r:=rws[xN]) R F nd ntd D.pop mx (List.getElem?_eq_getElem xl) (by rw [zaj ndt]; exact hd) zaa lt (Same.new S ntd) fun ks' td' v4' H' h1 h2 h3 h4 h5=>?_
    exact ⟨ks',td',_,_,rfl,h1,h2,h3,h4,h5⟩
end
section
variable {P:Program} {w:World} {K:PySem.W.Frag} {mg:Str->Option Value} {base:Heap} {a:Ad}
theorem LW_sh:∀ p ∈ LW,(p.1 ∈ WRw->p.2.cps[0]? = some 112)∧(p.1 = "copy"->p.2 = "pp")∧(p.1 = "into"->p.2 = "ppk")∧(p.1 = "call"->p.2 = "pfq"):=by decide +kernel
theorem zbq.pl {words many:Int} {sg:List Sg} {ps:List Part} {p:Part} (h:zbq words many sg ps 112 p):∃ x,p = .inl x∧0 ≤ x∧x < 8 + words:=by
 rcases h with ⟨_,x,e,h1,h2⟩ | ⟨c,_⟩ | ⟨c,_⟩ | ⟨c,_⟩ | ⟨c,_⟩ | ⟨c,_⟩
 ·exact ⟨x,e,h1,h2⟩
 all_goals exact absurd c (by decide)
theorem zbq.df {words many:Int} {sg:List Sg} {ps:List Part} {p:Part} (h:zbq words many sg ps 102 p):∃ x,p = .inl x∧0 ≤ x∧x < sg.length:=by
 rcases h with ⟨c,_⟩ | ⟨c,_⟩ | ⟨c,_⟩ | ⟨_,x,e,h1,h2⟩ | ⟨c,_⟩ | ⟨c,_⟩
 rotate_left 3
 ·exact ⟨x,e,h1,h2⟩
 all_goals exact absurd c (by decide)
theorem RowOk.of {H:Hp} {words many:Int} {sg:List Sg} {r:Row} {us:List V} (F:zaH words many sg r) (PA:PartsAt H us r.2) (s2:sg.length = 2):RowOk (8 + words) r.1 us:=by
 obtain ⟨ls,m,l,pf⟩:=F
 obtain ⟨h1,h2,h3,h4⟩:=LW_sh _ m
 dsimp only at h1 h2 h3 h4
 have lu:=PA.len
 have at_:∀ (i c:Nat),ls.cps[i]? = some c->∃ v p,us[i]? = some v∧r.2[i]? = some p∧zch H v p∧zbq words many sg r.2 c p:=fun i c h=>by
  have il:i < ls.cps.size:=(Array.getElem?_eq_some_iff.mp h).1
  have e1:=List.getElem?_eq_getElem (l:=us) (i:=i) (by omega)
  have e2:=List.getElem?_eq_getElem (l:=r.2) (i:=i) (by omega)
  exact ⟨_,_,e1,e2,PA.at_ i _ _ e1 e2,pf.at_ i c _ h e2⟩
 have two:∀ (v w:V),us[0]? = some v->us[1]? = some w->∃ rest,us = v :: w :: rest:=fun v w g1 g2=>by
  match us,g1,g2 with
  | a :: b :: rest,g1,g2=>cases g1; cases g2; exact ⟨rest,rfl⟩
 refine ⟨fun c=>?_,fun c=>?_,fun c=>?_,fun c=>?_⟩
 ·obtain ⟨v,p,g1,_,g3,g4⟩:=at_ 0 112 (h1 c)
  obtain ⟨x,rfl,x0,x1⟩:=g4.pl
  cases (show v = .int x from g3)
  match us,g1 with
  | a :: rest,g1=>cases g1; exact ⟨x,rest,rfl,x0,x1⟩
 ·have e:=h2 c
  subst e
  obtain ⟨v,p,g1,_,g3,g4⟩:=at_ 0 112 (by decide)
  obtain ⟨v',p',k1,_,k3,k4⟩:=at_ 1 112 (by decide)
  obtain ⟨x,rfl,x0,x1⟩:=g4.pl
  obtain ⟨y,rfl,y0,y1⟩:=k4.pl
  cases (show v = .int x from g3)
  cases (show v' = .int y from k3)
  obtain ⟨rest,e⟩:=two _ _ g1 k1
  exact ⟨x,y,rest,e,y0,y1⟩
 ·have e:=h3 c
  subst e
  obtain ⟨v,p,g1,_,g3,g4⟩:=at_ 0 112 (by decide)
  obtain ⟨v',p',k1,_,k3,k4⟩:=at_ 1 112 (by decide)
  obtain ⟨x,rfl,x0,x1⟩:=g4.pl
  obtain ⟨y,rfl,y0,y1⟩:=k4.pl
  cases (show v = .int x from g3)
  cases (show v' = .int y from k3)
  obtain ⟨rest,e⟩:=two _ _ g1 k1
  exact ⟨x,y,rest,e,y0⟩
 ·have e:=h4 c
  subst e
  obtain ⟨v,p,g1,_,g3,g4⟩:=at_ 0 112 (by decide)
  obtain ⟨v',p',k1,_,k3,k4⟩:=at_ 1 102 (by decide)
  obtain ⟨x,rfl,x0,x1⟩:=g4.pl
  obtain ⟨y,rfl,y0,y1⟩:=k4.df
  cases (show v = .int x from g3)
  cases (show v' = .int y from k3)
  obtain ⟨rest,e⟩:=two _ _ g1 k1
  exact ⟨x,y,rest,e,y0,by omega⟩
theorem PgB.of {H:Hp} {pl:Addr} {das:List (Addr × Addr × List Addr)} {ds:List Df} (h:ProgAt H pl das ds) (l2:ds.length = 2):PgB H pl (das.map fun a=>(a.1,a.2.1)) (ds.map (·.1)) (fun i=>(ds.getD i (("",""),0,[])).2.1):=by
 refine ⟨by rw [h.top,List.map_map]; rfl,by rw [List.length_map,h.len,l2],by rw [List.length_map,l2],fun i a x h1 h2=>?_⟩
 rw [List.getElem?_map] at h1 h2
 obtain ⟨da,e1,rfl⟩:=Option.map_eq_some_iff.mp h1
 obtain ⟨d,e2,rfl⟩:=Option.map_eq_some_iff.mp h2
 rw [List.getD_eq_getElem?_getD,e2]
 exact (h.def_ i da d e1 e2).1
end
section
variable {P:Program} {w:World} {K:PySem.W.Frag} {mg:Str->Option Value} {base:Heap} {a:Ad}
abbrev Tbs:=Option (Nat × Nat × List Int × List Pr)
noncomputable def TbsV (H:Hp) (tv:V):Tbs->Prop
 | none=>tv = .non
 | some (f0,at0,hs,ps)=>∃ (tl t l m:Addr) (us:List V),tv = .ref tl∧H tl = some (.lst [.ref t])∧H t = some (.tup [.int f0,.int at0,.ref l,.ref m])∧TabAt H l m us hs ps
noncomputable def tbAt (tb:Tbs) (f at_:Nat):Tb:=match tb with
 | none=>none
 | some (f0,at0,hs,ps)=>if f = f0∧at_ = at0 then some (hs,ps) else none
structure ToldAt (H:Hp) (D:Addr) (f:Nat) (tb:Tbs):Prop where
 ex:∃ kvs:List (Key × V),H D = some (.dK kvs)∧kvs.length ≤ 1∧∀ at_:Nat,TbV H ((valV kvs (.inl at_)).getD .non) (tbAt tb f at_)
theorem TbsV.same {H H':Hp} {tv:V} {tb:Tbs} (h:TbsV H tv tb) (S:Same H H'):TbsV H' tv tb:=by
 match tb,h with
 | none,h=>exact h
 | some (f0,at0,hs,ps),h =>
  obtain ⟨tl,t,l,m,us,e,h1,h2,h3⟩:=h
  exact ⟨tl,t,l,m,us,e,S _ _ h1,S _ _ h2,h3.same S⟩
theorem ToldAt.same {H H':Hp} {D:Addr} {f:Nat} {tb:Tbs} (h:ToldAt H D f tb) (S:Same H H'):ToldAt H' D f tb:=by
 obtain ⟨kvs,h1,h2,h3⟩:=h.ex
 exact ⟨kvs,S _ _ h1,h2,fun i=>(h3 i).same S⟩
noncomputable def sp_tbs:Sp:=fun vs H Q _=>∃ (f:Nat) (tv:V) (tb:Tbs),vs = [.int f,tv]∧TbsV H tv tb∧∀ (D:Addr) (H':Hp),H D = none->Same H H'->ToldAt H' D f tb->Q (.ref D) H'
set_option maxHeartbeats 2000000 in
theorem zcc (T:Txt K mg a):FnOk P w K mg base CX0 1 a.f_tables_of a.d_tables_of ["f","tables"] sp_tbs:=by
 refine T.F_tables_of.okC sc_tables_of (fun vs H Q E h=>?_) (fun cdv A outer s H vs Q E hr h=>?_)
 ·obtain ⟨f,tv,tb,rfl,_⟩:=h
  rfl
 ·obtain ⟨f,tv,tb,rfl,TV,q⟩:=h
  have hu:=zaT hr
  refine ⟨_,(@zad _ _ _ _ _ (@zaD _ _ _ _ _ _ _ _ (za9 (zcg (pv 1))) (@zaf _ _ _ (zao pe_dnewK)) pss_nil)
   (@zad _ _ _ _ _ (zaw (i:=2) sc_tables_of.nd (by rfl) (Or.inl rfl) pe_dnewK)
   (@zad _ _ _ _ _ (za0 PassesOwn.never (by rfl) (zaI (pv 1)) (zaq (i:=3) sc_tables_of.nd (by rfl) (Or.inl rfl))
   (@zaf _ _ _ (@zaD _ _ _ _ _ _ _ _ (zak op_eq (zah ix_F (pv 3) zag (fun _ _=>rfl)) (pv 0) (zat _)) (@zaf _ _ _ (zdC hu (pv 2) (zah ix_F (pv 3) zag (fun _ _=>rfl)) (zas (zae (zah ix_F (pv 3) zag (fun _ _=>rfl)) (zae (zah ix_F (pv 3) zag (fun _ _=>rfl)) pa_nil))) (by rfl))) pss_nil)))
   (@zaf _ _ _ (zao (pv 2)))))),?_⟩
  match tb,TV with
  | none,e =>
   have e:tv = .non:=e
   subst e
   simp! []
   intro D nD
   exact q D _ nD (.laid nD) ⟨[],zaa,by simp,fun i=>.inl ⟨rfl,rfl⟩⟩
  | some (f0,at0,hs,ps),e =>
   obtain ⟨tl,t,l,m,us,rfl,h1,h2,h3⟩:=e
   simp! []
   intro D nD
   have S1:Same H (upd H D (.dK [])):=.laid nD
   have e1:upd H D (.dK []) D = some (.dK []):=zaa
   revert S1 e1
   generalize upd H D (.dK []) = H1
   intro S1 e1
   refine forL (H1:=H1) tl [V.ref t] (fun Q2 h2=>by simp! []; exact h2) (fun i σ H2=>∃ v3:Option V,σ = [some (V.int f),some (V.ref tl),some (V.ref D),v3]∧Same H H2∧(i = 0->H2 D = some (.dK []))∧(i = 1->ToldAt H2 D f (some (f0,at0,hs,ps)))) ⟨_,rfl,S1,fun _=>e1,fun z=>by cases z⟩ (fun i σ H2 _ ⟨_,_,S2,_⟩=>.of (S2 _ _ h1)) ?_ ?_
   ·rintro i x σ H2 hx ⟨v3,rfl,S2,e2,_⟩
    match i,hx with
    | 0,hx =>
    cases hx
    have e2:=e2 rfl
    have h22:=S2 _ _ h2
    by_cases c:f0 = f
    ·simp! [h22,c]
     intro p np
     have k1:=zab (u:=.tup [V.ref l,V.ref m]) h22 np
     have k2:=zab (u:=.tup [V.ref l,V.ref m]) e2 np
     refine ⟨_,by rw [k1]; rfl,_,za8,.inl at0,rfl,[],k2,by simp,zaz (fun c o e=>zab (S2 _ _ e) np) nD,fun z=>z.elim,fun _=>?_⟩
     have pD:p ≠ D:=fun z=>by rw [z,e2] at np; cases np
     refine ⟨[(.inl (at0:Int),.ref p)],by rw [zaa]; rfl,by simp,fun i=>?_⟩
     have SX:Same H (upd (upd H2 p (.tup [V.ref l,V.ref m])) D (.dK (putK [] (.inl (at0:Int)) (.ref p)))):=zaz (fun c o e=>zab (S2 _ _ e) np) nD
     by_cases ci:i = at0
     ·subst ci
      have ev:(valV [((.inl (i:Int):Key),V.ref p)] (.inl (i:Int))).getD .non = .ref p:=by simp [valV]
      rw [ev]
      exact .inr ⟨p,l,m,us,hs,ps,rfl,by simp [tbAt],by rw [zaj pD]; exact zaa,h3.same SX⟩
     ·have ev:(valV [((.inl (at0:Int):Key),V.ref p)] (.inl (i:Int))).getD .non = .non:=by
       have:¬ ((at0:Int) = (i:Int)):=fun z=>ci (Int.ofNat.inj z).symm
       simp [valV,this]
      rw [ev]
      exact .inl ⟨rfl,by simp [tbAt,ci]⟩
    ·have c':¬ ((f0:Int) = (f:Int)):=fun z=>c (Int.ofNat.inj z)
     simp! [h22,c,c']
     refine ⟨S2,fun z=>z.elim,fun _=>⟨[],e2,by simp,fun i=>.inl ⟨rfl,?_⟩⟩⟩
     exact if_neg (fun z:f = f0∧i = at0=>c z.1.symm)
    | i + 1,hx=>simp at hx
   ·rintro σ H2 ⟨v3,rfl,S2,_,e2⟩
    simp! []
    exact q D H2 nD S2 (e2 rfl)
end
section
variable {P:Program} {w:World} {K:PySem.W.Frag} {mg:Str->Option Value} {base:Heap} {a:Ad}
theorem KV.scalK {v w:V} (h:KV v) (h':KV w):scal v w = true:=by
 rcases h with rfl | ⟨s,_,rfl⟩ | ⟨i,_,rfl⟩ <;> rcases h' with rfl | ⟨s',_,rfl⟩ | ⟨i',_,rfl⟩ <;> rfl
noncomputable def shV (ks os:List V):List V:=(ks.zip os).map fun p=>if p.1 = p.2 then p.1 else .non
noncomputable def sp_shared:Sp:=fun vs H Q _=>∃ (kl ol:Addr) (ks os:List V),vs = [.ref kl,.ref ol]∧H kl = some (.lst ks)∧H ol = some (.lst os)∧(∀ k ∈ ks,KV k)∧(∀ k ∈ os,KV k)∧ks.length = os.length∧ks.length ≤ 24∧∀ (l:Addr) (H':Hp),H l = none->Same H H'->H' l = some (.lst (shV ks os))->Q (.ref l) H'
set_option maxHeartbeats 2000000 in
theorem zgi (T:Txt K mg a):FnOk P w K mg base CX0 1 a.f_shared a.d_shared ["kinds","others"] sp_shared:=by
 refine T.F_shared.okC sc_shared (fun vs H Q E h=>?_) (fun cdv A outer s H vs Q E hr h=>?_)
 ·obtain ⟨kl,ol,ks,os,rfl,_⟩:=h
  rfl
 ·obtain ⟨kl,ol,ks,os,rfl,hk,ho,kv,ov,ll,l24,q⟩:=h
  have hu:=zaT hr
  refine ⟨_,(@zaf _ _ _ (zao (zaW (N':=["kind","other"]) (cap:=[none,none]) ⟨rfl,(by decide +kernel),(by decide +kernel),(by rfl),rfl,(by rfl)⟩ (by rfl) (zgx (by rfl) T.z_zip (@zac _ _ _ _ _ _ (pv 0) (@zac _ _ _ _ _ _ (pv 1) pa_nil))) (fun C_ ex_ s_ H_=>(zbo (n:=2) (by rfl) (zaA (zaq (i:=0) (show (["kind","other"]:List Str).Nodup by decide +kernel) (by rfl) (Or.inl rfl)) (zaA (zaq (i:=1) (show (["kind","other"]:List Str).Nodup by decide +kernel) (by rfl) (Or.inl rfl)) pgs_nil)))) (zbS (zaO (by rfl) (zaO (by rfl) zbi))) (fun C_ ex_ s_ H_=>zaJ) (fun C_ ex_ s_ H_=>(za2 (zak op_eq (pv 0) (pv 1) (zat _)) (pv 0) zaR))))),?_⟩
  simp! []
  refine zhz (H1:=H) kl ol ks os (fun p=>some (if p.1 = p.2 then p.1 else .non)) (fun Q2 h2=>by simp! []; exact h2) (.of hk) (.of ho) (by rw [sizeLine_eq]; omega) ?_ ?_
  ·intro p H2 R N b hp S2 hb hR hN
   obtain ⟨m1,m2⟩:=List.of_mem_zip (a:=p.1) (b:=p.2) hp
   have sc:=(kv _ m1).scalK (ov _ m2)
   refine za7 hb rfl ?_
   simp! [zaG,tTrue]
   refine ⟨sc,?_⟩
   by_cases c:p.1 = p.2
   ·rw [if_pos c]
    exact hR _ _ (by rw [if_pos c]) (Same.refl _)
   ·rw [if_neg c]
    exact hR _ _ (by rw [if_neg c]) (Same.refl _)
  ·intro D H2 nD S2 e2
   refine q D H2 nD S2 ?_
   rw [e2]
   unfold shV
   show some (HO.lst (List.filterMap (some ∘ fun p:V × V=>if p.1 = p.2 then p.1 else V.non) _)) = _
   rw [List.filterMap_eq_map]
end
section
variable {P:Program} {w:World} {K:PySem.W.Frag} {mg:Str->Option Value} {base:Heap} {a:Ad}
theorem Prs.refs {H:Hp} {us:List V} {ps:List Pr} (h:Prs H us ps):∃ uas:List Addr,us = uas.map V.ref∧uas.length = ps.length∧∀ (k:Nat) (r:Addr) (p:Pr),uas[k]? = some r->ps[k]? = some p->H r = some (.tup [.int p.1,.int p.2]):=by
 induction h with
 | nil=>exact ⟨[],rfl,rfl,fun k r p h=>by simp at h⟩
 | cons e _ ih =>
  rename_i q s b vs ps _
  obtain ⟨uas,e1,e2,e3⟩:=ih
  refine ⟨q :: uas,by rw [List.map_cons,e1],by rw [List.length_cons,List.length_cons,e2],fun k r p h1 h2=>?_⟩
  match k,h1,h2 with
  | 0,h1,h2=>cases h1; cases h2; exact e
  | k + 1,h1,h2=>exact e3 k r p h1 h2
theorem Prw.app {H:Hp} {l:Addr} {ps qs:List (V × V)} {rs ts:List Addr} (top:H l = some (.lst ((rs ++ ts).map V.ref))) (l1:rs.length = ps.length) (l2:ts.length = qs.length) (h1:∀ (k:Nat) (r:Addr) (p:V × V),rs[k]? = some r->ps[k]? = some p->H r = some (.tup [p.1,p.2])) (h2:∀ (k:Nat) (r:Addr) (p:V × V),ts[k]? = some r->qs[k]? = some p->H r = some (.tup [p.1,p.2])):Prw H l (ps ++ qs) (rs ++ ts):=by
 refine ⟨top,by rw [List.length_append,List.length_append,l1,l2],fun k r p g1 g2=>?_⟩
 by_cases c:k < rs.length
 ·rw [List.getElem?_append_left c] at g1
  rw [List.getElem?_append_left (by omega)] at g2
  exact h1 k r p g1 g2
 ·rw [List.getElem?_append_right (by omega)] at g1
  rw [List.getElem?_append_right (by omega),← l1] at g2
  exact h2 _ r p g1 g2
noncomputable def tbD:Tb->List (V × V)
 | none=>[]
 | some (hs,ps)=>hs.map (fun p=>(V.int p,V.str "h")) ++ ps.map fun q=>(V.int q.1,V.int q.2)
theorem zbk {r:Row} {k:Nat}:scV (zaF r k) = true:=by
 unfold zaF
 split <;> rfl
theorem zhq {w:Str}:∀ (l:List (Str × List (Nat × Str))),(∀ p ∈ l,p.2.length ≤ 2)->((l.lookup w).getD []).length ≤ 2
 | [],_=>Nat.zero_le _
 | p :: l,h=>by
  rw [List.lookup_cons]
  split
  ·exact h p List.mem_cons_self
  ·exact zhq l fun q hq=>h q (List.mem_cons_of_mem _ hq)
theorem ziG {sg:List Sg} {gives:Str} {r:Row} (SF:SgFit sg):(usV sg gives r).length ≤ 1000∧∀ p ∈ usV sg gives r,scV p.1 = true∧scV p.2 = true:=by
 unfold usV
 split
 ·split
  ·rename_i g l _
   refine ⟨?_,fun p hp=>?_⟩
   ·rw [List.length_zip,List.length_map,List.length_map]
    have e0:(sg.getD g.toNat ("","")).1.cps.toList.length = (sg.getD g.toNat ("","")).1.cps.size:=Array.length_toList
    have:(sg.getD g.toNat ("","")).1.cps.size ≤ 6:=by
     rw [List.getD_eq_getElem?_getD]
     cases e:sg[g.toNat]? with
     | none=>exact Nat.zero_le _
     | some z=>exact SF.sz _ (List.mem_of_getElem? e)
    omega
   ·obtain ⟨m1,m2⟩:=List.of_mem_zip (a:=p.1) (b:=p.2) hp
    obtain ⟨_,_,e1⟩:=List.mem_map.mp m1
    obtain ⟨_,_,e2⟩:=List.mem_map.mp m2
    rw [← e1,← e2]
    exact ⟨rfl,rfl⟩
  ·exact ⟨Nat.zero_le _,fun p hp=>by cases hp⟩
 ·split
  ·exact ⟨by simp,fun p hp=>by rw [List.mem_singleton.mp hp]; exact ⟨zbk,rfl⟩⟩
  ·split
   ·exact ⟨by simp,fun p hp=>by rw [List.mem_singleton.mp hp]; exact ⟨zbk,zbk⟩⟩
   ·split
    ·refine ⟨by simp,fun p hp=>?_⟩
     rcases List.mem_cons.mp hp with rfl | hp
     ·exact ⟨zbk,zbk⟩
     ·rw [List.mem_singleton.mp hp]; exact ⟨zbk,rfl⟩
    ·refine ⟨?_,fun p hp=>?_⟩
     ·rw [List.length_map]
      have:(ust r.1).length ≤ 2:=zhq UST (by decide)
      omega
     ·obtain ⟨q,_,rfl⟩:=List.mem_map.mp hp
      exact ⟨zbk,rfl⟩
noncomputable def sp_dues:Sp:=fun vs H Q _=>∃ (pl:Addr) (f at_:Nat) (tv:V) (tb:Tb) (das:List (Addr × Addr × List Addr)) (ds:List Df) (d:Df) (r:Row) (words many:Int),vs = [.ref pl,.int f,.int at_,tv]∧ProgAt H pl das ds∧ds[f]? = some d∧d.2.2[at_]? = some r∧zaH words many (ds.map (·.1)) r∧SgFit (ds.map (·.1))∧TbV H tv tb∧(tbD tb).length ≤ 100 ∧
 ∀ (l:Addr) (rs:List Addr) (H':Hp),H l = none->Same H H'->Prw H' l (usV (ds.map (·.1)) d.1.2 r ++ tbD tb) rs->Q (.ref l) H'
set_option maxHeartbeats 2000000 in
theorem zfx (T:Txt K mg a):FnOk P w K mg base CX0 2 a.f_dues_at a.d_dues_at ["program","f","at","table"] sp_dues:=by
 refine T.F_dues_at.okC sc_dues_at (fun vs H Q E h=>?_) (fun cdv A outer s H vs Q E hr h=>?_)
 ·obtain ⟨pl,f,at_,tv,tb,das,ds,d,r,words,many,rfl,_⟩:=h
  rfl
 ·obtain ⟨pl,f,at_,tv,tb,das,ds,d,r,words,many,rfl,PR,hd,hr0,RF,SF,TV,t100,q⟩:=h
  have hu:=zaT hr
  refine ⟨_,(@zad _ _ _ _ _ (zaw (i:=4) sc_dues_at.nd (by rfl) (Or.inl rfl) (zal (zhH T) (hr.mono (by decide)) (by rfl) T.m_uses T.F_uses.kp T.b_uses .nil zaC (@zac _ _ _ _ _ _ (pv 0) (@zac _ _ _ _ _ _ (pv 1) (zae (zah ix_F (zah ix_F (zah ix_F (pv 0) (pv 1) (fun _ _=>rfl)) zag (fun _ _=>rfl)) (pv 2) (fun _ _=>rfl)) pa_nil)))))
   (@zad _ _ _ _ _ (@zaD _ _ _ _ _ _ _ _ (za9 (zcI (pv 3))) (@zad _ _ _ _ _ (za6 (zct PySem.F.plainAttrs_list PySem.F.slot_list_extend PySem.F.type_list_extend mt_extend (pv 4) (zae (zaW (N':=["p"]) (cap:=[none]) ⟨rfl,(by decide +kernel),(by decide +kernel),(by rfl),rfl,(by rfl)⟩ (by rfl) (zaI (zah ix_F (pv 3) zag (fun _ _=>rfl))) (fun C_ ex_ s_ H_=>(zaq (i:=0) (show (["p"]:List Str).Nodup by decide +kernel) (by rfl) (Or.inl rfl))) zaS (fun C_ ex_ s_ H_=>zaJ) (fun C_ ex_ s_ H_=>(zas (@zac _ _ _ _ _ _ (pv 0) (@zam _ _ _ _ _ _ pa_nil))))) pa_nil)))
   (@zaf _ _ _ (za6 (zct PySem.F.plainAttrs_list PySem.F.slot_list_extend PySem.F.type_list_extend mt_extend (pv 4) (zae (zah ix_F (pv 3) zag (fun _ _=>rfl)) pa_nil))))) pss_nil)
   (@zaf _ _ _ (zao (pv 4))))),?_⟩
  have lp:=PR.len
  have fl:=(List.getElem?_eq_some_iff.mp hd).1
  have hda:=List.getElem?_eq_getElem (l:=das) (i:=f) (by omega)
  obtain ⟨g1,g2⟩:=PR.def_ f _ _ hda hd
  have topp:=PR.top
  have ap:atI (das.map fun a=>V.ref a.1) ((f:Nat):Int) = some (.ref das[f].1):=zau (by rw [List.getElem?_map,hda]; rfl)
  obtain ⟨rq,hrs⟩:∃ rq,das[f].2.2[at_]? = some rq:=⟨_,List.getElem?_eq_getElem (by rw [g2.len]; exact (List.getElem?_eq_some_iff.mp hr0).1)⟩
  have RA:=g2.row at_ _ _ hrs hr0
  have topr:=g2.top
  have ar:atI (das[f].2.2.map V.ref) ((at_:Nat):Int) = some (.ref rq):=zau (by rw [List.getElem?_map,hrs]; rfl)
  generalize hG:tSeq (tIfS _ _ _) _ = tail
  simp! [topp,ap,g1,topr,ar]
  refine ⟨pl,_,f,das,ds,d,r,words,many,rfl,PR,hd,RA,RF,SF,fun l rs H1 nl S1 P1=>?_⟩
  subst hG
  rcases TV with ⟨rfl,rfl⟩ | ⟨t,hl,m,us,hs,ps,rfl,rfl,h1,h2⟩
  ·simp! []
   exact q l rs H1 nl S1 (by rw [show tbD none = [] from rfl,List.append_nil]; exact P1)
  ·have k1:=S1 _ _ h1
   have k2:=h2.same S1
   have k3:=k2.hl
   have k4:=k2.hm
   have k5:=P1.top
   simp! [tBM,k1,k3]
   have th:(hs.length:Nat) + ps.length ≤ 100:=by have:=t100; unfold tbD at this; rw [List.length_append,List.length_map,List.length_map] at this; exact this
   have ul:rs.length ≤ 1000:=by rw [P1.len]; exact (ziG SF).1
   obtain ⟨uas,rfl,lu,ua⟩:=k2.pr.refs
   refine ⟨.inl ⟨rfl,_,.of k5⟩,?_⟩
   refine zeo (H1:=H1) hl (hs.map V.int) (fun Q2 h2=>by simp! [k1]; exact h2) (.of k3) (fun D i ys H2=>∃ ts:List Addr,ys = ts.map V.ref∧ts.length = i∧Same H1 H2∧H2 D = some (.lst ys)∧∀ (k:Nat) (r':Addr) (p:Int),ts[k]? = some r'->hs[k]? = some p->H2 r' = some (.tup [.int p,.str "h"])) (fun D nD=>⟨[],rfl,rfl,.laid nD,zaa,fun k r' p h=>by simp at h⟩) ?_ (by rw [sizeLine_eq,List.length_map]; omega) ?_ ?_
   ·rintro D nD i ys H2 hi ⟨ts,rfl,lt,S2,e2,_⟩
    exact ⟨.of (S2 _ _ k3),e2,by rw [List.length_map]; omega⟩
   ·rintro D nD i x ys H2 hx ⟨ts,rfl,lt,S2,e2,ta⟩
    obtain ⟨z,hz,rfl⟩:=zay hx
    simp! [zaG,tTrue]
    intro p np
    have pD:p ≠ D:=fun e=>by rw [e,e2] at np; cases np
    refine ⟨zab e2 np,ts ++ [p],by rw [List.map_append]; rfl,by rw [List.length_append,lt]; rfl,zaz (fun c o e=>zab (S2 _ _ e) np) nD,fun k r' y h1 h2=>?_⟩
    by_cases c:k < ts.length
    ·rw [List.getElem?_append_left c] at h1
     have e:=ta k r' y h1 h2
     rw [zaj (fun z=>by rw [z,e2] at e; cases e)]
     exact zab e np
    ·have kl:=(List.getElem?_eq_some_iff.mp h1).1
     rw [List.length_append,List.length_singleton] at kl
     have ke:k = i:=by omega
     subst ke
     rw [List.getElem?_append_right (by omega),lt,Nat.sub_self] at h1
     rw [hz] at h2
     cases h1
     cases h2
     rw [zaj pD]
     exact zaa
   ·rintro D nD ys H2 ⟨ts,rfl,lt,S2,e2,ta⟩
    rw [List.length_map] at lt
    have k6:=S2 _ _ k5
    refine ⟨l,D,_,_,rfl,rfl,k6,e2,by rw [sizeLine_eq,List.length_map,List.length_map]; omega,?_⟩
    have ml:m ≠ l:=fun z=>by
     have:=h2.hm
     rw [z,nl] at this; cases this
    have tl:t ≠ l:=fun z=>by rw [z,nl] at h1; cases h1
    have k7:upd H2 l (.lst (rs.map V.ref ++ ts.map V.ref)) t = some (.tup [.ref hl,.ref m]):=by rw [zaj tl]; exact S2 _ _ k1
    have k8:upd H2 l (.lst (rs.map V.ref ++ ts.map V.ref)) m = some (.lst (uas.map V.ref)):=by rw [zaj ml]; exact S2 _ _ k4
    have k9:upd H2 l (.lst (rs.map V.ref ++ ts.map V.ref)) l = some (.lst (rs.map V.ref ++ ts.map V.ref)):=zaa
    refine ⟨.inl ⟨rfl,_,.of k9⟩,_,by rw [k7]; rfl,_,za8,l,m,_,_,rfl,rfl,k9,k8,by rw [sizeLine_eq,List.length_append,List.length_map,List.length_map,List.length_map]; omega,?_⟩
    rw [zcV]
    have tp:∀ (r':Addr) (xs:List V),H2 r' = some (.tup xs)->upd H2 l (.lst (rs.map V.ref ++ ts.map V.ref ++ uas.map V.ref)) r' = some (.tup xs):=fun r' xs e=>by
     rw [zaj (fun z=>by rw [z,k6] at e; cases e)]; exact e
    refine q l (rs ++ (ts ++ uas)) _ nl (zaz (fun c o e=>S2 _ _ (S1 _ _ e)) nl) ?_
    refine Prw.app (by rw [zaa,List.map_append,List.map_append,List.append_assoc]) P1.len (by unfold tbD; rw [List.length_append,List.length_append,List.length_map,List.length_map,lt,lu]) (fun k r' p g1 g2=>tp _ _ (S2 _ _ (P1.at_ k r' p g1 g2))) fun k r' p g1 g2=>?_
    unfold tbD at g2
    by_cases c:k < ts.length
    ·rw [List.getElem?_append_left c] at g1
     rw [List.getElem?_append_left (by rw [List.length_map]; omega),List.getElem?_map] at g2
     obtain ⟨y,hy,rfl⟩:=Option.map_eq_some_iff.mp g2
     exact tp _ _ (ta k r' y g1 hy)
    ·rw [List.getElem?_append_right (by omega)] at g1
     rw [List.getElem?_append_right (by rw [List.length_map]; omega),List.length_map,← lt,List.getElem?_map] at g2
     obtain ⟨y,hy,rfl⟩:=Option.map_eq_some_iff.mp g2
     exact tp _ _ (S2 _ _ (ua _ r' y g1 hy))
end
section
variable {P:Program} {w:World} {K:PySem.W.Frag} {mg:Str->Option Value} {base:Heap} {a:Ad}
noncomputable def ltb (tb:Tbs) (f at_:Nat):Tb:=match tb with
 | none=>none
 | some (f0,at0,hs,ps)=>if f = f0∧at_ = at0 then some (hs,ps) else some ([],[])
noncomputable def sp_ltable:Sp:=fun vs H Q _=>∃ (f at_:Nat) (tv:V) (tb:Tbs),vs = [tv,.int f,.int at_]∧TbsV H tv tb∧∀ (v:V) (H':Hp),Same H H'->TbV H' v (ltb tb f at_)->Q v H'
set_option maxHeartbeats 2000000 in
theorem zbs (T:Txt K mg a):FnOk P w K mg base CX0 1 a.f_law_table a.d_law_table ["tables","f","at"] sp_ltable:=by
 refine T.F_law_table.okC sc_law_table (fun vs H Q E h=>?_) (fun cdv A outer s H vs Q E hr h=>?_)
 ·obtain ⟨f,at_,tv,tb,rfl,_⟩:=h
  rfl
 ·obtain ⟨f,at_,tv,tb,rfl,TV,q⟩:=h
  have hu:=zaT hr
  refine ⟨_,(@zad _ _ _ _ _ (@zaD _ _ _ _ _ _ _ _ (za9 (zcg (pv 0))) (@zaf _ _ _ (zao zaR)) pss_nil)
   (@zad _ _ _ _ _ (za0 PassesOwn.never (by rfl) (zaI (pv 0)) (zaq (i:=3) sc_law_table.nd (by rfl) (Or.inl rfl))
   (@zaf _ _ _ (@zaD _ _ _ _ _ _ _ _ (PW.pt (zcm (zak op_eq (zah ix_F (pv 3) zag (fun _ _=>rfl)) (pv 1) (zat _)) (zbP (zak op_eq (zah ix_F (pv 3) zag (fun _ _=>rfl)) (pv 2) (zat _))))) (@zaf _ _ _ (zao (zas (zae (zah ix_F (pv 3) zag (fun _ _=>rfl)) (zae (zah ix_F (pv 3) zag (fun _ _=>rfl)) pa_nil))))) pss_nil)))
   (@zaf _ _ _ (zao (zas (zae (zav pa_nil) (zae (zav pa_nil) pa_nil))))))),?_⟩
  match tb,TV with
  | none,e =>
   have e:tv = .non:=e
   subst e
   simp! []
   exact q _ H (Same.refl _) (.inl ⟨rfl,rfl⟩)
  | some (f0,at0,hs,ps),e =>
   obtain ⟨tl,t,l,m,us,rfl,h1,h2,h3⟩:=e
   generalize hG:tRet _ = tail
   simp! []
   refine forL (H1:=H) tl [V.ref t] (fun Q2 h2=>by simp! []; exact h2) (fun i σ H2=>∃ v3:Option V,σ = [some (V.ref tl),some (V.int f),some (V.int at_),v3]∧Same H H2∧(i = 1->¬ (f = f0∧at_ = at0))) ⟨_,rfl,Same.refl _,fun z=>by cases z⟩ (fun i σ H2 _ ⟨_,_,S2,_⟩=>.of (S2 _ _ h1)) ?_ ?_
   ·rintro i x σ H2 hx ⟨v3,rfl,S2,_⟩
    match i,hx with
    | 0,hx =>
    cases hx
    have h22:=S2 _ _ h2
    subst hG
    by_cases c:f0 = f
    ·by_cases c2:at0 = at_
     ·simp! [h22,c,c2]
      intro p np
      refine q _ _ (S2.step np) (.inr ⟨p,l,m,us,hs,ps,rfl,?_,zaa,h3.same (S2.step np)⟩)
      exact if_pos ⟨c.symm,c2.symm⟩
     ·have c':¬ ((at0:Int) = (at_:Int)):=fun z=>c2 (Int.ofNat.inj z)
      simp! [h22,c,c2,c']
      exact ⟨S2,fun _ z=>c2 z.symm⟩
    ·have c':¬ ((f0:Int) = (f:Int)):=fun z=>c (Int.ofNat.inj z)
     simp! [h22,c,c']
     exact ⟨S2,fun _ z=>c z.1.symm⟩
    | i + 1,hx=>simp at hx
   ·rintro σ H2 ⟨v3,rfl,S2,n2⟩
    subst hG
    simp! []
    intro p np p1 np1 p2 np2
    have S3:=((S2.step np (u:=.lst [])).step np1 (u:=.lst [])).step np2 (u:=.tup [V.ref p,V.ref p1])
    refine q _ _ S3 (.inr ⟨p2,p,p1,[],[],[],rfl,if_neg (n2 rfl),zaa,zab (zab zaa np1) np2,zab zaa np2,.nil⟩)
end
section
variable {P:Program} {w:World} {K:PySem.W.Frag} {mg:Str->Option Value} {base:Heap} {a:Ad}
noncomputable def rIn_ (w:Str) (is:List Int):Row:=(w,is.map Sum.inl)
theorem za5 {H:Hp} {q:Addr} {w:Str} {is:List Int} (e:H q = some (.tup (.str w :: is.map V.int))):zbe H q (rIn_ w is):=⟨is.map V.int,e,(by show (is.map V.int).length = (is.map Sum.inl).length; rw [List.length_map,List.length_map]),fun i v p h1 h2=>by
 have h2':(is.map (Sum.inl (β:=List Int)))[i]? = some p:=h2
 rw [List.getElem?_map] at h1 h2'
 obtain ⟨y,hy,rfl⟩:=Option.map_eq_some_iff.mp h1
 rw [hy] at h2'
 cases h2'
 rfl⟩
noncomputable def zb8 (words many:Int) (nsg:Nat) (c:Nat) (x:Int):Prop:=(c = 112∧0 ≤ x∧x < 8 + words) ∨ (c = 107∧0 ≤ x∧x < 10) ∨ (c = 116∧0 ≤ x∧x < many) ∨ (c = 105∧-(10 ^ 60) < x∧x < 10 ^ 60)
theorem zbC {words many:Int} {sg:List Sg} {w ls:Str} {is:List Int} (m:(w,ls) ∈ LW) (l:is.length = ls.cps.size) (h:∀ (i c:Nat) (x:Int),ls.cps[i]? = some c->is[i]? = some x->zb8 words many sg.length c x):zaH words many sg (rIn_ w is):=by
 refine ⟨ls,m,by show (is.map Sum.inl).length = _; rw [List.length_map,l],⟨fun i c p h1 h2=>?_⟩⟩
 have h2':(is.map (Sum.inl (β:=List Int)))[i]? = some p:=h2
 rw [List.getElem?_map] at h2'
 obtain ⟨x,hx,rfl⟩:=Option.map_eq_some_iff.mp h2'
 rcases h i c x h1 hx with ⟨e,h⟩ | ⟨e,h⟩ | ⟨e,h⟩ | ⟨e,h⟩
 ·exact .inl ⟨e,x,rfl,h⟩
 ·exact .inr (.inl ⟨e,x,rfl,h⟩)
 ·exact .inr (.inr (.inl ⟨e,x,rfl,h⟩))
 ·exact .inr (.inr (.inr (.inr (.inl ⟨e,x,rfl,h⟩))))
theorem let1 {cs:Array Nat} {a:Nat} {x:Int} {words many:Int} {n:Nat} (e:cs = #[a]) (h:zb8 words many n a x):∀ (i c:Nat) (y:Int),cs[i]? = some c->([x]:List Int)[i]? = some y->zb8 words many n c y:=fun i c y h1 h2=>by
 subst e
 match i,h1,h2 with
 | 0,h1,h2=>cases h1; cases h2; exact h
 | i + 1,h1,h2=>simp at h2
theorem let2 {cs:Array Nat} {a b:Nat} {x y:Int} {words many:Int} {n:Nat} (e:cs = #[a,b]) (h:zb8 words many n a x) (h':zb8 words many n b y):∀ (i c:Nat) (z:Int),cs[i]? = some c->([x,y]:List Int)[i]? = some z->zb8 words many n c z:=fun i c z h1 h2=>by
 subst e
 match i,h1,h2 with
 | 0,h1,h2=>cases h1; cases h2; exact h
 | 1,h1,h2=>cases h1; cases h2; exact h'
 | i + 2,h1,h2=>simp at h2
theorem let3 {cs:Array Nat} {a b d:Nat} {x y v:Int} {words many:Int} {n:Nat} (e:cs = #[a,b,d]) (h:zb8 words many n a x) (h':zb8 words many n b y) (h'':zb8 words many n d v):∀ (i c:Nat) (z:Int),cs[i]? = some c->([x,y,v]:List Int)[i]? = some z->zb8 words many n c z:=fun i c z h1 h2=>by
 subst e
 match i,h1,h2 with
 | 0,h1,h2=>cases h1; cases h2; exact h
 | 1,h1,h2=>cases h1; cases h2; exact h'
 | 2,h1,h2=>cases h1; cases h2; exact h''
 | i + 3,h1,h2=>simp at h2
noncomputable def Pl (words x:Int):Prop:=0 ≤ x∧x < 8 + words
theorem Pl.l {words x many:Int} {n:Nat} (h:Pl words x):zb8 words many n 112 x:=.inl ⟨rfl,h⟩
theorem kl {words x many:Int} {n:Nat} (h0:0 ≤ x) (h1:x < 10):zb8 words many n 107 x:=.inr (.inl ⟨rfl,h0,h1⟩)
theorem il_ {words x many:Int} {n:Nat} (h0:-(10 ^ 60) < x) (h1:x < 10 ^ 60):zb8 words many n 105 x:=.inr (.inr (.inr ⟨rfl,h0,h1⟩))
section
variable {words many:Int} {sg:List Sg}
theorem ziL {p x:Int} (h:Pl words p) (x0:-(10 ^ 60) < x) (x1:x < 10 ^ 60):zaH words many sg (rIn_ "put" [p,x]):=zbC (ls:="pi") (by decide +kernel) rfl (let2 (by decide) h.l (il_ x0 x1))
theorem ziF {p:Int} (h:Pl words p):zaH words many sg (rIn_ "nil" [p]):=zbC (ls:="p") (by decide +kernel) rfl (let1 (by decide) h.l)
theorem ziU {p q:Int} (h:Pl words p) (h':Pl words q):zaH words many sg (rIn_ "copy" [p,q]):=zbC (ls:="pp") (by decide +kernel) rfl (let2 (by decide) h.l h'.l)
theorem ziB {p:Int} (h:Pl words p):zaH words many sg (rIn_ "back" [p]):=zbC (ls:="p") (by decide +kernel) rfl (let1 (by decide) h.l)
theorem f_ppp {w:Str} {p q r:Int} (hw:(w,("ppp":Str)) ∈ LW) (h:Pl words p) (h':Pl words q) (h'':Pl words r):zaH words many sg (rIn_ w [p,q,r]):=zbC (ls:="ppp") hw rfl (let3 (by decide) h.l h'.l h''.l)
theorem f_ppk {w:Str} {p q r:Int} (hw:(w,("ppk":Str)) ∈ LW) (h:Pl words p) (h':Pl words q) (h0:0 ≤ r) (h1:r < 10):zaH words many sg (rIn_ w [p,q,r]):=zbC (ls:="ppk") hw rfl (let3 (by decide) h.l h'.l (kl h0 h1))
end
structure PutR (r:Row):Prop where
 fit:∀ (many:Int) (sg:List Sg),zaH 6 many sg r
 w:r.1 ∈ (["put","nil","into","copy"]:List Str)
theorem zhZ {p:Int} (h0:0 ≤ p) (h1:p < 14):PutR (rIn_ "put" [p,5]):=⟨fun many sg=>ziL ⟨h0,by omega⟩ (by decide) (by decide),by show ("put":Str) ∈ _; decide⟩
theorem zh6 {p:Int} (h0:0 ≤ p) (h1:p < 14):PutR (rIn_ "nil" [p]):=⟨fun many sg=>ziF ⟨h0,by omega⟩,by show ("nil":Str) ∈ _; decide⟩
theorem zgF {p:Int} (h0:0 ≤ p) (h1:p < 14):PutR (rIn_ "into" [p,9,0]):=⟨fun many sg=>f_ppk (by decide +kernel) ⟨h0,by omega⟩ ⟨by decide,by decide⟩ (by decide) (by decide),by show ("into":Str) ∈ _; decide⟩
theorem zgW {p x:Int} (h0:0 ≤ p) (h1:p < 14) (x0:0 ≤ x) (x1:x < 14):PutR (rIn_ "copy" [p,x]):=⟨fun many sg=>ziU ⟨h0,by omega⟩ ⟨x0,by omega⟩,by show ("copy":Str) ∈ _; decide⟩
theorem zhR {H:Hp} {l q1 q2:Addr} {r1 r2:Row} (h:H l = some (.lst [.ref q1,.ref q2])) (h1:zbe H q1 r1) (h2:zbe H q2 r2):RowsOf H l [q1,q2] [r1,r2]:=⟨h,rfl,fun i p r g1 g2=>by
 match i,g1,g2 with
 | 0,g1,g2=>cases g1; cases g2; exact h1
 | 1,g1,g2=>cases g1; cases g2; exact h2
 | i + 2,g1,g2=>simp at g1⟩
end
section
variable {P:Program} {w:World} {K:PySem.W.Frag} {mg:Str->Option Value} {base:Heap} {a:Ad}
noncomputable def sp_put:Sp:=fun vs H Q _=>∃ (b c:Addr) (cs:List Int) (p:Int),vs = [.ref b,.int p]∧BagAt H b c cs∧0 ≤ p∧p < 14∧∀ (l q:Addr) (r:Row) (H':Hp),H' l = some (.lst [.ref q])->zbe H' q r->PutR r->BagAt H' b c cs->Kp b H H'->Q (.ref l) H'
set_option maxHeartbeats 2000000 in
theorem zfa (T:Txt K mg a):FnOk P w K mg base CX0 2 a.f_law_put a.d_law_put ["bag","p"] sp_put:=by
 refine T.F_law_put.okC sc_law_put (fun vs H Q E h=>?_) (fun cdv A outer s H vs Q E hr h=>?_)
 ·obtain ⟨b,c,cs,p,rfl,_⟩:=h
  rfl
 ·obtain ⟨b,c,cs,p,rfl,B,p0,p1,q⟩:=h
  have hu:=zaT hr
  refine ⟨_,(@zad _ _ _ _ _ (zaw (i:=2) sc_law_put.nd (by rfl) (Or.inl rfl) (zal (zaE T) (hr.mono (by decide)) (by rfl) T.m_law_draw T.F_law_draw.kp T.b_law_draw .nil zaC (@zac _ _ _ _ _ _ (pv 0) (@zai _ _ _ _ _ _ pa_nil))))
   (@zad _ _ _ _ _ (@zaD _ _ _ _ _ _ _ _ (zak op_eq (pv 2) zag (zat _)) (@zaf _ _ _ (zao (zav (zae (zas (@zam _ _ _ _ _ _ (@zac _ _ _ _ _ _ (pv 1) (@zai _ _ _ _ _ _ pa_nil)))) pa_nil)))) pss_nil)
   (@zad _ _ _ _ _ (@zaD _ _ _ _ _ _ _ _ (zak op_eq (pv 2) zag (zat _)) (@zaf _ _ _ (zao (zav (zae (zas (@zam _ _ _ _ _ _ (@zac _ _ _ _ _ _ (pv 1) pa_nil))) pa_nil)))) pss_nil)
   (@zad _ _ _ _ _ (@zaD _ _ _ _ _ _ _ _ (zak op_eq (pv 2) zag (zat _)) (@zaf _ _ _ (zao (zav (zae (zas (@zam _ _ _ _ _ _ (@zac _ _ _ _ _ _ (pv 1) (@zai _ _ _ _ _ _ (@zai _ _ _ _ _ _ pa_nil))))) pa_nil)))) pss_nil)
   (@zaf _ _ _ (zao (zav (zae (zas (@zam _ _ _ _ _ _ (@zac _ _ _ _ _ _ (pv 1) (zae (zaK op_add zag (zal (zaE T) (hr.mono (by decide)) (by rfl) T.m_law_draw T.F_law_draw.kp T.b_law_draw .nil zaC (@zac _ _ _ _ _ _ (pv 0) (@zai _ _ _ _ _ _ pa_nil)))) pa_nil)))) pa_nil)))))))),?_⟩
  simp! []
  refine ⟨b,c,cs,4,rfl,B,by decide,by decide,fun x H1 x0 x1 B1 k1=>?_⟩
  have fin:∀ (w:Str) (is:List Int) (H2:Hp) (t l:Addr),PutR (rIn_ w is)->BagAt H2 b c cs->Kp b H H2->H2 t = none->upd H2 t (.tup (.str w :: is.map V.int)) l = none->Q (.ref l) (upd (upd H2 t (.tup (.str w :: is.map V.int))) l (.lst [.ref t])):=fun w is H2 t l PT B2 k2 nt nl =>
   q l t (rIn_ w is) _ zaa (za5 (zab zaa nl)) PT ((B2.laid nt).laid nl) ((k2.laid nt).laid nl)
  simp! []
  refine ite2 (fun _=>?_) fun _=>ite2 (fun _=>?_) fun _=>ite2 (fun _=>?_) fun _=>?_
  ·exact fun t nt l nl=>fin "put" [p,5] H1 t l (zhZ p0 p1) B1 k1 nt nl
  ·exact fun t nt l nl=>fin "nil" [p] H1 t l (zh6 p0 p1) B1 k1 nt nl
  ·exact fun t nt l nl=>fin "into" [p,9,0] H1 t l (zgF p0 p1) B1 k1 nt nl
  ·refine ⟨b,c,cs,6,rfl,B1,by decide,by decide,fun y H2 y0 y1 B2 k2=>?_⟩
   exact ⟨y,rfl,fun t nt l nl=>fin "copy" [p,8 + y] H2 t l (zgW p0 p1 (by omega) (by omega)) B2 (k1.trans k2) nt nl⟩
end
section
variable {P:Program} {w:World} {K:PySem.W.Frag} {mg:Str->Option Value} {base:Heap} {a:Ad}
noncomputable def rowU (r:Row):List V:=[zaF r 0,zaF r 1]
theorem zb0 {H:Hp} {us:List V} {r:Row} (PA:PartsAt H us r.2):pW us = pW (rowU r)∧qW us = qW (rowU r):=by
 have one:∀ (i:Nat),(∃ x,us[i]? = some (.int x)∧zaF r i = .int x) ∨ ((us[i]? = none ∨ ∃ q,us[i]? = some (.ref q))∧zaF r i = .non):=fun i=>by
  by_cases c:i < us.length
  ·have e1:=List.getElem?_eq_getElem (l:=us) (i:=i) c
   have e2:=List.getElem?_eq_getElem (l:=r.2) (i:=i) (by rw [← PA.len]; exact c)
   have p:=PA.at_ i _ _ e1 e2
   unfold zaF
   rw [e1,e2]
   cases h:r.2[i]'(by rw [← PA.len]; exact c) with
   | inl x =>
    rw [h] at p
    exact .inl ⟨x,by rw [show us[i] = .int x from p],rfl⟩
   | inr l =>
    rw [h] at p
    obtain ⟨q,e,_⟩:=p
    exact .inr ⟨.inr ⟨q,by rw [e]⟩,rfl⟩
  ·refine .inr ⟨.inl (List.getElem?_eq_none (by omega)),?_⟩
   unfold zaF
   rw [List.getElem?_eq_none (by rw [← PA.len]; omega)]
 unfold rowU
 constructor
 ·rcases one 0 with ⟨x,h1,h2⟩ | ⟨h1 | ⟨q,h1⟩,h2⟩
  ·rw [h2]
   cases us with
   | nil=>cases h1
   | cons u us=>cases h1; rfl
  ·rw [h2]
   cases us with
   | nil=>rfl
   | cons u us=>cases h1
  ·rw [h2]
   cases us with
   | nil=>cases h1
   | cons u us=>cases h1; rfl
 ·rcases one 1 with ⟨x,h1,h2⟩ | ⟨h1 | ⟨q,h1⟩,h2⟩
  ·rw [h2]
   match us,h1 with
   | _ :: _ :: _,h1=>cases h1; rfl
  ·rw [h2]
   match us,h1 with
   | [],_=>rfl
   | [_],_=>rfl
  ·rw [h2]
   match us,h1 with
   | _ :: _ :: _,h1=>cases h1; rfl
theorem zfK {gv:List Str} {w:Str} {us us' ks:List V} {tb:Tb} (h:pW us = pW us'∧qW us = qW us'):bh gv w us ks tb = bh gv w us' ks tb:=by
 unfold bh bh3 zdG
 rw [h.1,h.2]
theorem KV.ofs {s:Str} (h:s = "n" ∨ s = "h"):KV (.str s):=.inr (.inl ⟨s,h,rfl⟩)
theorem zeD {α:Type} {l:List α} {i:Nat} {d:α} (h:i < l.length):l.getD i d ∈ l:=by
 rw [List.getD_eq_getElem?_getD,List.getElem?_eq_getElem h]
 exact List.getElem_mem h
theorem bh_kv {gv:List Str} {places:Int} {w:Str} {us ks:List V} {tb:Tb} (g2:gv.length = 2) (gn_:∀ s ∈ gv,s = "n" ∨ s = "h") (R:RowOk places w us) (h:∀ k ∈ ks,KV k) (hl:(ks.length:Int) = places):(∀ k ∈ bh gv w us ks tb,KV k)∧(bh gv w us ks tb).length = ks.length:=by
 obtain ⟨a1,a2⟩:=zd3 (w:=w) h
 obtain ⟨b1,b2⟩:=zf4 (w:=w) (tb:=tb) a1
 unfold bh bh3
 split
 ·rename_i c
  refine ⟨fun k hk=>?_,by rw [List.length_set,List.length_map,b2,a2]⟩
  rcases List.mem_or_eq_of_mem_set hk with m | e
  ·obtain ⟨y,hy,rfl⟩:=List.mem_map.mp m
   split
   ·exact .inl rfl
   ·exact b1 y hy
  ·subst e
   unfold zdG
   split
   ·rename_i cc
    obtain ⟨p,g,rest,rfl,g0,g1⟩:=R.call cc
    refine KV.ofs (gn_ _ (zeD ?_))
    show g.toNat < _
    omega
   ·split
    ·rename_i cc
     obtain ⟨p,g,rest,rfl,g0,g1⟩:=R.cp cc
     split
     ·exact .inl rfl
     ·refine h _ (zeD ?_)
      show g.toNat < _
      omega
    ·split
     ·rename_i cc
      obtain ⟨p,g,rest,rfl,g0⟩:=R.into cc
      split
      ·exact .inl rfl
      ·exact .inr (.inr ⟨_,g0,rfl⟩)
     ·unfold gn
      split
      ·exact KV.ofs (.inr rfl)
      ·exact KV.ofs (.inl rfl)
 ·exact ⟨b1,by rw [b2,a2]⟩
structure Ln (rws:List Row):Prop where
 n20:rws.length ≤ 20
 mid:∀ (i:Nat) (r:Row),rws[i]? = some r->i + 1 < rws.length->nxt r i = [((i + 1:Nat):Int)]
 end_:∀ (i:Nat) (r:Row),rws[i]? = some r->i + 1 = rws.length->nxt r i = []
structure PX (ds:List Df):Prop where
 l2:ds.length = 2
 pf:ProgFit ds
 ln:∀ d ∈ ds,Ln d.2.2
noncomputable def gvs (ds:List Df):List Str:=(ds.map (·.1)).map (·.2)
noncomputable def kA (gv:List Str) (t:Nat->Tb) (d:Df):Nat->List V
 | 0=>fkV d.1.1 (8 + d.2.1).toNat
 | i + 1=>match d.2.2[i]? with
  | some r=>bh gv r.1 (rowU r) (kA gv t d i) (t i)
  | none=>kA gv t d i
theorem zbO {gv:List Str} {t:Nat->Tb} {d:Df} {i:Nat} {r:Row} (h:d.2.2[i]? = some r):kA gv t d (i + 1) = bh gv r.1 (rowU r) (kA gv t d i) (t i):=by
 show (match d.2.2[i]? with | some r=>bh gv r.1 (rowU r) (kA gv t d i) (t i) | none=>kA gv t d i) = _
 rw [h]
theorem PX.gv2 {ds:List Df} (x:PX ds):(gvs ds).length = 2∧∀ s ∈ gvs ds,s = "n" ∨ s = "h":=by
 refine ⟨by unfold gvs; rw [List.length_map,List.length_map,x.l2],fun s hs=>?_⟩
 unfold gvs at hs
 obtain ⟨y,hy,rfl⟩:=List.mem_map.mp hs
 exact (x.pf.sg.gives y hy).imp (fun e=>by rw [e]; rfl) (fun e=>by rw [e]; rfl)
theorem ziY {z:Str} {n:Nat} (h:∀ c ∈ z.cps.toList,NH c) (l:z.cps.size ≤ n):(∀ k ∈ fkV z n,KV k)∧(fkV z n).length = n:=by
 unfold fkV
 refine ⟨fun k hk=>?_,by rw [List.length_append,List.length_map,List.length_replicate,Array.length_toList]; omega⟩
 rcases List.mem_append.mp hk with m | m
 ·obtain ⟨c,hc,rfl⟩:=List.mem_map.mp m
  rcases h c hc with rfl | rfl
  ·exact KV.ofs (.inl rfl)
  ·exact KV.ofs (.inr rfl)
 ·rw [(List.mem_replicate.mp m).2]
  exact .inl rfl
theorem zbU {ds:List Df} {f:Nat} {d:Df} (h:ds[f]? = some d):(ds.map (·.1))[f]? = some d.1:=by rw [List.getElem?_map,h]; rfl
theorem zcO {H:Hp} {pl:Addr} {das:List (Addr × Addr × List Addr)} {ds:List Df} (PR:ProgAt H pl das ds) (x:PX ds) {f:Nat} {d:Df} (hd:ds[f]? = some d) {t:Nat->Tb}:∀ i:Nat,(∀ k ∈ kA (gvs ds) t d i,KV k)∧(kA (gvs ds) t d i).length = (8 + d.2.1).toNat
 | 0=>by
  have m:=List.mem_of_getElem? (zbU hd)
  have w0:=(x.pf.defs d (List.mem_of_getElem? hd)).w0
  have s6:=x.pf.sg.sz _ m
  exact ziY (x.pf.sg.let_ _ m) (by omega)
 | i + 1=>by
  obtain ⟨h1,h2⟩:=zcO PR x hd (t:=t) i
  cases e:d.2.2[i]? with
  | none =>
   show (∀ k ∈ (match d.2.2[i]? with | some r=>bh (gvs ds) r.1 (rowU r) (kA (gvs ds) t d i) (t i) | none=>kA (gvs ds) t d i),KV k)∧(match d.2.2[i]? with | some r=>bh (gvs ds) r.1 (rowU r) (kA (gvs ds) t d i) (t i) | none=>kA (gvs ds) t d i).length = _
   rw [e]
   exact ⟨h1,h2⟩
  | some r =>
   rw [zbO e]
   have DF:=x.pf.defs d (List.mem_of_getElem? hd)
   have fl:=(List.getElem?_eq_some_iff.mp hd).1
   have flp:f < das.length:=by rw [PR.len]; exact fl
   have hda:=List.getElem?_eq_getElem (l:=das) (i:=f) flp
   obtain ⟨g1,g2⟩:=PR.def_ f _ _ hda hd
   have rl:=(List.getElem?_eq_some_iff.mp e).1
   have hra:=List.getElem?_eq_getElem (l:=das[f].2.2) (i:=i) (by rw [g2.len]; exact rl)
   obtain ⟨us,_,PA⟩:=g2.row i _ _ hra e
   have RO:=RowOk.of (DF.rows r (List.mem_of_getElem? e)) PA (by rw [List.length_map,x.l2])
   rw [← zfK (zb0 PA)]
   have w0:=DF.w0
   obtain ⟨b1,b2⟩:=bh_kv (tb:=t i) x.gv2.1 x.gv2.2 RO h1 (by rw [h2]; omega)
   exact ⟨b1,by rw [b2,h2]⟩
noncomputable def StOk (ds:List Df) (tb:Tbs):Prop:=∀ (f i:Nat) (d:Df) (r:Row),ds[f]? = some d->d.2.2[i]? = some r->zbF r.1 = true->tbAt tb f i = ltb tb f i
theorem zfy {gv:List Str} {w:Str} {us ks:List V} {tb tb':Tb} (h:zbF w = false):bh gv w us ks tb = bh gv w us ks tb':=by
 have e:∀ (tb:Tb) (ks:List V),bh2 w tb ks = ks:=fun tb ks=>by
  unfold bh2
  cases tb with
  | none=>rfl
  | some t=>simp only [h,Bool.false_eq_true,if_false]
 unfold bh
 rw [e,e]
theorem zio {ds:List Df} {tb:Tbs} (s:StOk ds tb) {f:Nat} {d:Df} (hd:ds[f]? = some d) {gv:List Str}:∀ i:Nat,kA gv (tbAt tb f) d i = kA gv (ltb tb f) d i
 | 0=>rfl
 | i + 1=>by
  have ih:=zio s hd (gv:=gv) i
  cases e:d.2.2[i]? with
  | none =>
   show (match d.2.2[i]? with | some r=>bh gv r.1 (rowU r) (kA gv (tbAt tb f) d i) (tbAt tb f i) | none=>kA gv (tbAt tb f) d i) = (match d.2.2[i]? with | some r=>bh gv r.1 (rowU r) (kA gv (ltb tb f) d i) (ltb tb f i) | none=>kA gv (ltb tb f) d i)
   rw [e]
   exact ih
  | some r =>
   rw [zbO e,zbO e,ih]
   cases c:zbF r.1 with
   | false=>exact zfy c
   | true=>rw [s f i d r hd e c]
theorem zfX {tb:Tbs} {f i:Nat}:tbD (tbAt tb f i) = tbD (ltb tb f i):=by
 unfold tbAt ltb
 cases tb with
 | none=>rfl
 | some t =>
  obtain ⟨f0,at0,hs,ps⟩:=t
  dsimp only
  split <;> rfl
end
section
variable {P:Program} {w:World} {K:PySem.W.Frag} {mg:Str->Option Value} {base:Heap} {a:Ad}
theorem for1 {K:PySem.W.Frag} {g:TG} {tb:TS} {D:Ends} {σ:St} {H:Hp} {a:Addr} {x:V} (ha:H a = some (.lst [x])) (Post:St->Hp->Prop) (hp:∀ σ H,Post σ H->H a = some (.lst [x]))
  (hs:g x σ H fun σ2 H2=>tb { D with nx:=Post,ct:=Post,bk:=D.nx } σ2 H2) (hd:∀ σ H,Post σ H->D.nx σ H):tFor (zcs K (tC (.ref a))) g tb D σ H:=by
 refine forL (H1:=H) a [x] (fun Q h=>h) (fun i σ' H'=>(i = 0->σ' = σ∧H' = H)∧(i = 1->Post σ' H')∧i ≤ 1∧H' a = some (.lst [x])) ⟨fun _=>⟨rfl,rfl⟩,fun z=>absurd z (by decide),by omega,ha⟩ (fun i σ' H' _ h=>.of h.2.2.2) ?_ ?_
 ·rintro i y σ' H' hy ⟨h0,_,h1,_⟩
  match i,hy with
  | 0,hy =>
  cases hy
  obtain ⟨e1,e2⟩:=h0 rfl
  rw [e1,e2]
  have e:(fun (σ':St) (H':Hp)=>((0 + 1 = 0->σ' = σ∧H' = H)∧(0 + 1 = 1->Post σ' H')∧0 + 1 ≤ 1∧H' a = some (.lst [x]))) = Post:=by
   funext σ2 H2
   refine propext ⟨fun h=>h.2.1 rfl,fun h=>⟨fun z=>absurd z (by decide),fun _=>h,Nat.le_refl _,hp _ _ h⟩⟩
  have h2:=hs
  rw [← e] at h2
  exact h2
  | i + 1,hy=>simp at hy
 ·rintro σ' H' ⟨_,h1,_,_⟩
  exact hd _ _ (h1 rfl)
noncomputable def kvD:V->PyData
 | .int i=>.int i
 | .str s=>.str s
 | _=>.none
theorem KV.rep {H:Hp} {v:V} (h:KV v):RepD H v (kvD v):=by
 rcases h with rfl | ⟨s,_,rfl⟩ | ⟨i,_,rfl⟩
 ·exact .non
 ·exact .str _
 ·exact .int _
theorem zid {H:Hp} {l:Addr} {ks:List V} (h:H l = some (.lst ks)) (kv:∀ k ∈ ks,KV k):RepD H (.ref l) (.list (ks.map kvD)):=.lst h (by rw [List.length_map]) fun i v d h1 h2=>by
 rw [List.getElem?_map,h1] at h2
 cases h2
 exact (kv v (List.mem_of_getElem? h1)).rep
theorem zfk {ks:List V} (kv:∀ k ∈ ks,KV k):SeqAt.shaped (.list (ks.map kvD)) = true:=by
 unfold SeqAt.shaped
 rw [Bool.and_eq_true]
 refine ⟨?_,decide_eq_true (Nat.le_trans (m:=2) ?_ (by decide))⟩
 ·rw [PyData.canLay0]
  refine zgf fun p hp=>?_
  rcases kv p hp with rfl | ⟨s,rfl | rfl,rfl⟩ | ⟨i,_,rfl⟩
  ·simp [kvD,PyData.canLay0]
  ·simp only [kvD,PyData.canLay0]; decide +kernel
  ·simp only [kvD,PyData.canLay0]; decide +kernel
  ·simp [kvD,PyData.canLay0]
 ·rw [PyData.depth]
  have:=zgu (f:=kvD) (n:=1) (l:=ks) fun p _=>by unfold kvD; split <;> simp [PyData.depth]
  omega
theorem for0 {K:PySem.W.Frag} {g:TG} {tb:TS} {D:Ends} {σ:St} {H:Hp} {a:Addr} (ha:H a = some (.lst [])) (hd:D.nx σ H):tFor (zcs K (tC (.ref a))) g tb D σ H:=by
 refine forL (H1:=H) a [] (fun Q h=>h) (fun i σ' H'=>σ' = σ∧H' = H) ⟨rfl,rfl⟩ (fun i σ' H' _ h=>by rw [h.2]; exact .of ha) (fun i y σ' H' hy=>by simp at hy) (fun σ' H' h=>by rw [h.1,h.2]; exact hd)
noncomputable def sp_kinds:Sp:=fun vs H Q _=>∃ (pl:Addr) (f:Nat) (tv:V) (tb:Tbs) (das:List (Addr × Addr × List Addr)) (ds:List Df) (d:Df),vs = [.ref pl,.int f,tv]∧ProgAt H pl das ds∧PX ds∧ds[f]? = some d∧TbsV H tv tb ∧
 ∀ (l:Addr) (as:List Addr) (H':Hp),Same H H'->H' l = some (.lst (as.map V.ref))->as.length = d.2.2.length->(∀ (i:Nat) (c:Addr),as[i]? = some c->H' c = some (.lst (kA (gvs ds) (tbAt tb f) d i)))->Q (.ref l) H'
set_option maxHeartbeats 2000000 in
theorem zeg (T:Txt K mg a):FnOk P w K mg base CX0 4 a.f_kinds_of a.d_kinds_of ["program","f","tables"] sp_kinds:=by
 refine T.F_kinds_of.okC sc_kinds_of (fun vs H Q E h=>?_) (fun cdv A outer s H vs Q E hr h=>?_)
 ·obtain ⟨pl,f,tv,tb,das,ds,d,rfl,_⟩:=h
  rfl
 ·obtain ⟨pl,f,tv,tb,das,ds,d,rfl,PR,X,hd,TV,q⟩:=h
  have hu:=zaT hr
  have lp:=PR.len
  have fl:=(List.getElem?_eq_some_iff.mp hd).1
  have f2:f < 2:=by rw [← X.l2]; exact fl
  have flp:f < das.length:=by omega
  have hda:=List.getElem?_eq_getElem (l:=das) (i:=f) flp
  obtain ⟨g1,g2⟩:=PR.def_ f _ _ hda hd
  have topp:=PR.top
  have ap:atI (das.map fun a=>V.ref a.1) ((f:Nat):Int) = some (.ref das[f].1):=zau (by rw [List.getElem?_map,hda]; rfl)
  have topr:=g2.top
  have DF:=X.pf.defs d (List.mem_of_getElem? hd)
  have LN_:=X.ln d (List.mem_of_getElem? hd)
  have n0:=DF.n0
  have n20:=LN_.n20
  have w0:=DF.w0
  have w1:=DF.w1
  have lr:=g2.len
  have wf:(fun i=>(ds.getD i (("",""),0,[])).2.1) f = d.2.1:=by dsimp only; rw [List.getD_eq_getElem?_getD,hd]; rfl
  have sga:=X.pf.sg.asc _ (List.mem_of_getElem? (zbU hd))
  refine ⟨_,(@zad _ _ _ _ _ (zaw (i:=3) sc_kinds_of.nd (by rfl) (Or.inl rfl) (zah ix_F (zah ix_F (pv 0) (pv 1) (fun _ _=>rfl)) zag (fun _ _=>rfl)))
   (@zad _ _ _ _ _ (zaw (i:=4) sc_kinds_of.nd (by rfl) (Or.inl rfl) (zal (zcc T) (hr.mono (by decide)) (by rfl) T.m_tables_of T.F_tables_of.kp T.b_tables_of .nil zaC (@zac _ _ _ _ _ _ (pv 1) (@zac _ _ _ _ _ _ (pv 2) pa_nil))))
   (@zad _ _ _ _ _ (zaw (i:=5) sc_kinds_of.nd (by rfl) (Or.inl rfl) (zaK op_rep (zav (zae zaR pa_nil)) (zax call_lenF (by rfl) T.z_len (by decide +kernel) (@zac _ _ _ _ _ _ (pv 3) pa_nil))))
   (@zad _ _ _ _ _ (zbf (zal (zbG T) (hr.mono (by decide)) (by rfl) T.m_first_kinds T.F_first_kinds.kp T.b_first_kinds .nil zaC (@zac _ _ _ _ _ _ (pv 0) (@zac _ _ _ _ _ _ (pv 1) pa_nil))) (zbr (pv 5) zag set_list))
   (@zad _ _ _ _ _ (@zbm _ 6 _ _ _ _ _ _ sc_kinds_of.nd (by rfl) (Or.inl rfl) (@zai _ _ _ _ _ _ pa_nil) (by first | exact .inl (by rfl) | exact .inr (by rfl) | assumption))
   (@zad _ _ _ _ _ (zcC PassesOwn.never (zdE (pv 6) (fun _=>rfl)) (@zad _ _ _ _ _ (zaw (i:=7) sc_kinds_of.nd (by rfl) (Or.inl rfl) (zf1 PySem.F.plainAttrs_list PySem.F.slot_list_pop PySem.F.type_list_pop mt_pop (pv 6)))
   (@zad _ _ _ _ _ (zaw (i:=8) sc_kinds_of.nd (by rfl) (Or.inl rfl) (zal (zdQ T) (hr.mono (by decide)) (by rfl) T.m_behind T.F_behind.kp T.b_behind .nil zaC (@zac _ _ _ _ _ _ (pv 0) (@zac _ _ _ _ _ _ (pv 1) (@zac _ _ _ _ _ _ (pv 7) (zae (zah ix_F (pv 5) (pv 7) (fun _ _=>rfl)) (zae (zdi hu (pv 4) (pv 7) ⟨rfl,rfl,rfl,rfl⟩) pa_nil)))))))
   (@zaf _ _ _ (za0 PassesOwn.never (by rfl) (zaI (zal (zdo T) (hr.mono (by decide)) (by rfl) T.m_nexts T.F_nexts.kp T.b_nexts .nil zaC (@zac _ _ _ _ _ _ (pv 3) (@zac _ _ _ _ _ _ (pv 7) pa_nil)))) (zaq (i:=9) sc_kinds_of.nd (by rfl) (Or.inl rfl))
   (@zad _ _ _ _ _ (zaw (i:=10) sc_kinds_of.nd (by rfl) (Or.inl rfl) (za2 (za9 (zcg (zah ix_F (pv 5) (pv 9) (fun _ _=>rfl)))) (zaN call_list_of (by rfl) T.z_list (by decide +kernel) (@zac _ _ _ _ _ _ (pv 8) pa_nil)) (zal (zgi T) (hr.mono (by decide)) (by rfl) T.m_shared T.F_shared.kp T.b_shared .nil zaC (zae (zah ix_F (pv 5) (pv 9) (fun _ _=>rfl)) (@zac _ _ _ _ _ _ (pv 8) pa_nil)))))
   (@zaf _ _ _ (@zaD _ _ _ _ _ _ _ _ (zak (ziQ hr.units) (pv 10) (zah ix_F (pv 5) (pv 9) (fun _ _=>rfl)) (zat _)) (@zad _ _ _ _ _ (zbf (pv 10) (zbr (pv 5) (pv 9) set_list))
   (@zaf _ _ _ (za6 (zct PySem.F.plainAttrs_list PySem.F.slot_list_append PySem.F.type_list_append mt_append (pv 6) (@zac _ _ _ _ _ _ (pv 9) pa_nil))))) pss_nil))))))))
   (@zaf _ _ _ (zao (pv 5))))))))),?_⟩
  generalize hG:tSeq (zeO _ _) _ = tail
  simp! [topp,ap,g1,topr]
  refine ⟨f,tv,tb,rfl,TV,fun D H1 nD S1 TO=>?_⟩
  simp! []
  intro p0 np0
  have topr1:upd H1 p0 (.lst [.non]) das[f].2.1 = some (.lst (das[f].2.2.map V.ref)):=zab (S1 _ _ topr) np0
  refine ⟨_,by rw [topr1]; rfl,p0,_,[.non],rfl,rfl,zaa,by omega,by rw [List.length_map]; omega,by rw [List.length_map]; show 1 * _ ≤ _; rw [sizeLine_eq,Int.toNat_natCast]; omega,fun kn nkn=>?_⟩
  have S2:Same H1 (upd (upd H1 p0 (.lst [.non])) kn (.lst (List.replicate (Int.toNat ((das[f].2.2.map V.ref).length:Int)) [V.non]).flatten)):=(Same.laid np0).step nkn
  have nkn0:H1 kn = none:=(Same.laid np0).free nkn
  have hkn:upd (upd H1 p0 (.lst [.non])) kn (.lst (List.replicate (Int.toNat ((das[f].2.2.map V.ref).length:Int)) [V.non]).flatten) kn = some (.lst (List.replicate d.2.2.length V.non)):=by
   rw [zaa,rep_non,List.length_map,Int.toNat_natCast,lr]
  revert S2 hkn
  generalize upd (upd H1 p0 (.lst [.non])) kn (.lst (List.replicate (Int.toNat ((das[f].2.2.map V.ref).length:Int)) [V.non]).flatten) = H2
  intro S2 hkn
  have PR1:=PR.same S1
  refine ⟨pl,f,_,_,_,d.2.1,d.1,rfl,PgB.of (PR1.same S2) X.l2,wf,f2,zbU hd,sga.1,sga.2,w0,w1,fun l0 H3 nl0 S3 hl0=>⟨kn,rfl,_,S3 _ _ hkn,0,zca (by rw [List.length_replicate]; exact n0),fun td ntd=>?_⟩⟩
  have hkn3:=S3 _ _ hkn
  have l0k:l0 ≠ kn:=(zan hkn nl0).symm
  have tdk:td ≠ kn:=(zcz ntd).1
  have ntd3:=(zcz ntd).2
  have tdl:td ≠ l0:=(zan hl0 ntd3).symm
  have ntd0:H1 td = none:=(S2.trans S3).free ntd3
  have k1:upd (upd H3 kn (.lst ((List.replicate d.2.2.length V.non).set 0 (.ref l0)))) td (.lst [.int 0]) kn = some (.lst ([l0].map V.ref ++ List.replicate (d.2.2.length - 1) V.non)):=by
   rw [zaj tdk.symm,zaa]
   obtain ⟨n',hn'⟩:∃ n',d.2.2.length = n' + 1:=⟨d.2.2.length - 1,by omega⟩
   rw [hn',List.replicate_succ,List.set_cons_zero]
   rfl
  have k2:upd (upd H3 kn (.lst ((List.replicate d.2.2.length V.non).set 0 (.ref l0)))) td (.lst [.int 0]) td = some (.lst [.int ((0:Nat):Int)]):=zaa
  have k3:upd (upd H3 kn (.lst ((List.replicate d.2.2.length V.non).set 0 (.ref l0)))) td (.lst [.int 0]) l0 = some (.lst (kA (gvs ds) (tbAt tb f) d 0)):=by
   rw [zaj tdl.symm,zaj l0k]
   exact hl0
  have k4:Same H1 (upd (upd H3 kn (.lst ((List.replicate d.2.2.length V.non).set 0 (.ref l0)))) td (.lst [.int 0])):=Same.new (Same.new (S2.trans S3) nkn0) ntd0
  revert k1 k2 k3 k4
  generalize upd (upd H3 kn (.lst ((List.replicate d.2.2.length V.non).set 0 (.ref l0)))) td (.lst [.int 0]) = H4
  intro k1 k2 k3 k4
  subst hG
  refine ⟨fun m σ H5=>∃ (i:Nat) (as:List Addr) (v7 v8 v9 v10:Option V),σ = [some (V.ref pl),some (V.int f),some tv,some (V.ref das[f].2.1),some (V.ref D),some (V.ref kn),some (V.ref td),v7,v8,v9,v10]∧m = d.2.2.length - i∧i ≤ d.2.2.length∧as.length = min (i + 1) d.2.2.length∧H5 kn = some (.lst (as.map V.ref ++ List.replicate (d.2.2.length - as.length) V.non))∧H5 td = some (.lst (if i < d.2.2.length then [.int (i:Int)] else []))∧(∀ (j:Nat) (c:Addr),as[j]? = some c->c ≠ kn∧c ≠ td∧H5 c = some (.lst (kA (gvs ds) (tbAt tb f) d j)))∧Same H1 H5,⟨_,0,[l0],none,none,none,none,rfl,rfl,by omega,by rw [List.length_singleton]; omega,k1,by rw [if_pos n0]; exact k2,fun j c hj=>?_,k4⟩,?_⟩
  ·match j,hj with
   | 0,hj=>cases hj; exact ⟨l0k,tdl.symm,k3⟩
   | j + 1,hj=>simp at hj
  clear k1 k2 k3 k4 hl0 hkn3 S3 nl0
  rintro m σ H5 ⟨i,as,v7,v8,v9,v10,rfl,rfl,i1,la,e1,e2,e3,S5⟩
  have TO5:=TO.same S5
  have PR5:=PR1.same S5
  simp! []
  by_cases ci:i < d.2.2.length
  ·rw [if_pos ci] at e2
   refine ⟨_,.inl ⟨_,.of e2,rfl⟩,?_⟩
   rw [if_pos (by rfl)]
   have la':as.length = i + 1:=by omega
   have hai:=List.getElem?_eq_getElem (l:=as) (i:=i) (by omega)
   obtain ⟨c1,c2,c3⟩:=e3 i _ hai
   have hri:=List.getElem?_eq_getElem (l:=d.2.2) (i:=i) ci
   generalize hr0:d.2.2[i] = r at hri
   have RF:=DF.rows r (List.mem_of_getElem? hri)
   have hra:=List.getElem?_eq_getElem (l:=das[f].2.2) (i:=i) (by rw [lr]; exact ci)
   refine ⟨fun σ' H'=>∃ (as':List Addr) (v7 v8 v9 v10:Option V),σ' = [some (V.ref pl),some (V.int f),some tv,some (V.ref das[f].2.1),some (V.ref D),some (V.ref kn),some (V.ref td),v7,v8,v9,v10]∧as'.length = min (i + 1 + 1) d.2.2.length∧H' kn = some (.lst (as'.map V.ref ++ List.replicate (d.2.2.length - as'.length) V.non))∧H' td = some (.lst (if i + 1 < d.2.2.length then [.int ((i + 1:Nat):Int)] else []))∧(∀ (j:Nat) (c:Addr),as'[j]? = some c->c ≠ kn∧c ≠ td∧H' c = some (.lst (kA (gvs ds) (tbAt tb f) d j)))∧Same H1 H',?_,?_⟩
   ·rintro σ' H' ⟨as',v7,v8,v9,v10,rfl,h1,h2,h3,h4,h5⟩
    exact ⟨_,by omega,i + 1,as',v7,v8,v9,v10,rfl,rfl,by omega,h1,h2,h3,h4,h5⟩
   ·simp! [tBM0]
    refine ⟨.inl ⟨rfl,_,.of e2⟩,td,_,.int (i:Int),rfl,rfl,e2,rfl,?_⟩
    have u1:upd H5 td (.lst [V.int (i:Int)].dropLast) kn = some (.lst (as.map V.ref ++ List.replicate (d.2.2.length - as.length) V.non)):=by rw [zaj tdk.symm]; exact e1
    have u2:upd H5 td (.lst [V.int (i:Int)].dropLast) td = some (.lst []):=zaa
    have u3:∀ (j:Nat) (c:Addr),as[j]? = some c->upd H5 td (.lst [V.int (i:Int)].dropLast) c = some (.lst (kA (gvs ds) (tbAt tb f) d j)):=fun j c hj=>by rw [zaj (e3 j c hj).2.1]; exact (e3 j c hj).2.2
    have u4:Same H1 (upd H5 td (.lst [V.int (i:Int)].dropLast)):=Same.new S5 ntd0
    revert u1 u2 u3 u4
    generalize upd H5 td (.lst [V.int (i:Int)].dropLast) = H6
    intro u1 u2 u3 u4
    have PR6:=PR1.same u4
    obtain ⟨kvs,t1,t2,t3⟩:=(TO.same u4).ex
    have ak:atI (as.map V.ref ++ List.replicate (d.2.2.length - as.length) V.non) (i:Int) = some (.ref as[i]):=zau (by rw [List.getElem?_append_left (by rw [List.length_map]; omega),List.getElem?_map,hai]; rfl)
    refine ⟨_,rfl,_,by rw [u1]; rfl,_,ak,?_⟩
    unfold ze3
    simp! []
    refine ⟨.inl ⟨kvs,.inl t1⟩,_,.inl ⟨kvs,.inl (i:Int),.inl t1,rfl,rfl⟩,?_⟩
    obtain ⟨g61,g62⟩:=PR6.def_ f _ _ hda hd
    obtain ⟨us,ru,PA⟩:=g62.row i _ _ hra hri
    have RO:=RowOk.of RF PA (by rw [List.length_map,X.l2])
    obtain ⟨kv1,kv2⟩:=zcO PR6 X hd (t:=tbAt tb f) i
    refine ⟨pl,as[i],das[f].2.2[i],das[f].2.1,das[f].1,f,i,_,tbAt tb f i,_,_,_,d.2.1,das[f].2.2,r.1,us,_,rfl,PgB.of PR6 X.l2,wf,f2,by rw [List.getElem?_map,hda]; rfl,g62.top,hra,ru,RO,t3 i,u3 i _ hai,kv1,by rw [kv2]; omega,w1,fun lf H7 nlf S7 hlf=>?_⟩
    rw [zfK (zb0 PA),show List.map (·.2) (ds.map (·.1)) = gvs ds from rfl,← zbO hri] at hlf
    have S17:=u4.trans S7
    refine zes (fun l H8=>H8 l = some (.lst ((nxt r i).map V.int))∧Same H7 H8∧H7 l = none) (fun Q2 hQ=>?_) ?_
    ·simp! []
     exact ⟨das[f].2.1,i,das[f].2.2,d.2.2,r,d.2.1,d.2.2.length,ds.map (·.1),rfl,((PR1.same S17).def_ f _ _ hda hd).2,hri,RF,by omega,by omega,fun l H8 nl S8 hl=>hQ l H8 ⟨hl,S8,nl⟩⟩
    rintro l H8 ⟨hl,S8,nl⟩
    have S18:=S17.trans S8
    have w1':=S8 _ _ (S7 _ _ u1)
    have w2':=S8 _ _ (S7 _ _ u2)
    have w3':∀ (j:Nat) (c:Addr),as[j]? = some c->H8 c = some (.lst (kA (gvs ds) (tbAt tb f) d j)):=fun j c hj=>S8 _ _ (S7 _ _ (u3 j c hj))
    have lkn:l ≠ kn:=(zan (S7 _ _ u1) nl).symm
    have ltd:l ≠ td:=(zan (S7 _ _ u2) nl).symm
    by_cases cn:i + 1 < d.2.2.length
    ·rw [LN_.mid i r hri cn] at hl
     refine for1 (H:=H8) hl (fun σ' H'=>(∃ (as':List Addr) (v7 v8 v9 v10:Option V),σ' = [some (V.ref pl),some (V.int f),some tv,some (V.ref das[f].2.1),some (V.ref D),some (V.ref kn),some (V.ref td),v7,v8,v9,v10]∧as'.length = min (i + 1 + 1) d.2.2.length∧H' kn = some (.lst (as'.map V.ref ++ List.replicate (d.2.2.length - as'.length) V.non))∧H' td = some (.lst (if i + 1 < d.2.2.length then [.int ((i + 1:Nat):Int)] else []))∧(∀ (j:Nat) (c:Addr),as'[j]? = some c->c ≠ kn∧c ≠ td∧H' c = some (.lst (kA (gvs ds) (tbAt tb f) d j)))∧Same H1 H')∧H' l = some (.lst [.int ((i + 1:Nat):Int)])) (fun σ H h=>h.2) ?_ (fun σ H h=>h.1)
     have ak2:atI (as.map V.ref ++ List.replicate (d.2.2.length - as.length) V.non) ((i + 1:Nat):Int) = some .non:=zau (by rw [List.getElem?_append_right (by rw [List.length_map]; omega),List.length_map,List.getElem?_replicate,if_pos (by omega)])
     have hlf8:=S8 _ _ hlf
     simp! [w1',ak2]
     refine ⟨_,.inl (.of hlf8),fun lw nlw=>?_⟩
     have x1:=zab (u:=.lst (kA (gvs ds) (tbAt tb f) d (i + 1))) w1' nlw
     refine ⟨_,by rw [x1]; rfl,_,ak2,_,_,zid zaa (zcO PR6 X hd (t:=tbAt tb f) (i + 1)).1,.non,zfk (zcO PR6 X hd (t:=tbAt tb f) (i + 1)).1,rfl,true,rfl,?_⟩
     rw [if_pos rfl]
     have lk:lw ≠ kn:=(zan w1' nlw).symm
     have lt:lw ≠ td:=(zan w2' nlw).symm
     have ll:lw ≠ l:=(zan hl nlw).symm
     refine ⟨_,x1,i + 1,zca (by rw [List.length_append,List.length_map,List.length_replicate]; omega),?_⟩
     have se:(as.map V.ref ++ List.replicate (d.2.2.length - as.length) V.non).set (i + 1) (.ref lw) = (as ++ [lw]).map V.ref ++ List.replicate (d.2.2.length - (as ++ [lw]).length) V.non:=by
      rw [List.set_append_right _ _ (by rw [List.length_map]; omega),List.length_map,la',Nat.sub_self]
      obtain ⟨n',hn'⟩:∃ n',d.2.2.length - (i + 1) = n' + 1:=⟨d.2.2.length - (i + 1) - 1,by omega⟩
      rw [hn',List.replicate_succ,List.set_cons_zero,List.map_append,List.length_append,la',List.length_singleton,List.append_assoc]
      rw [show d.2.2.length - (i + 1 + 1) = n' by omega]
      rfl
     rw [se]
     have y1:upd (upd H8 lw (.lst (kA (gvs ds) (tbAt tb f) d (i + 1)))) kn (.lst ((as ++ [lw]).map V.ref ++ List.replicate (d.2.2.length - (as ++ [lw]).length) V.non)) td = some (.lst []):=by rw [zaj tdk]; exact zab w2' nlw
     unfold tBM
     simp! []
     refine ⟨.inl ⟨rfl,_,.of y1⟩,td,_,_,rfl,rfl,y1,by rw [sizeLine_eq]; exact Nat.zero_lt_succ _,⟨as ++ [lw],by rw [List.length_append,la',List.length_singleton]; omega,?_,?_,?_,?_⟩,?_⟩
     ·rw [zaj tdk.symm,zaa]
     ·rw [zaa,if_pos cn]; rfl
     ·intro j c hj
      by_cases cj:j < as.length
      ·rw [List.getElem?_append_left cj] at hj
       have z:=e3 j c hj
       refine ⟨z.1,z.2.1,?_⟩
       rw [zaj z.2.1,zaj z.1]
       exact zab (w3' j c hj) nlw
      ·have jl:=(List.getElem?_eq_some_iff.mp hj).1
       rw [List.length_append,List.length_singleton] at jl
       have je:j = i + 1:=by omega
       subst je
       rw [List.getElem?_append_right (by omega),la',Nat.sub_self] at hj
       cases hj
       refine ⟨lk,lt,?_⟩
       rw [zaj lt,zaj lk]
       exact zaa
     ·exact Same.new (Same.new (S18.step nlw) nkn0) ntd0
     ·rw [zaj ltd,zaj lkn]
      exact zab hl nlw
    ·rw [LN_.end_ i r hri (by omega)] at hl
     refine for0 (H:=H8) hl ?_
     refine ⟨as,_,_,_,_,rfl,by omega,w1',by rw [if_neg cn]; exact w2',fun j c hj=>⟨(e3 j c hj).1,(e3 j c hj).2.1,w3' j c hj⟩,S18⟩
  ·rw [if_neg ci] at e2
   refine ⟨_,.inl ⟨_,.of e2,rfl⟩,?_⟩
   rw [if_neg (by decide)]
   have la2:as.length = d.2.2.length:=by omega
   rw [la2,Nat.sub_self,List.replicate_zero,List.append_nil] at e1
   exact q kn as H5 (S1.trans S5) e1 la2 fun j c hj=>(e3 j c hj).2.2
end
section
variable {P:Program} {w:World} {K:PySem.W.Frag} {mg:Str->Option Value} {base:Heap} {a:Ad}
noncomputable def Old (i:Nat) (kvs:List (List KeyT × V)):Prop:=∀ (j:Nat) (rest:List KeyT),i ≤ j->valV kvs (some (.inl (j:Int)) :: rest) = none
theorem Old.put {i:Nat} {kvs:List (List KeyT × V)} (h:Old (i + 1) kvs) {k:List KeyT} (hk:∃ rest,k = some (.inl (i:Int)) :: rest) (v:V):Old (i + 1) (putK kvs k v):=fun j rest ij=>by
 obtain ⟨r0,rfl⟩:=hk
 rw [zeS,if_neg (fun z=>by
  have:=(List.cons.inj z).1
  have:=Sum.inl.inj (Option.some.inj this)
  omega)]
 exact h j rest ij
noncomputable def MkAt (H:Hp) (i:Nat) (b:Addr):Prop:=∃ rest:List KeyT,H b = some (.tup ((some (.inl (i:Int)) :: rest).map kT))
theorem Same.kp_ {b:Addr} {H H':Hp} (S:Same H H'):Kp b H H':=fun q o h _=>S q o h
noncomputable def sp_meets:Sp:=fun vs H Q _=>∃ (m kl:Addr) (i:Nat) (ks:List V) (due:V) (kvs:List (List KeyT × V)),vs = [.ref m,.int i,.ref kl,due]∧H m = some (.dT kvs)∧Old i kvs∧kvs.length ≤ 30 * i∧i ≤ 20∧H kl = some (.lst ks)∧(∀ k ∈ ks,KV k)∧ks.length ≤ 24∧KV due ∧
 ∀ (kvs':List (List KeyT × V)) (H':Hp),Kp m H H'->H' m = some (.dT kvs')->Old (i + 1) kvs'->kvs'.length ≤ 30 * (i + 1)->Q (.bl true) H'
set_option maxHeartbeats 2000000 in
theorem zdg (T:Txt K mg a):FnOk P w K mg base CX0 1 a.f_meets_more a.d_meets_more ["met","at","kinds","due"] sp_meets:=by
 refine T.F_meets_more.okC sc_meets_more (fun vs H Q E h=>?_) (fun cdv A outer s H vs Q E hr h=>?_)
 ·obtain ⟨m,kl,i,ks,due,kvs,rfl,_⟩:=h
  rfl
 ·obtain ⟨m,kl,i,ks,due,kvs,rfl,hm,od,lk,i20,hk,kv,k24,kd,q⟩:=h
  have hu:=zaT hr
  refine ⟨_,(@zad _ _ _ _ _ (zaw (i:=4) sc_meets_more.nd (by rfl) (Or.inl rfl) (zaK op_cat (zav (zae (zas (@zac _ _ _ _ _ _ (pv 1) (zae zaR pa_nil))) pa_nil)) (zaW (N':=["p","kind","at","due"]) (cap:=[none,none,some 1,some 3]) ⟨rfl,(by decide +kernel),(by decide +kernel),(by rfl),rfl,(by rfl)⟩ (by rfl) (zev (by rfl) T.z_enumerate (@zac _ _ _ _ _ _ (pv 2) pa_nil)) (fun C_ ex_ s_ H_=>(zbo (n:=2) (by rfl) (zaA (zaq (i:=0) (show (["p","kind","at","due"]:List Str).Nodup by decide +kernel) (by rfl) (Or.inl rfl)) (zaA (zaq (i:=1) (show (["p","kind","at","due"]:List Str).Nodup by decide +kernel) (by rfl) (Or.inl rfl)) pgs_nil)))) (zbS (zaO (by rfl) (zaO (by rfl) zbi))) (fun C_ ex_ s_ H_=>(zcw (zak op_ne (pv 1) (pv 3) (zat _)))) (fun C_ ex_ s_ H_=>(zas (@zac _ _ _ _ _ _ (pv 2) (@zac _ _ _ _ _ _ (pv 0) pa_nil)))))))
   (@zad _ _ _ _ _ (zcb (i:=5) sc_meets_more.nd (by rfl) (Or.inl rfl) (N':=["mark","met"]) (cap:=[none,some 0]) ⟨rfl,(by decide +kernel),(by decide +kernel),(by rfl),rfl,(by rfl)⟩ (by rfl) (zaI (pv 4)) (fun C_ ex_ s_ H_=>(zaq (i:=0) (show (["mark","met"]:List Str).Nodup by decide +kernel) (by rfl) (Or.inl rfl))) zaS (fun C_ ex_ s_ H_=>(zcw (za9 (zfJ (by exact hu) (pv 0) (pv 1))))) (fun C_ ex_ s_ H_=>(pv 0)))
   (@zad _ _ _ _ _ (za0 PassesOwn.never (by rfl) (zaI (pv 5)) (zaq (i:=6) sc_meets_more.nd (by rfl) (Or.inl rfl))
   (@zaf _ _ _ (zhO hu (pv 0) (pv 6) zcU (by rfl))))
   (@zaf _ _ _ (zao (za1 op_gt (zax call_lenF (by rfl) T.z_len (by decide +kernel) (@zac _ _ _ _ _ _ (pv 5) pa_nil)) zag (zat _))))))),?_⟩
  generalize hG:tSeq (tAsg (zbJ _ _ _ _ _) _) _ = tail
  simp! []
  intro p np p1 np1
  have S1:Same H (upd (upd H p (.tup [V.int i,V.non])) p1 (.lst [V.ref p])):=(Same.laid np).step np1
  have a1:upd (upd H p (.tup [V.int i,V.non])) p1 (.lst [V.ref p]) p1 = some (.lst [V.ref p]):=zaa
  have a2:MkAt (upd (upd H p (.tup [V.int i,V.non])) p1 (.lst [V.ref p])) i p:=⟨[none],zab zaa np1⟩
  revert S1 a1 a2
  generalize upd (upd H p (.tup [V.int i,V.non])) p1 (.lst [V.ref p]) = H1
  intro S1 a1 a2
  have hk1:=S1 _ _ hk
  refine zhM (H1:=H1) kl ks (fun Q2 h2=>by simp! []; exact h2) (.of hk1) (fun D j ys H2=>∃ ts:List Addr,ys = ts.map V.ref∧ts.length ≤ j∧Same H1 H2∧H2 D = some (.lst ys)∧∀ t ∈ ts,MkAt H2 i t) (fun D nD=>⟨[],rfl,Nat.le_refl _,.laid nD,zaa,fun t h=>by simp at h⟩) ?_ (by rw [sizeLine_eq]; omega) ?_ ?_
  ·rintro D nD j ys H2 hj ⟨ts,rfl,lt,S2,e2,_⟩
   exact ⟨.of (S2 _ _ hk1),e2,by rw [List.length_map]; exact lt⟩
  ·rintro D nD j x p2 ys H2 hx ⟨ts,rfl,lt,S2,e2,ta⟩ np2
   refine za7 zaa rfl ?_
   have sc:=(kv x (List.mem_of_getElem? hx)).scalK kd
   simp! [zaG,tTrue]
   refine ⟨sc,?_⟩
   have S3:Same H1 (upd H2 p2 (.tup [V.int j,x])):=S2.step np2
   have b1:=zab (u:=.tup [V.int j,x]) e2 np2
   have b2:∀ t ∈ ts,MkAt (upd H2 p2 (.tup [V.int j,x])) i t:=fun t ht=>by
    obtain ⟨rest,e⟩:=ta t ht
    exact ⟨rest,zab e np2⟩
   revert S3 b1 b2
   generalize upd H2 p2 (.tup [V.int j,x]) = H3
   intro S3 b1 b2
   by_cases c:x = due
   ·rw [if_neg (fun z=>z c)]
    exact ⟨ts,rfl,by omega,S3,b1,b2⟩
   ·rw [if_pos c]
    intro t nt
    refine ⟨zab b1 nt,ts ++ [t],by rw [List.map_append]; rfl,by rw [List.length_append,List.length_singleton]; omega,zaz (fun c o e=>zab (S3 _ _ e) nt) nD,fun t' ht=>?_⟩
    rcases List.mem_append.mp ht with ht | ht
    ·obtain ⟨rest,e⟩:=b2 t' ht
     exact ⟨rest,by rw [zaj (fun z=>by rw [z,b1] at e; cases e)]; exact zab e nt⟩
    ·rw [List.mem_singleton.mp ht]
     exact ⟨[some (.inl (j:Int))],by rw [zaj (fun z=>by rw [z,b1] at nt; cases nt)]; exact zaa⟩
  ·rintro D nD ys H2 ⟨ts,rfl,lt,S2,e2,ta⟩
   refine ⟨p1,D,_,_,rfl,rfl,S2 _ _ a1,e2,by rw [sizeLine_eq,List.length_map,List.length_singleton]; omega,fun ml nml=>?_⟩
   have S3:Same H (upd H2 ml (.lst ([V.ref p] ++ ts.map V.ref))):=(S1.trans S2).step nml
   have b1:upd H2 ml (.lst ([V.ref p] ++ ts.map V.ref)) ml = some (.lst ((p :: ts).map V.ref)):=zaa
   have b2:∀ t ∈ p :: ts,MkAt (upd H2 ml (.lst ([V.ref p] ++ ts.map V.ref))) i t:=fun t ht=>by
    have:MkAt H2 i t:=by
     rcases List.mem_cons.mp ht with rfl | ht
     ·obtain ⟨rest,e⟩:=a2
      exact ⟨rest,S2 _ _ e⟩
     ·exact ta t ht
    obtain ⟨rest,e⟩:=this
    exact ⟨rest,zab e nml⟩
   revert S3 b1 b2
   generalize upd H2 ml (.lst ([V.ref p] ++ ts.map V.ref)) = H3
   intro S3 b1 b2
   subst hG
   simp! []
   refine zeo (H1:=H3) ml ((p :: ts).map V.ref) (fun Q2 h2=>by simp! []; exact h2) (.of b1) (fun D j ys H4=>Same H3 H4∧ys = ((p :: ts).take j).map V.ref∧H4 D = some (.lst ys)) (fun D nD=>⟨.laid nD,rfl,zaa⟩) ?_ (by rw [sizeLine_eq,List.length_map,List.length_cons]; omega) ?_ ?_
   ·rintro D2 nD2 j ys H4 hj ⟨S4,rfl,e4⟩
    exact ⟨.of (S4 _ _ b1),e4,by rw [List.length_map,List.length_take]; omega⟩
   ·rintro D2 nD2 j x ys H4 hx ⟨S4,rfl,e4⟩
    obtain ⟨z,hz,rfl⟩:=zay hx
    obtain ⟨rest,ez⟩:=b2 z (List.mem_of_getElem? hz)
    simp! [zaG,tTrue,zfW]
    refine ⟨_,DGet.t (S4 _ _ (S3 _ _ hm)) (S4 _ _ ez),?_⟩
    rw [od i rest (Nat.le_refl _),if_pos (by rfl)]
    refine ⟨e4,zaz S4 nD2,?_⟩
    rw [List.take_succ,hz,List.map_append]
    rfl
   ·rintro D2 nD2 ys H4 ⟨S4,rfl,e4⟩
    rw [List.length_map,List.take_length] at e4
    have n1:(p :: ts).length ≤ 25:=by rw [List.length_cons]; omega
    have S34:=S3.trans S4
    have b4:∀ t ∈ p :: ts,MkAt H4 i t:=fun t ht=>by
     obtain ⟨rest,e⟩:=b2 t ht
     exact ⟨rest,S4 _ _ e⟩
    have mD:m ≠ D2:=zan (S3 _ _ hm) nD2
    have len1:1 ≤ (p :: ts).length:=by rw [List.length_cons]; omega
    revert e4 n1 b4 len1
    generalize p :: ts = as
    intro e4 n1 b4 len1
    refine forL (H1:=H4) D2 (as.map V.ref) (fun Q2 h2=>by simp! []; exact h2) (fun j σ H5=>∃ (v6:Option V) (kvs':List (List KeyT × V)),σ = [some (V.ref m),some (V.int i),some (V.ref kl),some due,some (V.ref ml),some (V.ref D2),v6]∧Kp m H4 H5∧H5 m = some (.dT kvs')∧Old (i + 1) kvs'∧kvs'.length ≤ kvs.length + j) ⟨none,kvs,rfl,Kp.refl,S34 _ _ hm,fun j rest ij=>od j rest (by omega),Nat.le_refl _⟩ (fun j σ H5 _ ⟨_,_,_,k5,_⟩=>.of (k5 _ _ e4 mD.symm)) ?_ ?_
    ·rintro j x σ H5 hx ⟨v6,kvs',rfl,k5,h5,o5,l5⟩
     obtain ⟨z,hz,rfl⟩:=zay hx
     have jl:=(List.getElem?_eq_some_iff.mp hz).1
     obtain ⟨rest,ez⟩:=b4 z (List.mem_of_getElem? hz)
     have zm:z ≠ m:=fun e=>by
      have h6:=S34 _ _ hm
      rw [e,h6] at ez
      cases ez
     have ll:=zbj kvs' (some (.inl (i:Int)) :: rest) (V.bl true)
     unfold ziD
     simp! []
     refine ⟨_,DPut.t h5 (k5 _ _ ez zm) (by rw [sizeLine_eq]; omega),?_⟩
     refine ⟨fun q o e n=>?_,_,zaa,o5.put ⟨rest,rfl⟩ _,by omega⟩
     rw [zaj n]
     exact k5 q o e n
    ·rintro σ H5 ⟨v6,kvs',rfl,k5,h5,o5,l5⟩
     rw [List.length_map] at l5
     have e5:=k5 _ _ e4 mD.symm
     simp! [e5]
     rw [decide_eq_true (by rw [List.length_map]; omega)]
     exact q kvs' H5 (fun q' o e n=>k5 q' o (S34 _ _ e) n) h5 o5 (by omega)
end
section
variable {P:Program} {w:World} {K:PySem.W.Frag} {mg:Str->Option Value} {base:Heap} {a:Ad}
noncomputable def rngV (n:Nat):List V:=(List.range n).map fun k:Nat=>V.int (k:Int)
theorem zbp {n:Nat}:rngV (n + 1) = rngV n ++ [.int (n:Int)]:=by unfold rngV; rw [List.range_succ,List.map_append]; rfl
theorem zbd {n:Nat}:(rngV n).length = n:=by unfold rngV; rw [List.length_map,List.length_range]
noncomputable def WayS (pl D m:Addr) (f at_ p i:Nat) (due:V) (ks:Nat->List V) (H:Hp) (σ:St) (H4:Hp):Prop:=∃ (W t wl kl:Addr) (kvs:List (List KeyT × V)) (v8 v9 v10 v11 v12:Option V),σ = [some (V.ref pl),some (V.int f),some (V.ref D),some (V.int at_),some (V.int p),some due,some (V.ref m),some (V.ref W),v8,v9,v10,v11,v12]∧H4 W = some (.lst [V.ref t])∧H4 t = some (.tup [V.ref wl,V.ref kl])∧H4 wl = some (.lst (rngV (i + 1)))∧H4 kl = some (.lst (ks i))∧H4 m = some (.dT kvs)∧Old i kvs∧kvs.length ≤ 30 * i∧Same H H4
noncomputable def sp_way:Sp:=fun vs H Q _=>∃ (pl D:Addr) (f at_ p:Nat) (due:V) (tb:Tbs) (das:List (Addr × Addr × List Addr)) (ds:List Df) (d:Df),vs = [.ref pl,.int f,.ref D,.int at_,.int p,due]∧ProgAt H pl das ds∧PX ds∧ds[f]? = some d∧ToldAt H D f tb∧at_ < d.2.2.length∧p < (8 + d.2.1).toNat∧KV due∧(kA (gvs ds) (tbAt tb f) d at_).getD p .non ≠ due ∧
 ∀ (l:Addr) (H':Hp),Same H H'->H' l = some (.lst (rngV (at_ + 1)))->Q (.ref l) H'
set_option maxHeartbeats 2000000 in
theorem zcF (T:Txt K mg a):FnOk P w K mg base CX0 4 a.f_spoiling_way a.d_spoiling_way ["program","f","told","at","p","due"] sp_way:=by
 refine T.F_spoiling_way.okC sc_spoiling_way (fun vs H Q E h=>?_) (fun cdv A outer s H vs Q E hr h=>?_)
 ·obtain ⟨pl,D,f,at_,p,due,tb,das,ds,d,rfl,_⟩:=h
  rfl
 ·obtain ⟨pl,D,f,at_,p,due,tb,das,ds,d,rfl,PR,X,hd,TO,al,pl_,kd,nb,q⟩:=h
  have hu:=zaT hr
  have lp:=PR.len
  have fl:=(List.getElem?_eq_some_iff.mp hd).1
  have f2:f < 2:=by rw [← X.l2]; exact fl
  have flp:f < das.length:=by omega
  have hda:=List.getElem?_eq_getElem (l:=das) (i:=f) flp
  obtain ⟨g1,g2⟩:=PR.def_ f _ _ hda hd
  have topp:=PR.top
  have ap:atI (das.map fun a=>V.ref a.1) ((f:Nat):Int) = some (.ref das[f].1):=zau (by rw [List.getElem?_map,hda]; rfl)
  have topr:=g2.top
  have DF:=X.pf.defs d (List.mem_of_getElem? hd)
  have LN_:=X.ln d (List.mem_of_getElem? hd)
  have n0:=DF.n0
  have n20:=LN_.n20
  have w0:=DF.w0
  have w1:=DF.w1
  have lr:=g2.len
  have wf:(fun i=>(ds.getD i (("",""),0,[])).2.1) f = d.2.1:=by dsimp only; rw [List.getD_eq_getElem?_getD,hd]; rfl
  have sga:=X.pf.sg.asc _ (List.mem_of_getElem? (zbU hd))
  refine ⟨_,(@zad _ _ _ _ _ (zaw (i:=6) sc_spoiling_way.nd (by rfl) (Or.inl rfl) pe_dnewT)
   (@zad _ _ _ _ _ (@zbm _ 7 _ _ _ _ _ _ sc_spoiling_way.nd (by rfl) (Or.inl rfl) (zae (zas (zae (zav (@zai _ _ _ _ _ _ pa_nil)) (zae (zal (zbG T) (hr.mono (by decide)) (by rfl) T.m_first_kinds T.F_first_kinds.kp T.b_first_kinds .nil zaC (@zac _ _ _ _ _ _ (pv 0) (@zac _ _ _ _ _ _ (pv 1) pa_nil))) pa_nil))) pa_nil) (by first | exact .inl (by rfl) | exact .inr (by rfl) | assumption))
   (@zad _ _ _ _ _ (zcC PassesOwn.never (zdE (pv 7) (fun _=>rfl)) (@zad _ _ _ _ _ (zaw (i:=8) sc_spoiling_way.nd (by rfl) (Or.inl rfl) (zav pa_nil))
   (@zad _ _ _ _ _ (za0 PassesOwn.never (by rfl) (zaI (pv 7)) (zbo (n:=2) (by rfl) (zaA (zaq (i:=9) sc_spoiling_way.nd (by rfl) (Or.inr rfl)) (zaA (zaq (i:=10) sc_spoiling_way.nd (by rfl) (Or.inl rfl)) pgs_nil)))
   (@zad _ _ _ _ _ (zaw (i:=11) sc_spoiling_way.nd (by rfl) (Or.inl rfl) (zah ix_F (pv 9) (zgV un_neg zag) (fun _ _=>rfl)))
   (@zad _ _ _ _ _ (@zaD _ _ _ _ _ _ _ _ (PW.pt (zcm (zak op_eq (pv 11) (pv 3) (zat _)) (zbP (zak op_ne (zah ix_F (pv 10) (pv 4) (fun _ _=>rfl)) (pv 5) (zat _))))) (@zaf _ _ _ (zao (pv 9))) pss_nil)
   (@zaf _ _ _ (@zaD _ _ _ _ _ _ _ _ (zbh (zal (zdg T) (hr.mono (by decide)) (by rfl) T.m_meets_more T.F_meets_more.kp T.b_meets_more .nil zaC (@zac _ _ _ _ _ _ (pv 6) (@zac _ _ _ _ _ _ (pv 11) (@zac _ _ _ _ _ _ (pv 10) (@zac _ _ _ _ _ _ (pv 5) pa_nil)))))) (@zad _ _ _ _ _ (zaw (i:=12) sc_spoiling_way.nd (by rfl) (Or.inr rfl) (zal (zdQ T) (hr.mono (by decide)) (by rfl) T.m_behind T.F_behind.kp T.b_behind .nil zaC (@zac _ _ _ _ _ _ (pv 0) (@zac _ _ _ _ _ _ (pv 1) (@zac _ _ _ _ _ _ (pv 11) (@zac _ _ _ _ _ _ (pv 10) (zae (zdi hu (pv 2) (pv 11) ⟨rfl,rfl,rfl,rfl⟩) pa_nil)))))))
   (@zaf _ _ _ (za6 (zct PySem.F.plainAttrs_list PySem.F.slot_list_extend PySem.F.type_list_extend mt_extend (pv 8) (zae (zaW (N':=["t","left","way"]) (cap:=[none,some 12,some 9]) ⟨rfl,(by decide +kernel),(by decide +kernel),(by rfl),rfl,(by rfl)⟩ (by rfl) (zaI (zal (zdo T) (hr.mono (by decide)) (by rfl) T.m_nexts T.F_nexts.kp T.b_nexts .nil zaC (zae (zah ix_F (zah ix_F (pv 0) (pv 1) (fun _ _=>rfl)) zag (fun _ _=>rfl)) (@zac _ _ _ _ _ _ (pv 11) pa_nil)))) (fun C_ ex_ s_ H_=>(zaq (i:=0) (show (["t","left","way"]:List Str).Nodup by decide +kernel) (by rfl) (Or.inl rfl))) zaS (fun C_ ex_ s_ H_=>zaJ) (fun C_ ex_ s_ H_=>(zas (zae (zaK op_cat (pv 2) (zav (@zac _ _ _ _ _ _ (pv 0) pa_nil))) (@zac _ _ _ _ _ _ (pv 1) pa_nil))))) pa_nil))))) pss_nil)))))
   (@zaf _ _ _ (zaw (i:=7) sc_spoiling_way.nd (by rfl) (Or.inl rfl) (pv 8))))))
   (@zaf _ _ _ (zao zaR))))),?_⟩
  generalize hG:tSeq (zeO _ _) _ = tail
  simp! [tDNewT]
  intro m nm wl nwl
  have S1:Same H (upd (upd H m (.dT [])) wl (.lst [V.int 0])):=(Same.laid nm).step nwl
  have a1:upd (upd H m (.dT [])) wl (.lst [V.int 0]) m = some (.dT []):=zab zaa nwl
  have a2:upd (upd H m (.dT [])) wl (.lst [V.int 0]) wl = some (.lst (rngV (0 + 1))):=zaa
  revert S1 a1 a2
  generalize upd (upd H m (.dT [])) wl (.lst [V.int 0]) = H1
  intro S1 a1 a2
  refine ⟨pl,f,_,_,_,d.2.1,d.1,rfl,PgB.of (PR.same S1) X.l2,wf,f2,zbU hd,sga.1,sga.2,w0,w1,fun l0 H2 nl0 S2 hl0=>fun t0 nt0=>fun W nW=>?_⟩
  have S3:Same H1 (upd (upd H2 t0 (.tup [V.ref wl,V.ref l0])) W (.lst [V.ref t0])):=(S2.step nt0).step nW
  have b1:upd (upd H2 t0 (.tup [V.ref wl,V.ref l0])) W (.lst [V.ref t0]) W = some (.lst [V.ref t0]):=zaa
  have b2:upd (upd H2 t0 (.tup [V.ref wl,V.ref l0])) W (.lst [V.ref t0]) t0 = some (.tup [V.ref wl,V.ref l0]):=zab zaa nW
  have b3:upd (upd H2 t0 (.tup [V.ref wl,V.ref l0])) W (.lst [V.ref t0]) l0 = some (.lst (kA (gvs ds) (tbAt tb f) d 0)):=zab (zab hl0 nt0) nW
  revert S3 b1 b2 b3
  generalize upd (upd H2 t0 (.tup [V.ref wl,V.ref l0])) W (.lst [V.ref t0]) = H3
  intro S3 b1 b2 b3
  subst hG
  refine ⟨fun n σ H4=>∃ i:Nat,n = at_ + 1 - i∧i ≤ at_∧WayS pl D m f at_ p i due (kA (gvs ds) (tbAt tb f) d) H σ H4,⟨_,0,rfl,by omega,W,t0,wl,l0,[],none,none,none,none,none,rfl,b1,b2,S3 _ _ a2,b3,S3 _ _ a1,fun _ _ _=>rfl,by simp,S1.trans S3⟩,?_⟩
  clear S3 b1 b2 b3 hl0 nW nt0 S2 nl0 a1 a2 S1
  rintro n σ H4 ⟨i,rfl,i1,W,t,wl,kl,kvs,v8,v9,v10,v11,v12,rfl,e1,e2,e3,e4,e5,od,lk,S4⟩
  obtain ⟨N,hN⟩:∃ N:St->Hp->Prop,∀ σ' H',N σ' H' ↔ i + 1 ≤ at_∧WayS pl D m f at_ p (i + 1) due (kA (gvs ds) (tbAt tb f) d) H σ' H':=⟨_,fun _ _=>Iff.rfl⟩
  simp! []
  refine ⟨_,.inl ⟨_,.of e1,rfl⟩,?_⟩
  rw [if_pos (by rfl)]
  refine ⟨N,fun σ' H' h=>⟨_,by omega,i + 1,rfl,((hN σ' H').mp h).1,((hN σ' H').mp h).2⟩,?_⟩
  intro lg nlg
  have c1:=zab (u:=.lst []) e1 nlg
  have c2:=zab (u:=.lst []) e2 nlg
  have c3:=zab (u:=.lst []) e3 nlg
  have c4:=zab (u:=.lst []) e4 nlg
  have c5:=zab (u:=.lst []) e5 nlg
  have S5:Same H (upd H4 lg (.lst [])):=S4.step nlg
  have nlg0:H lg = none:=S4.free nlg
  have c6:upd H4 lg (.lst []) lg = some (.lst []):=zaa
  have lgW:lg ≠ W:=(zan e1 nlg).symm
  revert c1 c2 c3 c4 c5 c6 S5
  generalize upd H4 lg (.lst []) = H5
  intro c1 c2 c3 c4 c5 S5 c6
  refine zes (fun a H1=>a = W∧H1 = H5) (fun Q2 hQ=>by simp! []; exact hQ W H5 ⟨rfl,rfl⟩) ?_
  rintro a6 H6 ⟨e6,e7⟩
  rw [e6,e7]
  clear e6 e7 a6 H6
  obtain ⟨Po,hPo⟩:∃ Po:St->Hp->Prop,∀ σ' H',Po σ' H' ↔ i + 1 ≤ at_∧H' W = some (.lst [V.ref t])∧∃ (t wl kl:Addr) (kvs:List (List KeyT × V)) (v9 v10 v11 v12:Option V),σ' = [some (V.ref pl),some (V.int f),some (V.ref D),some (V.int at_),some (V.int p),some due,some (V.ref m),some (V.ref W),some (V.ref lg),v9,v10,v11,v12]∧H' lg = some (.lst [V.ref t])∧H' t = some (.tup [V.ref wl,V.ref kl])∧H' wl = some (.lst (rngV (i + 1 + 1)))∧H' kl = some (.lst (kA (gvs ds) (tbAt tb f) d (i + 1)))∧H' m = some (.dT kvs)∧Old (i + 1) kvs∧kvs.length ≤ 30 * (i + 1)∧Same H H':=⟨_,fun _ _=>Iff.rfl⟩
  refine for1 (H:=H5) c1 Po (fun σ' H' h=>((hPo σ' H').mp h).2.1) ?_ ?_
  ·refine za7 c2 rfl ?_
   have aw:atI (rngV (i + 1)) (-1) = some (.int (i:Int)):=by rw [zbp]; exact zcB _ _
   simp! [c3,aw,c4]
   obtain ⟨kv1,kv2⟩:=zcO PR X hd (t:=tbAt tb f) i
   by_cases ci:i = at_
   ·subst ci
    rw [if_pos rfl]
    have hp:=List.getElem?_eq_getElem (l:=kA (gvs ds) (tbAt tb f) d i) (i:=p) (by rw [kv2]; exact pl_)
    rw [List.getD_eq_getElem?_getD,hp,Option.getD_some] at nb
    refine ⟨_,zau hp,(kv1 _ (List.mem_of_getElem? hp)).scalK kd,?_⟩
    rw [if_pos (show ¬ _ = due from nb)]
    exact q wl H5 S5 c3
   ·have ci':¬ ((i:Int) = (at_:Int)):=fun z=>ci (Int.ofNat.inj z)
    rw [if_neg ci']
    have ia:i + 1 ≤ at_:=by omega
    refine ⟨m,kl,i,_,due,kvs,rfl,c5,od,lk,by omega,c4,kv1,by rw [kv2]; omega,kd,fun kvs' H6 k6 h6 o6 l6=>⟨true,rfl,?_⟩⟩
    rw [if_pos rfl]
    have nm_:∀ {q:Addr} {xs:List V},H5 q = some (.lst xs)->H6 q = some (.lst xs):=fun e=>k6 _ _ e (fun z=>by rw [z,c5] at e; cases e)
    have nt_:∀ {q:Addr} {xs:List V},H5 q = some (.tup xs)->H6 q = some (.tup xs):=fun e=>k6 _ _ e (fun z=>by rw [z,c5] at e; cases e)
    have d1:=nm_ c1
    have d3:=nm_ c3
    have d4:=nm_ c4
    have d6:=nm_ c6
    have S6:Same H H6:=fun q o e=>k6 q o (S5 _ _ e) (zan e nm)
    have ci1:i < d.2.2.length:=by omega
    have hri:=List.getElem?_eq_getElem (l:=d.2.2) (i:=i) ci1
    generalize hr0:d.2.2[i] = r at hri
    have RF:=DF.rows r (List.mem_of_getElem? hri)
    have hra:=List.getElem?_eq_getElem (l:=das[f].2.2) (i:=i) (by rw [lr]; exact ci1)
    have PR6:=PR.same S6
    obtain ⟨tvs,t1,t2,t3⟩:=(TO.same S6).ex
    unfold ze3
    simp! []
    refine ⟨.inl ⟨tvs,.inl t1⟩,_,.inl ⟨tvs,.inl (i:Int),.inl t1,rfl,rfl⟩,?_⟩
    obtain ⟨g61,g62⟩:=PR6.def_ f _ _ hda hd
    obtain ⟨us,ru,PA⟩:=g62.row i _ _ hra hri
    have RO:=RowOk.of RF PA (by rw [List.length_map,X.l2])
    refine ⟨pl,kl,das[f].2.2[i],das[f].2.1,das[f].1,f,i,_,tbAt tb f i,_,_,_,d.2.1,das[f].2.2,r.1,us,_,rfl,PgB.of PR6 X.l2,wf,f2,by rw [List.getElem?_map,hda]; rfl,g62.top,hra,ru,RO,t3 i,d4,kv1,by rw [kv2]; omega,w1,fun lf H7 nlf S7 hlf=>?_⟩
    rw [zfK (zb0 PA),show List.map (·.2) (ds.map (·.1)) = gvs ds from rfl,← zbO hri] at hlf
    have S17:=S6.trans S7
    have f6:=S7 _ _ d6
    simp! [tBM]
    refine ⟨.inl ⟨rfl,_,.of f6⟩,?_⟩
    have topp7:=S17 _ _ topp
    have g17:=S17 _ _ g1
    refine zgv (fun l H8=>H8 l = some (.lst [.int ((i + 1:Nat):Int)])∧Same H7 H8) (fun Q2 hQ=>?_) ?_
    ·simp! [topp7,ap,g17]
     exact ⟨das[f].2.1,i,das[f].2.2,d.2.2,r,d.2.1,d.2.2.length,ds.map (·.1),rfl,((PR.same S17).def_ f _ _ hda hd).2,hri,RF,by omega,by omega,fun l H8 nl S8 hl=>hQ l H8 ⟨by rw [LN_.mid i r hri (by omega)] at hl; exact hl,S8⟩⟩
    rintro l H8 ⟨hl,S8⟩
    refine zeo (H1:=H8) l [.int ((i + 1:Nat):Int)] (fun Q2 h2=>h2) (.of hl) (fun D' j ys H9=>Same H8 H9∧H9 D' = some (.lst ys)∧(j = 0->ys = [])∧j ≤ 1∧(j = 1->∃ t wl',ys = [V.ref t]∧H9 t = some (.tup [V.ref wl',V.ref lf])∧H9 wl' = some (.lst (rngV (i + 1 + 1))))) (fun D' nD=>⟨.laid nD,zaa,fun _=>rfl,by omega,fun z=>absurd z (by decide)⟩) ?_ (by rw [sizeLine_eq,List.length_singleton]; decide) ?_ ?_
    ·rintro D' nD j ys H9 hj ⟨S9,h9,e0,j1,e1⟩
     refine ⟨.of (S9 _ _ hl),h9,?_⟩
     match j,e0,j1,e1 with
     | 0,e0,_,_=>rw [e0 rfl]; exact Nat.le_refl _
     | 1,_,_,e1=>obtain ⟨_,_,e,_⟩:=e1 rfl; rw [e]; exact Nat.le_refl _
     | j + 2,_,j1,_=>omega
    ·rintro D' nD j x ys H9 hx ⟨S9,h9,e0,j1,_⟩
     match j,hx,e0 with
     | 0,hx,e0 =>
     cases hx
     have e0:=e0 rfl
     subst e0
     simp! [zaG,tTrue]
     intro p3 np3
     have wD:∀ {q:Addr} {o:HO},H9 q = some o->upd H9 p3 (.lst [V.int ((i + 1:Nat):Int)]) q = some o:=fun e=>zab e np3
     have d9:=S9 _ _ (S8 _ _ (S7 _ _ d3))
     refine ⟨wl,p3,_,_,rfl,rfl,wD d9,zaa,by rw [sizeLine_eq,zbd,List.length_singleton]; omega,fun w3 nw3 t3_ nt3=>?_⟩
     have b1:upd (upd (upd H9 p3 (.lst [V.int ((i + 1:Nat):Int)])) w3 (.lst (rngV (i + 1) ++ [V.int ((i + 1:Nat):Int)]))) t3_ (.tup [V.ref w3,V.ref lf]) D' = some (.lst []):=zab (zab (wD h9) nw3) nt3
     have b2:upd (upd (upd H9 p3 (.lst [V.int ((i + 1:Nat):Int)])) w3 (.lst (rngV (i + 1) ++ [V.int ((i + 1:Nat):Int)]))) t3_ (.tup [V.ref w3,V.ref lf]) w3 = some (.lst (rngV (i + 1 + 1))):=by rw [zbp (n:=i + 1)]; exact zab zaa nt3
     have b3:upd (upd (upd H9 p3 (.lst [V.int ((i + 1:Nat):Int)])) w3 (.lst (rngV (i + 1) ++ [V.int ((i + 1:Nat):Int)]))) t3_ (.tup [V.ref w3,V.ref lf]) t3_ = some (.tup [V.ref w3,V.ref lf]):=zaa
     have S10:Same H8 (upd (upd (upd H9 p3 (.lst [V.int ((i + 1:Nat):Int)])) w3 (.lst (rngV (i + 1) ++ [V.int ((i + 1:Nat):Int)]))) t3_ (.tup [V.ref w3,V.ref lf])):=((S9.step np3).step nw3).step nt3
     have wne:w3 ≠ D':=fun z=>by
      have:=wD h9
      rw [← z,nw3] at this
      cases this
     revert b1 b2 b3 S10
     generalize upd (upd (upd H9 p3 (.lst [V.int ((i + 1:Nat):Int)])) w3 (.lst (rngV (i + 1) ++ [V.int ((i + 1:Nat):Int)]))) t3_ (.tup [V.ref w3,V.ref lf]) = H10
     intro b1 b2 b3 S10
     refine ⟨b1,Same.new S10 nD,fun z=>z.elim,fun _=>⟨w3,?_,?_⟩⟩
     ·rw [zaj (fun z=>by rw [z,b1] at b3; cases b3)]
      exact b3
     ·rw [zaj wne]
      exact b2
     | j + 1,hx,_=>simp at hx
    ·rintro D' nD ys H9 ⟨S9,h9,_,_,e1⟩
     obtain ⟨t',wl',rfl,k1,k2⟩:=e1 rfl
     have S79:Same H7 H9:=S8.trans S9
     have lgD:∀ {q:Addr} {o:HO},H9 q = some o->q ≠ lg->upd H9 lg (.lst ([] ++ [V.ref t'])) q = some o:=fun e n=>by rw [zaj n]; exact e
     have f9:=S79 _ _ f6
     refine ⟨lg,D',_,_,rfl,rfl,f9,h9,by rw [sizeLine_eq]; exact Nat.le_of_ble_eq_true rfl,?_⟩
     refine (hPo _ _).mpr ⟨ia,lgD (S79 _ _ (S7 _ _ d1)) lgW.symm,t',wl',lf,kvs',_,_,_,_,rfl,zaa,lgD k1 (fun z=>by rw [z,f9] at k1; cases k1),lgD k2 (fun z=>?_),lgD (S79 _ _ hlf) (fun z=>?_),lgD (S79 _ _ (S7 _ _ h6)) (fun z=>?_),o6,l6,fun q o e=>lgD (S79 _ _ (S17 _ _ e)) (zan e nlg0)⟩
     ·rw [z,f9] at k2
      rw [zbp] at k2
      have:=congrArg List.length (HO.lst.inj (Option.some.inj k2))
      simp at this
     ·rw [z] at nlf
      rw [d6] at nlf
      cases nlf
     ·rw [z,d6] at h6
      cases h6
  ·intro σ' H' h
   obtain ⟨h1,h2,t',wl',kl',kvs',v9',v10',v11',v12',rfl,h3,h4,h5,h6,h7,h8,h9,h10⟩:=(hPo _ _).mp h
   simp! []
   exact (hN _ _).mpr ⟨h1,lg,t',wl',kl',kvs',_,_,_,_,_,rfl,h3,h4,h5,h6,h7,h8,h9,h10⟩
end
section
variable {P:Program} {w:World} {K:PySem.W.Frag} {mg:Str->Option Value} {base:Heap} {a:Ad}
noncomputable def ffn {α:Type} (g:Nat->Option α):Nat->Option α
 | 0=>none
 | n + 1=>match ffn g n with
  | some x=>some x
  | none=>g n
theorem zcv {α:Type} {g:Nat->Option α} {i:Nat} (h:ffn g i = none) (hx:g i = none):ffn g (i + 1) = none:=by
 show (match ffn g i with | some x=>some x | none=>g i) = none
 rw [h]
 exact hx
theorem zb3 {α:Type} {g:Nat->Option α} {i:Nat} {x:α} (h:ffn g i = none) (hx:g i = some x):∀ {n:Nat},i < n->ffn g n = some x
 | n + 1,hn=>by
  show (match ffn g n with | some x=>some x | none=>g n) = some x
  by_cases c:i = n
  ·subst c
   rw [h]
   exact hx
  ·rw [zb3 h hx (show i < n by omega)]
noncomputable def duL (ds:List Df) (t:Nat->Tb) (d:Df) (i:Nat):List (V × V):=match d.2.2[i]? with
 | some r=>usV (ds.map (·.1)) d.1.2 r ++ tbD (t i)
 | none=>[]
noncomputable def badD (ks:List V) (x:V × V):Bool:=match x.1 with
 | .int p=>!decide (ks.getD p.toNat .non = x.2)
 | _=>false
noncomputable def rowF (ds:List Df) (t:Nat->Tb) (d:Df) (i:Nat):Option (Nat × V × V):=((duL ds t d i).find? (badD (kA (gvs ds) t d i))).map fun x=>(i,x)
noncomputable def defF (ds:List Df) (t:Nat->Tb) (f:Nat) (d:Df):Option (Nat × Nat × V × V):=(ffn (rowF ds t d) d.2.2.length).map fun x=>(f,x)
noncomputable def prgF (ds:List Df) (tb:Tbs):Option (Nat × Nat × V × V):=ffn (fun f=>ds[f]?.bind fun d=>defF ds (tbAt tb f) f d) 2
noncomputable def FltV (H:Hp) (v:V):Option (Nat × Nat × V × V)->Prop
 | none=>v = .non
 | some (f,i,x,y)=>∃ t l,v = .ref t∧H t = some (.tup [.int (f:Int),.int (i:Int),x,y,.ref l])∧H l = some (.lst (rngV (i + 1)))
noncomputable def zdM (ds:List Df):Tbs->Prop
 | none=>True
 | some (f0,_,hs,ps)=>(∀ d,ds[f0]? = some d->(∀ h ∈ hs,0 ≤ h∧h < 8 + d.2.1)∧∀ p ∈ ps,0 ≤ p.1∧p.1 < 8 + d.2.1∧0 ≤ p.2)∧hs.length + ps.length ≤ 100
noncomputable def zfu (places:Int) (x:V × V):Prop:=∃ p:Nat,x.1 = .int (p:Int)∧(p:Int) < places∧KV x.2
theorem zaH.pl {words many:Int} {sg:List Sg} {r:Row} (F:zaH words many sg r):∃ ls,(r.1,ls) ∈ LW∧∀ i:Nat,ls.cps[i]? = some 112->∃ p:Nat,zaF r i = .int (p:Int)∧(p:Int) < 8 + words:=by
 obtain ⟨ls,m,l,pf⟩:=F
 refine ⟨ls,m,fun i hi=>?_⟩
 have il:i < ls.cps.size:=(Array.getElem?_eq_some_iff.mp hi).1
 have e2:=List.getElem?_eq_getElem (l:=r.2) (i:=i) (by omega)
 obtain ⟨x,e,x0,x1⟩:=(pf.at_ i 112 _ hi e2).pl
 obtain ⟨n,rfl⟩:=Int.eq_ofNat_of_zero_le x0
 refine ⟨n,?_,x1⟩
 unfold zaF
 rw [e2,e]
theorem UST_nh:∀ p ∈ UST,∀ q ∈ p.2,q.2 = "n" ∨ q.2 = "h":=by decide +kernel
theorem zhT {words many:Int} {sg:List Sg} {gives:Str} {r:Row} (F:zaH words many sg r) (SF:SgFit sg) (gv:gives = "n" ∨ gives = "h"):∀ x ∈ usV sg gives r,zfu (8 + words) x:=by
 obtain ⟨ls,m,pl⟩:=F.pl
 obtain ⟨s1,s2,s3,s4⟩:=LW_s _ m
 dsimp only at s1 s2 s3 s4
 intro x hx
 unfold usV at hx
 split at hx
 ·rename_i c
  obtain ⟨ls',m',l',pf⟩:=F
  have e':=(LW_s _ m').2.2.2 c
  dsimp only at e'
  subst e'
  split at hx
  ·rename_i a g l e
   obtain ⟨z1,z2⟩:=List.of_mem_zip (a:=x.1) (b:=x.2) hx
   obtain ⟨y,hy,e1⟩:=List.mem_map.mp z1
   obtain ⟨c',hc,e2⟩:=List.mem_map.mp z2
   have:=pf.at_ 2 113 (.inr l) (by decide) (by rw [e]; rfl)
   rcases this with ⟨q,_⟩ | ⟨q,_⟩ | ⟨q,_⟩ | ⟨q,_⟩ | ⟨q,_⟩ | ⟨_,f,l2,z,p1,p2,p3,p4,p5⟩
   ·exact absurd q (by decide)
   ·exact absurd q (by decide)
   ·exact absurd q (by decide)
   ·exact absurd q (by decide)
   ·exact absurd q (by decide)
   ·cases p3
    obtain ⟨y0,y1⟩:=p5 y hy
    obtain ⟨n,rfl⟩:=Int.eq_ofNat_of_zero_le y0
    rw [e] at p1
    cases p1
    rw [Int.toNat_natCast,List.getD_eq_getElem?_getD,p2] at hc
    refine ⟨n,e1.symm,y1,?_⟩
    rw [← e2]
    rcases SF.let_ z (List.mem_of_getElem? p2) c' hc with rfl | rfl
    ·exact KV.ofs (.inl rfl)
    ·exact KV.ofs (.inr rfl)
  ·cases hx
 ·rename_i n1
  split at hx
  ·rename_i c
   have e:=s1 c
   subst e
   rw [List.mem_singleton.mp hx]
   obtain ⟨p,e1,p1⟩:=pl 0 (by decide)
   exact ⟨p,e1,p1,KV.ofs gv⟩
  ·rename_i n2
   split at hx
   ·rename_i c
    have e:=s2 c
    subst e
    rw [List.mem_singleton.mp hx]
    obtain ⟨p,e1,p1⟩:=pl 1 (by decide)
    obtain ⟨p',e2,p2⟩:=pl 2 (by decide)
    exact ⟨p,e1,p1,.inr (.inr ⟨p',by omega,e2⟩)⟩
   ·rename_i n3
    split at hx
    ·rename_i c
     have e:=s3 c
     subst e
     obtain ⟨p,e1,p1⟩:=pl 0 (by decide)
     obtain ⟨p',e2,p2⟩:=pl 1 (by decide)
     obtain ⟨p3,e3,q3⟩:=pl 2 (by decide)
     rcases List.mem_cons.mp hx with rfl | hx
     ·exact ⟨p,e1,p1,.inr (.inr ⟨p',by omega,e2⟩)⟩
     ·rw [List.mem_singleton.mp hx]
      exact ⟨p3,e3,q3,KV.ofs (.inl rfl)⟩
    ·rename_i n4
     obtain ⟨u1,u2⟩:=LW_u _ m n1 n2 n3 n4
     obtain ⟨q,hq,rfl⟩:=List.mem_map.mp hx
     obtain ⟨q1,q2⟩:=u2 q hq
     obtain ⟨p,e1,p1⟩:=pl _ q2
     exact ⟨p,e1,p1,KV.ofs (UST_nh _ (zbA u1) q hq)⟩
theorem zgh {ds:List Df} {tb:Tbs} (F:zdM ds tb) {f i:Nat} {d:Df} (hd:ds[f]? = some d):(tbD (tbAt tb f i)).length ≤ 100∧∀ x ∈ tbD (tbAt tb f i),zfu (8 + d.2.1) x:=by
 match tb,F with
 | none,_=>exact ⟨Nat.zero_le _,fun x h=>by cases h⟩
 | some (f0,at0,hs,ps),F =>
  show (tbD (if f = f0∧i = at0 then some (hs,ps) else none)).length ≤ 100∧∀ x ∈ tbD (if f = f0∧i = at0 then some (hs,ps) else none),zfu (8 + d.2.1) x
  by_cases c:f = f0∧i = at0
  ·rw [if_pos c]
   obtain ⟨rfl,_⟩:=c
   obtain ⟨h1,h2⟩:=F.1 d hd
   refine ⟨by unfold tbD; rw [List.length_append,List.length_map,List.length_map]; exact F.2,fun x hx=>?_⟩
   rcases List.mem_append.mp hx with m | m
   ·obtain ⟨y,hy,rfl⟩:=List.mem_map.mp m
    obtain ⟨y0,y1⟩:=h1 y hy
    obtain ⟨n,rfl⟩:=Int.eq_ofNat_of_zero_le y0
    exact ⟨n,rfl,y1,KV.ofs (.inr rfl)⟩
   ·obtain ⟨y,hy,rfl⟩:=List.mem_map.mp m
    obtain ⟨y0,y1,y2⟩:=h2 y hy
    obtain ⟨n,e⟩:=Int.eq_ofNat_of_zero_le y0
    exact ⟨n,by rw [← e],by rw [← e]; exact y1,.inr (.inr ⟨_,y2,rfl⟩)⟩
  ·rw [if_neg c]
   exact ⟨Nat.zero_le _,fun x h=>by cases h⟩
theorem PX.rf {ds:List Df} (x:PX ds) {d:Df} (hd:d ∈ ds):RowsFit d.2.2:=by
 have D:=x.pf.defs d hd
 exact ⟨fun r hr=>⟨_,_,D.rows r hr,fun y hy=>x.pf.sg.sz y hy⟩,D.last,D.n0,D.n1⟩
theorem zgS {rws:List Row} {ns:List Int} (L:Ln rws) (F:RowsFit rws) (h:RchL rws ns):ns.map V.int = rngV rws.length:=by
 have up:∀ k:Nat,k < rws.length->Rch rws (k:Int):=fun k=>by
  induction k with
  | zero=>exact fun _=>.zero
  | succ k ih =>
   intro hk
   have hr:=List.getElem?_eq_getElem (l:=rws) (i:=k) (by omega)
   exact .step (ih (by omega)) hr (by rw [L.mid k _ hr hk]; exact List.mem_singleton.mpr rfl)
 have e:ns = (List.range rws.length).map fun k:Nat=>(k:Int):=by
  refine rise_ext h.1 ?_ fun x=>?_
  ·rw [List.pairwise_map]
   exact List.pairwise_lt_range.imp fun h=>by omega
  ·rw [h.2 x,List.mem_map]
   refine ⟨fun r=>?_,?_⟩
   ·have:0 ≤ x∧x < rws.length:=by
     cases r with
     | zero=>have:=F.n0; omega
     | step a b c=>exact F.in_ b c
    obtain ⟨n,rfl⟩:=Int.eq_ofNat_of_zero_le this.1
    exact ⟨n,List.mem_range.mpr (by omega),rfl⟩
   ·rintro ⟨k,hk,rfl⟩
    exact up k (List.mem_range.mp hk)
 rw [e,List.map_map]
 rfl
theorem find_none {ks:List V} {l:List (V × V)} (h:∀ (k:Nat) (x:V × V),l[k]? = some x->badD ks x = false):l.find? (badD ks) = none:=by
 rw [List.find?_eq_none]
 intro x hx
 obtain ⟨k,hk⟩:=List.getElem?_of_mem hx
 rw [h k x hk]
 decide
theorem find_some {ks:List V} {l:List (V × V)} {j:Nat} {x:V × V} (hj:l[j]? = some x) (b:badD ks x = true) (h:∀ (k:Nat) (x:V × V),k < j->l[k]? = some x->badD ks x = false):l.find? (badD ks) = some x:=by
 rw [List.find?_eq_some_iff_getElem]
 obtain ⟨jl,je⟩:=List.getElem?_eq_some_iff.mp hj
 refine ⟨b,j,jl,je,fun k hk=>?_⟩
 rw [h k _ hk (List.getElem?_eq_getElem (by omega))]
 rfl
end
section
variable {P:Program} {w:World} {K:PySem.W.Frag} {mg:Str->Option Value} {base:Heap} {a:Ad}
noncomputable def sp_faultof:Sp:=fun vs H Q _=>∃ (pl:Addr) (f:Nat) (tv:V) (tb:Tbs) (das:List (Addr × Addr × List Addr)) (ds:List Df) (d:Df),vs = [.ref pl,.int f,tv]∧ProgAt H pl das ds∧PX ds∧ds[f]? = some d∧TbsV H tv tb∧zdM ds tb ∧
 ∀ (v:V) (H':Hp),Same H H'->FltV H' v (defF ds (tbAt tb f) f d)->Q v H'
set_option maxHeartbeats 2000000 in
theorem zer (T:Txt K mg a):FnOk P w K mg base CX0 5 a.f_fault_of a.d_fault_of ["program","f","tables"] sp_faultof:=by
 refine T.F_fault_of.okC sc_fault_of (fun vs H Q E h=>?_) (fun cdv A outer s H vs Q E hr h=>?_)
 ·obtain ⟨pl,f,tv,tb,das,ds,d,rfl,_⟩:=h
  rfl
 ·obtain ⟨pl,f,tv,tb,das,ds,d,rfl,PR,X,hd,TV,TF,q⟩:=h
  have hu:=zaT hr
  have lp:=PR.len
  have fl:=(List.getElem?_eq_some_iff.mp hd).1
  have f2:f < 2:=by rw [← X.l2]; exact fl
  have flp:f < das.length:=by omega
  have hda:=List.getElem?_eq_getElem (l:=das) (i:=f) flp
  obtain ⟨g1,g2⟩:=PR.def_ f _ _ hda hd
  have topp:=PR.top
  have ap:atI (das.map fun a=>V.ref a.1) ((f:Nat):Int) = some (.ref das[f].1):=zau (by rw [List.getElem?_map,hda]; rfl)
  have topr:=g2.top
  have DF:=X.pf.defs d (List.mem_of_getElem? hd)
  have LN_:=X.ln d (List.mem_of_getElem? hd)
  have n0:=DF.n0
  have n20:=LN_.n20
  have w0:=DF.w0
  have w1:=DF.w1
  have lr:=g2.len
  have wf:(fun i=>(ds.getD i (("",""),0,[])).2.1) f = d.2.1:=by dsimp only; rw [List.getD_eq_getElem?_getD,hd]; rfl
  have sga:=X.pf.sg.asc _ (List.mem_of_getElem? (zbU hd))
  refine ⟨_,(@zad _ _ _ _ _ (zaw (i:=3) sc_fault_of.nd (by rfl) (Or.inl rfl) (zal (zcc T) (hr.mono (by decide)) (by rfl) T.m_tables_of T.F_tables_of.kp T.b_tables_of .nil zaC (@zac _ _ _ _ _ _ (pv 1) (@zac _ _ _ _ _ _ (pv 2) pa_nil))))
   (@zad _ _ _ _ _ (zaw (i:=4) sc_fault_of.nd (by rfl) (Or.inl rfl) (zal (zeg T) (hr.mono (by decide)) (by rfl) T.m_kinds_of T.F_kinds_of.kp T.b_kinds_of .nil zaC (@zac _ _ _ _ _ _ (pv 0) (@zac _ _ _ _ _ _ (pv 1) (@zac _ _ _ _ _ _ (pv 2) pa_nil)))))
   (@zad _ _ _ _ _ (za0 PassesOwn.never (by rfl) (zaI (zal (zfq T) (hr.mono (by decide)) (by rfl) T.m_reached T.F_reached.kp T.b_reached .nil zaC (zae (zah ix_F (zah ix_F (pv 0) (pv 1) (fun _ _=>rfl)) zag (fun _ _=>rfl)) pa_nil))) (zaq (i:=5) sc_fault_of.nd (by rfl) (Or.inl rfl))
   (@zaf _ _ _ (za0 PassesOwn.never (by rfl) (zaI (zal (zfx T) (hr.mono (by decide)) (by rfl) T.m_dues_at T.F_dues_at.kp T.b_dues_at .nil zaC (@zac _ _ _ _ _ _ (pv 0) (@zac _ _ _ _ _ _ (pv 1) (@zac _ _ _ _ _ _ (pv 5) (zae (zdi hu (pv 3) (pv 5) ⟨rfl,rfl,rfl,rfl⟩) pa_nil)))))) (zbo (n:=2) (by rfl) (zaA (zaq (i:=6) sc_fault_of.nd (by rfl) (Or.inl rfl)) (zaA (zaq (i:=7) sc_fault_of.nd (by rfl) (Or.inl rfl)) pgs_nil)))
   (@zaf _ _ _ (@zaD _ _ _ _ _ _ _ _ (zak op_ne (zah ix_F (zah ix_F (pv 4) (pv 5) (fun _ _=>rfl)) (pv 6) (fun _ _=>rfl)) (pv 7) (zat _)) (@zaf _ _ _ (zao (zas (@zac _ _ _ _ _ _ (pv 1) (@zac _ _ _ _ _ _ (pv 5) (@zac _ _ _ _ _ _ (pv 6) (@zac _ _ _ _ _ _ (pv 7) (zae (zal (zcF T) (hr.mono (by decide)) (by rfl) T.m_spoiling_way T.F_spoiling_way.kp T.b_spoiling_way .nil zaC (@zac _ _ _ _ _ _ (pv 0) (@zac _ _ _ _ _ _ (pv 1) (@zac _ _ _ _ _ _ (pv 3) (@zac _ _ _ _ _ _ (pv 5) (@zac _ _ _ _ _ _ (pv 6) (@zac _ _ _ _ _ _ (pv 7) pa_nil))))))) pa_nil)))))))) pss_nil)))))
   (@zaf _ _ _ (zao zaR))))),?_⟩
  generalize hG:tSeq (tFor _ _ _) _ = tail
  simp! []
  refine ⟨f,tv,tb,rfl,TV,fun D H1 nD S1 TO=>?_⟩
  refine ⟨pl,f,tv,tb,das,ds,d,rfl,PR.same S1,X,hd,TV.same S1,fun kn as H2 S2 hkn las ha=>?_⟩
  subst hG
  have S12:=S1.trans S2
  have topp2:=S12 _ _ topp
  have g12:=S12 _ _ g1
  refine zes (fun l H3=>H3 l = some (.lst (rngV d.2.2.length))∧Same H2 H3) (fun Q2 hQ=>?_) ?_
  ·simp! [topp2,ap,g12]
   exact ⟨das[f].2.1,das[f].2.2,d.2.2,rfl,((PR.same S12).def_ f _ _ hda hd).2,X.rf (List.mem_of_getElem? hd),fun l ns H3 S3 R3 hl=>hQ l H3 ⟨by rw [zgS LN_ (X.rf (List.mem_of_getElem? hd)) R3] at hl; exact hl,S3⟩⟩
  rintro l H3 ⟨hl,S3⟩
  refine forL (H1:=H3) l _ (fun Q2 h2=>h2) (fun j σ H4=>∃ v5 v6 v7:Option V,σ = [some (V.ref pl),some (V.int f),some tv,some (V.ref D),some (V.ref kn),v5,v6,v7]∧Same H3 H4∧ffn (rowF ds (tbAt tb f) d) j = none) ⟨_,_,_,rfl,Same.refl _,rfl⟩ (fun j σ H4 _ ⟨_,_,_,_,S4,_⟩=>.of (S4 _ _ hl)) ?_ ?_
  ·rintro i x σ H4 hx ⟨v5,v6,v7,rfl,S4,nf⟩
   obtain ⟨i',hi',rfl⟩:=zay hx
   have il:i < d.2.2.length:=by
    have:=(List.getElem?_eq_some_iff.mp hx).1
    rw [zbd] at this
    exact this
   rw [List.getElem?_range il] at hi'
   cases hi'
   have S24:=S3.trans S4
   have S14:=S12.trans S24
   have hri:=List.getElem?_eq_getElem (l:=d.2.2) (i:=i) il
   generalize hr0:d.2.2[i] = r at hri
   have RF:=DF.rows r (List.mem_of_getElem? hri)
   obtain ⟨tvs,t1,t2,t3⟩:=((TO.same S2).same S24).ex
   have eD:duL ds (tbAt tb f) d i = usV (ds.map (·.1)) d.1.2 r ++ tbD (tbAt tb f i):=by unfold duL; rw [hri]
   obtain ⟨tl1,tl2⟩:=zgh TF (i:=i) hd
   have dok:∀ x ∈ duL ds (tbAt tb f) d i,zfu (8 + d.2.1) x:=fun x hx=>by
    rw [eD] at hx
    rcases List.mem_append.mp hx with m | m
    ·exact zhT RF X.pf.sg ((X.pf.sg.gives _ (List.mem_of_getElem? (zbU hd))).imp (fun e=>by rw [e]; rfl) (fun e=>by rw [e]; rfl)) x m
    ·exact tl2 x m
   obtain ⟨kv1,kv2⟩:=zcO PR X hd (t:=tbAt tb f) i
   have hai:=List.getElem?_eq_getElem (l:=as) (i:=i) (by rw [las]; exact il)
   have hk4:=S24 _ _ (ha i _ hai)
   have hkn4:=S24 _ _ hkn
   have ak:atI (as.map V.ref) (i:Int) = some (.ref as[i]):=zau (by rw [List.getElem?_map,hai]; rfl)
   simp! []
   refine zes (fun dl H5=>∃ rs,Prw H5 dl (duL ds (tbAt tb f) d i) rs∧Same H4 H5) (fun Q2 hQ=>?_) ?_
   ·unfold ze3
    simp! []
    refine ⟨.inl ⟨tvs,.inl t1⟩,_,.inl ⟨tvs,.inl (i:Int),.inl t1,rfl,rfl⟩,?_⟩
    exact ⟨pl,f,i,_,tbAt tb f i,das,ds,d,r,d.2.1,d.2.2.length,rfl,PR.same S14,hd,hri,RF,X.pf.sg,t3 i,tl1,fun dl rs H5 _ S5 P5=>hQ dl H5 ⟨rs,by rw [eD]; exact P5,S5⟩⟩
   rintro dl H5 ⟨rs,P5,S5⟩
   refine forL (H1:=H5) dl _ (fun Q2 h2=>h2) (fun j σ H6=>∃ v6 v7:Option V,σ = [some (V.ref pl),some (V.int f),some tv,some (V.ref D),some (V.ref kn),some (V.int i),v6,v7]∧Same H5 H6∧∀ (k:Nat) (x:V × V),k < j->(duL ds (tbAt tb f) d i)[k]? = some x->badD (kA (gvs ds) (tbAt tb f) d i) x = false) ⟨_,_,rfl,Same.refl _,fun k x z=>absurd z (by omega)⟩ (fun j σ H6 _ ⟨_,_,_,S6,_⟩=>.of (S6 _ _ P5.top)) ?_ ?_
   ·rintro j x σ H6 hx ⟨v6,v7,rfl,S6,nb⟩
    obtain ⟨rj,hrj,rfl⟩:=zay hx
    have jl:=(List.getElem?_eq_some_iff.mp hrj).1
    have hxj:=List.getElem?_eq_getElem (l:=duL ds (tbAt tb f) d i) (i:=j) (by rw [← P5.len]; exact jl)
    generalize hx0:(duL ds (tbAt tb f) d i)[j]'(by rw [← P5.len]; exact jl) = x at hxj
    obtain ⟨p,e1,p1,kx⟩:=dok x (List.mem_of_getElem? hxj)
    have tj:=S6 _ _ (P5.at_ j rj x hrj hxj)
    have hk6:=S6 _ _ (S5 _ _ hk4)
    have hkn6:=S6 _ _ (S5 _ _ hkn4)
    have pl':p < (kA (gvs ds) (tbAt tb f) d i).length:=by rw [kv2]; omega
    have hp:=List.getElem?_eq_getElem (l:=kA (gvs ds) (tbAt tb f) d i) (i:=p) pl'
    have apk:=zau hp
    refine za7 tj rfl ?_
    rw [e1]
    have eb:badD (kA (gvs ds) (tbAt tb f) d i) x = !decide ((kA (gvs ds) (tbAt tb f) d i)[p] = x.2):=by
     unfold badD
     rw [e1]
     show (!decide ((kA (gvs ds) (tbAt tb f) d i).getD (Int.toNat (p:Int)) .non = x.2)) = _
     rw [Int.toNat_natCast,List.getD_eq_getElem?_getD,hp,Option.getD_some]
    simp! [hkn6,ak,hk6,apk]
    refine ⟨(kv1 _ (List.mem_of_getElem? hp)).scalK kx,?_⟩
    by_cases c:(kA (gvs ds) (tbAt tb f) d i)[p] = x.2
    ·rw [if_neg (fun z=>z c)]
     refine ⟨S6,fun k y hk hy=>?_⟩
     by_cases ck:k < j
     ·exact nb k y ck hy
     ·have:k = j:=by omega
      subst this
      rw [hxj] at hy
      cases hy
      rw [eb,decide_eq_true c]
      rfl
    ·rw [if_pos c]
     have S16:=S14.trans (S5.trans S6)
     refine ⟨pl,D,f,i,p,x.2,tb,das,ds,d,rfl,PR.same S16,X,hd,((TO.same S2).same S24).same (S5.trans S6),il,by omega,kx,by rw [List.getD_eq_getElem?_getD,hp,Option.getD_some]; exact c,fun wl H7 S7 hw=>fun t nt=>?_⟩
     refine q _ _ ((S16.trans S7).step nt) ?_
     have fe:defF ds (tbAt tb f) f d = some (f,i,x):=by
      unfold defF
      rw [zb3 nf (x:=(i,x)) ?_ il]
      ·rfl
      ·unfold rowF
       rw [find_some hxj (by rw [eb,decide_eq_false c]; rfl) nb]
       rfl
     rw [fe]
     obtain ⟨x1,x2⟩:=x
     dsimp only at e1
     rw [e1]
     exact ⟨t,wl,rfl,zaa,zab hw nt⟩
   ·rintro σ H6 ⟨v6,v7,rfl,S6,nb⟩
    refine ⟨_,_,_,rfl,S4.trans (S5.trans S6),zcv nf ?_⟩
    unfold rowF
    rw [find_none fun k x hk=>nb k x (by rw [List.length_map,P5.len]; exact (List.getElem?_eq_some_iff.mp hk).1) hk]
    rfl
  ·rintro σ H4 ⟨v5,v6,v7,rfl,S4,nf⟩
   rw [zbd] at nf
   simp! []
   refine q _ H4 (S12.trans (S3.trans S4)) ?_
   unfold defF
   rw [nf]
   rfl
end
section
variable {P:Program} {w:World} {K:PySem.W.Frag} {mg:Str->Option Value} {base:Heap} {a:Ad}
noncomputable def sp_fault:Sp:=fun vs H Q _=>∃ (pl:Addr) (tv:V) (tb:Tbs) (das:List (Addr × Addr × List Addr)) (ds:List Df),vs = [.ref pl,tv]∧ProgAt H pl das ds∧PX ds∧TbsV H tv tb∧zdM ds tb ∧
 ∀ (v:V) (H':Hp),Same H H'->FltV H' v (prgF ds tb)->Q v H'
set_option maxHeartbeats 2000000 in
theorem zgL (T:Txt K mg a):FnOk P w K mg base CX0 6 a.f_fault a.d_fault ["program","tables"] sp_fault:=by
 refine T.F_fault.okC sc_fault (fun vs H Q E h=>?_) (fun cdv A outer s H vs Q E hr h=>?_)
 ·obtain ⟨pl,tv,tb,das,ds,rfl,_⟩:=h
  rfl
 ·obtain ⟨pl,tv,tb,das,ds,rfl,PR,X,TV,TF,q⟩:=h
  have hu:=zaT hr
  refine ⟨_,(@zad _ _ _ _ _ (za0 PassesOwn.never (by rfl) (za3 (by rfl) T.z_range (zae (zax call_lenF (by rfl) T.z_len (by decide +kernel) (@zac _ _ _ _ _ _ (pv 0) pa_nil)) pa_nil)) (zaq (i:=2) sc_fault.nd (by rfl) (Or.inl rfl))
   (@zad _ _ _ _ _ (zaw (i:=3) sc_fault.nd (by rfl) (Or.inl rfl) (zal (zer T) (hr.mono (by decide)) (by rfl) T.m_fault_of T.F_fault_of.kp T.b_fault_of .nil zaC (@zac _ _ _ _ _ _ (pv 0) (@zac _ _ _ _ _ _ (pv 2) (@zac _ _ _ _ _ _ (pv 1) pa_nil)))))
   (@zaf _ _ _ (@zaD _ _ _ _ _ _ _ _ (za9 (zcI (pv 3))) (@zaf _ _ _ (zao (pv 3))) pss_nil))))
   (@zaf _ _ _ (zao zaR))),?_⟩
  have topp:=PR.top
  have dl:das.length = 2:=by rw [PR.len,X.l2]
  generalize hG:tRet _ = tail
  simp! []
  refine zg1 (fun n H1=>n = 2∧H1 = H) (fun Q2 hQ=>by simp! [topp]; exact hQ _ H ⟨by rw [List.length_map,dl]; rfl,rfl⟩) ?_
  rintro n H1 ⟨rfl,rfl⟩
  refine L2.for1 (H1:=H1) 2 (fun Q2 h2=>h2) (by decide) (by decide) (fun j σ H4=>∃ v2 v3:Option V,σ = [some (V.ref pl),some tv,v2,v3]∧Same H1 H4∧ffn (fun f=>ds[f]?.bind fun d=>defF ds (tbAt tb f) f d) j = none) ⟨_,_,rfl,Same.refl _,rfl⟩ ?_ ?_
  ·rintro f σ H4 hf ⟨v2,v3,rfl,S4,nf⟩
   have hd:=List.getElem?_eq_getElem (l:=ds) (i:=f) (by rw [X.l2]; exact hf)
   generalize hd0:ds[f]'(by rw [X.l2]; exact hf) = d at hd
   subst hG
   rw [Int.zero_add]
   simp! []
   refine ⟨pl,f,tv,tb,das,ds,d,rfl,PR.same S4,X,hd,TV.same S4,TF,fun v H5 S5 fv=>?_⟩
   dsimp only
   have be:(ds[f]?.bind fun d=>defF ds (tbAt tb f) f d) = defF ds (tbAt tb f) f d:=by rw [hd]; rfl
   cases e:defF ds (tbAt tb f) f d with
   | none =>
    rw [e] at fv
    rw [if_neg (fun z=>z fv)]
    exact ⟨S4.trans S5,zcv nf (by rw [be,e])⟩
   | some x =>
    rw [e] at fv
    obtain ⟨x1,x2,x3,x4⟩:=x
    obtain ⟨t,l,rfl,_⟩:=id fv
    rw [if_pos (by intro z; cases z)]
    refine q _ H5 (S4.trans S5) ?_
    unfold prgF
    rw [zb3 nf (x:=(x1,x2,x3,x4)) (by rw [be,e]) (show f < 2 from hf)]
    exact fv
  ·rintro σ H4 ⟨v2,v3,rfl,S4,nf⟩
   subst hG
   simp! []
   exact q _ H4 S4 (by unfold prgF; rw [show (2:Nat) = Int.toNat 2 from rfl,nf]; rfl)
end
section
variable {P:Program} {w:World} {K:PySem.W.Frag} {mg:Str->Option Value} {base:Heap} {a:Ad}
structure KdAt (kvs:List (Key × V)) (as:List Addr):Prop where
 val:∀ i:Nat,valV kvs (.inl (i:Int)) = as[i]?.map V.ref
 keys:kvs.map (·.1) = (List.range as.length).map fun k:Nat=>(.inl (k:Int):Key)
theorem KdAt.len {kvs:List (Key × V)} {as:List Addr} (h:KdAt kvs as):kvs.length = as.length:=by
 have:=congrArg List.length h.keys
 rw [List.length_map,List.length_map,List.length_range] at this
 exact this
theorem KdAt.put {kvs:List (Key × V)} {as:List Addr} (h:KdAt kvs as) (x:Addr):KdAt (putK kvs (.inl ((as.length:Nat):Int)) (.ref x)) (as ++ [x]):=by
 have no:valV kvs (.inl ((as.length:Nat):Int)) = none:=by rw [h.val,List.getElem?_eq_none (Nat.le_refl _)]; rfl
 refine ⟨fun i=>?_,?_⟩
 ·rw [zeS,h.val]
  by_cases c:i = as.length
  ·subst c
   rw [if_pos rfl,List.getElem?_append_right (Nat.le_refl _),Nat.sub_self]
   rfl
  ·rw [if_neg (fun z=>c (by have:=Sum.inl.inj z; omega))]
   by_cases c2:i < as.length
   ·rw [List.getElem?_append_left c2]
   ·rw [List.getElem?_eq_none (by omega),List.getElem?_eq_none (by rw [List.length_append,List.length_singleton]; omega)]
 ·rw [zeJ _ no,List.map_append,h.keys,List.length_append,List.length_singleton,List.range_succ,List.map_append]
  rfl
theorem zip_self:∀ l:List V,(l.zip l).filterMap (fun p=>some (if p.1 = p.2 then p.1 else V.non)) = l
 | []=>rfl
 | x :: l=>by
  rw [List.zip_cons_cons,List.filterMap_cons_some (b:=x) (by simp),zip_self l]
noncomputable def sp_lkinds:Sp:=fun vs H Q _=>∃ (pl:Addr) (f:Nat) (tv:V) (tb:Tbs) (das:List (Addr × Addr × List Addr)) (ds:List Df) (d:Df),vs = [.ref pl,.int f,tv]∧ProgAt H pl das ds∧PX ds∧ds[f]? = some d∧TbsV H tv tb ∧
 ∀ (D:Addr) (kvs:List (Key × V)) (as:List Addr) (H':Hp),Same H H'->H' D = some (.dK kvs)->KdAt kvs as->as.length = d.2.2.length->(∀ (i:Nat) (c:Addr),as[i]? = some c->H' c = some (.lst (kA (gvs ds) (ltb tb f) d i)))->Q (.ref D) H'
set_option maxHeartbeats 2000000 in
theorem zdJ (T:Txt K mg a):FnOk P w K mg base CX0 4 a.f_law_kinds a.d_law_kinds ["program","f","tables"] sp_lkinds:=by
 refine T.F_law_kinds.okC sc_law_kinds (fun vs H Q E h=>?_) (fun cdv A outer s H vs Q E hr h=>?_)
 ·obtain ⟨pl,f,tv,tb,das,ds,d,rfl,_⟩:=h
  rfl
 ·obtain ⟨pl,f,tv,tb,das,ds,d,rfl,PR,X,hd,TV,q⟩:=h
  have hu:=zaT hr
  have lp:=PR.len
  have fl:=(List.getElem?_eq_some_iff.mp hd).1
  have f2:f < 2:=by rw [← X.l2]; exact fl
  have flp:f < das.length:=by omega
  have hda:=List.getElem?_eq_getElem (l:=das) (i:=f) flp
  obtain ⟨g1,g2⟩:=PR.def_ f _ _ hda hd
  have topp:=PR.top
  have ap:atI (das.map fun a=>V.ref a.1) ((f:Nat):Int) = some (.ref das[f].1):=zau (by rw [List.getElem?_map,hda]; rfl)
  have topr:=g2.top
  have DF:=X.pf.defs d (List.mem_of_getElem? hd)
  have LN_:=X.ln d (List.mem_of_getElem? hd)
  have n0:=DF.n0
  have n20:=LN_.n20
  have w0:=DF.w0
  have w1:=DF.w1
  have lr:=g2.len
  have wf:(fun i=>(ds.getD i (("",""),0,[])).2.1) f = d.2.1:=by dsimp only; rw [List.getD_eq_getElem?_getD,hd]; rfl
  have sga:=X.pf.sg.asc _ (List.mem_of_getElem? (zbU hd))
  refine ⟨_,(@zad _ _ _ _ _ (@zem _ 3 _ _ _ _ _ _ _ sc_law_kinds.nd (by rfl) (Or.inl rfl) (@zaQ _ _ _ _ _ _ _ _ _ zag (zal (zcl T) (hr.mono (by decide)) (by rfl) T.m_law_first T.F_law_first.kp T.b_law_first .nil zaC (@zac _ _ _ _ _ _ (pv 0) (@zac _ _ _ _ _ _ (pv 1) pa_nil))) zbI) (by rfl) (by rfl) (List.cons_ne_nil _ _) (Nat.le_of_ble_eq_true (by rfl)) (by first | exact .inl (by rfl) | exact .inr (by rfl) | assumption))
   (@zad _ _ _ _ _ (@zbm _ 4 _ _ _ _ _ _ sc_law_kinds.nd (by rfl) (Or.inl rfl) (@zai _ _ _ _ _ _ pa_nil) (by first | exact .inl (by rfl) | exact .inr (by rfl) | assumption))
   (@zad _ _ _ _ _ (zcC PassesOwn.never (zak (zhs hu) (pv 4) (zav pa_nil) (zat _)) (@zad _ _ _ _ _ (zaw (i:=5) sc_law_kinds.nd (by rfl) (Or.inl rfl) (zf1 PySem.F.plainAttrs_list PySem.F.slot_list_pop PySem.F.type_list_pop mt_pop (pv 4)))
   (@zad _ _ _ _ _ (zaw (i:=6) sc_law_kinds.nd (by rfl) (Or.inl rfl) (zal (zbV T) (hr.mono (by decide)) (by rfl) T.m_law_behind T.F_law_behind.kp T.b_law_behind .nil zaC (@zac _ _ _ _ _ _ (pv 0) (zae (zah ix_F (zah ix_F (zah ix_F (pv 0) (pv 1) (fun _ _=>rfl)) zag (fun _ _=>rfl)) (pv 5) (fun _ _=>rfl)) (zae (zdm hu (pv 3) (pv 5) (fun _ _=>rfl)) (zae (zal (zbs T) (hr.mono (by decide)) (by rfl) T.m_law_table T.F_law_table.kp T.b_law_table .nil zaC (@zac _ _ _ _ _ _ (pv 2) (@zac _ _ _ _ _ _ (pv 1) (@zac _ _ _ _ _ _ (pv 5) pa_nil)))) pa_nil))))))
   (@zaf _ _ _ (za0 PassesOwn.never (by rfl) (zaI (zal (zck T) (hr.mono (by decide)) (by rfl) T.m_law_nexts T.F_law_nexts.kp T.b_law_nexts .nil zaC (zae (zah ix_F (zah ix_F (pv 0) (pv 1) (fun _ _=>rfl)) zag (fun _ _=>rfl)) (@zac _ _ _ _ _ _ (pv 5) pa_nil)))) (zaq (i:=7) sc_law_kinds.nd (by rfl) (Or.inl rfl))
   (@zad _ _ _ _ _ (zcb (i:=8) sc_law_kinds.nd (by rfl) (Or.inl rfl) (N':=["one","two"]) (cap:=[none,none]) ⟨rfl,(by decide +kernel),(by decide +kernel),(by rfl),rfl,(by rfl)⟩ (by rfl) (zgx (by rfl) T.z_zip (@zac _ _ _ _ _ _ (pv 6) (zae (zdB hu (pv 3) (pv 7) (pv 6) ⟨rfl,rfl,rfl,rfl⟩) pa_nil))) (fun C_ ex_ s_ H_=>(zbo (n:=2) (by rfl) (zaA (zaq (i:=0) (show (["one","two"]:List Str).Nodup by decide +kernel) (by rfl) (Or.inl rfl)) (zaA (zaq (i:=1) (show (["one","two"]:List Str).Nodup by decide +kernel) (by rfl) (Or.inl rfl)) pgs_nil)))) (zbS (zaO (by rfl) (zaO (by rfl) zbi))) (fun C_ ex_ s_ H_=>zaJ) (fun C_ ex_ s_ H_=>(za2 (zak op_eq (pv 0) (pv 1) (zat _)) (pv 0) zaR)))
   (@zaf _ _ _ (@zaD _ _ _ _ _ _ _ _ (PW.pt (zdu (za9 (zdd hu (pv 7) (pv 3))) (zcd (zak (zi1 hu) (pv 8) (zdm hu (pv 3) (pv 7) (fun _ _=>rfl)) (zat _))))) (@zad _ _ _ _ _ (zdC hu (pv 3) (pv 7) (pv 8) (by rfl))
   (@zaf _ _ _ (za6 (zct PySem.F.plainAttrs_list PySem.F.slot_list_append PySem.F.type_list_append mt_append (pv 4) (@zac _ _ _ _ _ _ (pv 7) pa_nil))))) pss_nil))))))))
   (@zaf _ _ _ (zao (pv 3)))))),?_⟩
  generalize hG:tSeq (zeO _ _) _ = tail
  simp! [zdf,tPairs]
  intro D nD
  refine ⟨pl,f,_,_,_,d.2.1,d.1,rfl,PgB.of (PR.same (Same.laid nD)) X.l2,wf,f2,zbU hd,sga.1,sga.2,w0,w1,fun l0 H2 nl0 S2 hl0=>?_⟩
  have hD2:=S2 _ _ (zaa (H:=H) (a:=D) (o:=.dK []))
  refine ⟨hD2,[(.inl 0,.ref l0)],rfl,by rw [List.length_singleton]; decide,fun td ntd=>?_⟩
  have l0D:l0 ≠ D:=fun z=>by rw [z,hD2] at hl0; cases hl0
  have tdD:td ≠ D:=(zcz ntd).1
  have ntd2:=(zcz ntd).2
  have tdl:td ≠ l0:=(zan hl0 ntd2).symm
  have ntd0:H td = none:=(Same.laid nD).free (S2.free ntd2)
  have k1:upd (upd H2 D (.dK (zbb [] [(.inl 0,.ref l0)]))) td (.lst [.int 0]) D = some (.dK (putK [] (.inl ((([]:List Addr).length:Nat):Int)) (.ref l0))):=by rw [zaj tdD.symm,zaa]; rfl
  have k2:upd (upd H2 D (.dK (zbb [] [(.inl 0,.ref l0)]))) td (.lst [.int 0]) td = some (.lst [.int ((0:Nat):Int)]):=zaa
  have k3:upd (upd H2 D (.dK (zbb [] [(.inl 0,.ref l0)]))) td (.lst [.int 0]) l0 = some (.lst (kA (gvs ds) (ltb tb f) d 0)):=by rw [zaj tdl.symm,zaj l0D]; exact hl0
  have k4:Same H (upd (upd H2 D (.dK (zbb [] [(.inl 0,.ref l0)]))) td (.lst [.int 0])):=Same.new (Same.new ((Same.laid nD).trans S2) nD) ntd0
  revert k1 k2 k3 k4
  generalize upd (upd H2 D (.dK (zbb [] [(.inl 0,.ref l0)]))) td (.lst [.int 0]) = H4
  intro k1 k2 k3 k4
  have kd0:KdAt [] []:=⟨fun i=>rfl,rfl⟩
  subst hG
  obtain ⟨N,hN⟩:∃ N:Nat->St->Hp->Prop,∀ i σ H5,N i σ H5 ↔ ∃ (as:List Addr) (kvs:List (Key × V)) (v5 v6 v7 v8:Option V),σ = [some (V.ref pl),some (V.int f),some tv,some (V.ref D),some (V.ref td),v5,v6,v7,v8]∧i ≤ d.2.2.length∧as.length = min (i + 1) d.2.2.length∧H5 D = some (.dK kvs)∧KdAt kvs as∧H5 td = some (.lst (if i < d.2.2.length then [.int (i:Int)] else []))∧(∀ (j:Nat) (c:Addr),as[j]? = some c->c ≠ td∧H5 c = some (.lst (kA (gvs ds) (ltb tb f) d j)))∧Same H H5:=⟨_,fun _ _ _=>Iff.rfl⟩
  refine ⟨fun m σ H5=>∃ i:Nat,m = d.2.2.length - i∧N i σ H5,⟨_,0,rfl,(hN _ _ _).mpr ⟨[] ++ [l0],_,none,none,none,none,rfl,by omega,by rw [List.nil_append,List.length_singleton]; omega,k1,kd0.put l0,by rw [if_pos n0]; exact k2,fun j c hj=>?_,k4⟩⟩,?_⟩
  ·match j,hj with
   | 0,hj=>cases hj; exact ⟨tdl.symm,k3⟩
   | j + 1,hj=>simp at hj
  clear k1 k2 k3 k4 hl0 S2 nl0
  rintro m σ H5 ⟨i,rfl,hi⟩
  obtain ⟨as,kvs,v5,v6,v7,v8,rfl,i1,la,e1,kda,e2,e3,S5⟩:=(hN _ _ _).mp hi
  have nxt_:∀ (σ':St) (H':Hp),i < d.2.2.length->N (i + 1) σ' H'->∃ m',m' < d.2.2.length - i∧∃ i:Nat,m' = d.2.2.length - i∧N i σ' H':=fun σ' H' ii h=>⟨_,by omega,i + 1,rfl,h⟩
  simp! []
  intro p5 np5
  have b1:=zab (u:=.lst []) e1 np5
  have b2:=zab (u:=.lst []) e2 np5
  have b3:∀ (j:Nat) (c:Addr),as[j]? = some c->upd H5 p5 (.lst []) c = some (.lst (kA (gvs ds) (ltb tb f) d j)):=fun j c hj=>zab (e3 j c hj).2 np5
  have S6:Same H (upd H5 p5 (.lst [])):=S5.step np5
  revert b1 b2 b3 S6
  generalize upd H5 p5 (.lst []) = H6
  intro b1 b2 b3 S6
  refine ⟨_,by rw [b2]; rfl,by rw [b2]; rfl,?_⟩
  by_cases ci:i < d.2.2.length
  ·rw [if_pos ci] at b2 ⊢
   rw [if_pos (by rfl)]
   have la':as.length = i + 1:=by omega
   have hai:=List.getElem?_eq_getElem (l:=as) (i:=i) (by omega)
   obtain ⟨c2,c3⟩:=e3 i _ hai
   have hri:=List.getElem?_eq_getElem (l:=d.2.2) (i:=i) ci
   generalize hr0:d.2.2[i] = r at hri
   have RF:=DF.rows r (List.mem_of_getElem? hri)
   have hra:=List.getElem?_eq_getElem (l:=das[f].2.2) (i:=i) (by rw [lr]; exact ci)
   have ar:atI (das[f].2.2.map V.ref) ((i:Nat):Int) = some (.ref das[f].2.2[i]):=zau (by rw [List.getElem?_map,hra]; rfl)
   refine ⟨N (i + 1),fun σ' H' h=>nxt_ σ' H' ci h,?_⟩
   simp! [tBM0]
   refine ⟨.inl ⟨rfl,_,.of b2⟩,td,_,.int (i:Int),rfl,rfl,b2,rfl,?_⟩
   have u1:upd H6 td (.lst [V.int (i:Int)].dropLast) D = some (.dK kvs):=by rw [zaj tdD.symm]; exact b1
   have u2:upd H6 td (.lst [V.int (i:Int)].dropLast) td = some (.lst []):=zaa
   have u3:∀ (j:Nat) (c:Addr),as[j]? = some c->upd H6 td (.lst [V.int (i:Int)].dropLast) c = some (.lst (kA (gvs ds) (ltb tb f) d j)):=fun j c hj=>by rw [zaj (e3 j c hj).1]; exact b3 j c hj
   have u4:Same H (upd H6 td (.lst [V.int (i:Int)].dropLast)):=Same.new S6 ntd0
   revert u1 u2 u3 u4
   generalize upd H6 td (.lst [V.int (i:Int)].dropLast) = H7
   intro u1 u2 u3 u4
   have topp7:=u4 _ _ topp
   have g17:=u4 _ _ g1
   have topr7:=u4 _ _ topr
   have vk:valV kvs (.inl (i:Int)) = some (.ref as[i]):=by rw [kda.val,hai]; rfl
   generalize hG:tFor _ _ _ = tail
   simp! [topp7,ap,g17,topr7,ar,u1,vk]
   refine ⟨f,i,tv,tb,rfl,TV.same u4,fun tv2 H8 S8 TV8=>?_⟩
   have S18:=u4.trans S8
   have PR8:=PR.same S18
   obtain ⟨g81,g82⟩:=PR8.def_ f _ _ hda hd
   obtain ⟨us,ru,PA⟩:=g82.row i _ _ hra hri
   have RO:=RowOk.of RF PA (by rw [List.length_map,X.l2])
   obtain ⟨kv1,kv2⟩:=zcO PR X hd (t:=ltb tb f) i
   refine ⟨pl,das[f].2.2[i],as[i],tv2,ltb tb f i,_,_,_,d.2.1,r.1,us,_,rfl,PgB.of PR8 X.l2,ru,RO,TV8,S8 _ _ (u3 i _ hai),kv1,by rw [kv2]; omega,w0,w1,fun lf H9 nlf S9 hlf=>?_⟩
   rw [zfK (zb0 PA),show List.map (·.2) (ds.map (·.1)) = gvs ds from rfl,← zbO hri] at hlf
   subst hG
   have S19:=S18.trans S9
   have S79:=S8.trans S9
   have topp9:=S19 _ _ topp
   have g19:=S19 _ _ g1
   refine zes (fun l H8=>H8 l = some (.lst ((nxt r i).map V.int))∧Same H9 H8∧H9 l = none) (fun Q2 hQ=>?_) ?_
   ·simp! [topp9,ap,g19]
    exact ⟨das[f].2.1,i,das[f].2.2,d.2.2,r,d.2.1,d.2.2.length,ds.map (·.1),rfl,((PR.same S19).def_ f _ _ hda hd).2,hri,RF,by omega,by omega,fun l H8 nl S8 hl=>hQ l H8 ⟨hl,S8,nl⟩⟩
   rintro l Ha ⟨hl,Sa,nl⟩
   have S7a:=S79.trans Sa
   have S1a:=S19.trans Sa
   have w1':=S7a _ _ u1
   have w2':=S7a _ _ u2
   have w3':∀ (j:Nat) (c:Addr),as[j]? = some c->Ha c = some (.lst (kA (gvs ds) (ltb tb f) d j)):=fun j c hj=>S7a _ _ (u3 j c hj)
   have lD:l ≠ D:=(zan (S79 _ _ u1) nl).symm
   have ltd:l ≠ td:=(zan (S79 _ _ u2) nl).symm
   by_cases cn:i + 1 < d.2.2.length
   ·rw [LN_.mid i r hri cn] at hl
    obtain ⟨Po,hPo⟩:∃ Po:St->Hp->Prop,∀ σ' H',Po σ' H' ↔ N (i + 1) σ' H'∧H' l = some (.lst [.int ((i + 1:Nat):Int)]):=⟨_,fun _ _=>Iff.rfl⟩
    refine for1 (H:=Ha) hl Po (fun σ H h=>((hPo _ _).mp h).2) ?_ (fun σ H h=>((hPo _ _).mp h).1)
    have hlfa:=Sa _ _ hlf
    obtain ⟨kx1,kx2⟩:=zcO PR X hd (t:=ltb tb f) (i + 1)
    have vn:valV kvs (.inl ((i + 1:Nat):Int)) = none:=by rw [kda.val,List.getElem?_eq_none (by omega)]; rfl
    generalize hG:tIfS _ _ _ = tail
    simp! []
    refine zhz (H1:=Ha) lf lf _ _ (fun p=>some (if p.1 = p.2 then p.1 else .non)) (fun Q2 h2=>?_) (.of hlfa) (.of hlfa) (by rw [sizeLine_eq,kx2]; omega) ?_ ?_
    ·simp! [zdO]
     refine ⟨.inl ⟨kvs,.inl w1'⟩,_,.inl ⟨kvs,.inl ((i + 1:Nat):Int),.inl w1',rfl,rfl⟩,?_⟩
     rw [vn]
     exact h2
    ·intro p H2 R N2 b hp S2 hb hR hN2
     obtain ⟨m1,m2⟩:=List.of_mem_zip (a:=p.1) (b:=p.2) hp
     have sc:=(kx1 _ m1).scalK (kx1 _ m2)
     refine za7 hb rfl ?_
     simp! [zaG,tTrue]
     refine ⟨sc,?_⟩
     by_cases c:p.1 = p.2
     ·rw [if_pos c]
      exact hR _ _ (by rw [if_pos c]) (Same.refl _)
     ·rw [if_neg c]
      exact hR _ _ (by rw [if_neg c]) (Same.refl _)
    ·intro lw Hb nlw Sb hlw
     have ez:((kA (gvs ds) (ltb tb f) d (i + 1)).zip (kA (gvs ds) (ltb tb f) d (i + 1))).filterMap (fun p=>some (if p.1 = p.2 then p.1 else .non)) = kA (gvs ds) (ltb tb f) d (i + 1):=zip_self _
     rw [ez] at hlw
     subst hG
     have x1:=Sb _ _ w1'
     have x2:=Sb _ _ w2'
     have lw1:lw ≠ D:=(zan w1' nlw).symm
     have lt:lw ≠ td:=(zan w2' nlw).symm
     have ll:lw ≠ l:=(zan hl nlw).symm
     have kl:kvs.length ≤ 20:=by rw [kda.len]; omega
     simp! [x1,vn,Option.isSome_none]
     refine ⟨by omega,?_⟩
     have y1:upd Hb D (.dK (putK kvs (.inl ((i + 1:Nat):Int)) (.ref lw))) td = some (.lst []):=by rw [zaj tdD]; exact x2
     simp! [tBM]
     refine ⟨.inl ⟨rfl,_,.of y1⟩,td,_,_,rfl,rfl,y1,by rw [sizeLine_eq]; exact Nat.zero_lt_succ _,(hPo _ _).mpr ⟨(hN _ _ _).mpr ⟨as ++ [lw],putK kvs (.inl ((i + 1:Nat):Int)) (.ref lw),_,_,_,_,rfl,by omega,by rw [List.length_append,la',List.length_singleton]; omega,?_,?_,?_,?_,?_⟩,?_⟩⟩
     ·rw [zaj tdD.symm,zaa]
     ·have:=kda.put lw
      rw [la'] at this
      exact this
     ·rw [zaa,if_pos cn]; rfl
     ·intro j c hj
      by_cases cj:j < as.length
      ·rw [List.getElem?_append_left cj] at hj
       have z:=e3 j c hj
       refine ⟨z.1,?_⟩
       have z2:=Sb _ _ (w3' j c hj)
       rw [zaj z.1,zaj (fun e=>by rw [e,x1] at z2; cases z2)]
       exact z2
      ·have jl:=(List.getElem?_eq_some_iff.mp hj).1
       rw [List.length_append,List.length_singleton] at jl
       have je:j = i + 1:=by omega
       subst je
       rw [List.getElem?_append_right (by omega),la',Nat.sub_self] at hj
       cases hj
       refine ⟨lt,?_⟩
       rw [zaj lt,zaj lw1]
       exact hlw
     ·exact Same.new (Same.new (S1a.trans Sb) nD) ntd0
     ·rw [zaj ltd,zaj lD]
      exact Sb _ _ hl
   ·rw [LN_.end_ i r hri (by omega)] at hl
    refine for0 (H:=Ha) hl ?_
    exact (hN _ _ _).mpr ⟨as,kvs,_,_,_,_,rfl,by omega,by omega,w1',kda,by rw [if_neg cn]; exact w2',fun j c hj=>⟨(e3 j c hj).1,w3' j c hj⟩,S1a⟩
  ·rw [if_neg ci] at b2 ⊢
   rw [if_neg (by decide)]
   exact q D kvs as H6 S6 b1 kda (by omega) b3
end
section
variable {P:Program} {w:World} {K:PySem.W.Frag} {mg:Str->Option Value} {base:Heap} {a:Ad}
noncomputable def prgG (ds:List Df) (t:Nat->Nat->Tb):Option (Nat × Nat × V × V):=ffn (fun f=>ds[f]?.bind fun d=>defF ds (t f) f d) 2
noncomputable def DueV (H:Hp) (v:V):Option (Nat × Nat × V × V)->Prop
 | none=>v = .non
 | some (f,i,x,y)=>∃ t,v = .ref t∧H t = some (.tup [.int (f:Int),.int (i:Int),x,y])
theorem ziV {ds:List Df} {tb:Tbs} (s:StOk ds tb):prgG ds (ltb tb) = prgF ds tb:=by
 have e:(fun f=>ds[f]?.bind fun d=>defF ds (ltb tb f) f d) = fun f=>ds[f]?.bind fun d=>defF ds (tbAt tb f) f d:=by
  funext f
  cases hd:ds[f]? with
  | none=>rfl
  | some d =>
   show defF ds (ltb tb f) f d = defF ds (tbAt tb f) f d
   have er:rowF ds (ltb tb f) d = rowF ds (tbAt tb f) d:=by
    funext i
    unfold rowF duL
    rw [zio s hd,zfX]
   unfold defF
   rw [er]
 unfold prgG prgF
 rw [e]
noncomputable def sp_ldue:Sp:=fun vs H Q _=>∃ (pl:Addr) (tv:V) (tb:Tbs) (das:List (Addr × Addr × List Addr)) (ds:List Df),vs = [.ref pl,tv]∧ProgAt H pl das ds∧PX ds∧TbsV H tv tb∧zdM ds tb ∧
 ∀ (v:V) (H':Hp),Same H H'->DueV H' v (prgG ds (ltb tb))->Q v H'
set_option maxHeartbeats 2000000 in
theorem zfl (T:Txt K mg a):FnOk P w K mg base CX0 5 a.f_law_due a.d_law_due ["program","tables"] sp_ldue:=by
 refine T.F_law_due.okC sc_law_due (fun vs H Q E h=>?_) (fun cdv A outer s H vs Q E hr h=>?_)
 ·obtain ⟨pl,tv,tb,das,ds,rfl,_⟩:=h
  rfl
 ·obtain ⟨pl,tv,tb,das,ds,rfl,PR,X,TV,TF,q⟩:=h
  have hu:=zaT hr
  refine ⟨_,(@zad _ _ _ _ _ (za0 PassesOwn.never (by rfl) (za3 (by rfl) T.z_range (zae (zax call_lenF (by rfl) T.z_len (by decide +kernel) (@zac _ _ _ _ _ _ (pv 0) pa_nil)) pa_nil)) (zaq (i:=2) sc_law_due.nd (by rfl) (Or.inl rfl))
   (@zad _ _ _ _ _ (zaw (i:=3) sc_law_due.nd (by rfl) (Or.inl rfl) (zal (zdJ T) (hr.mono (by decide)) (by rfl) T.m_law_kinds T.F_law_kinds.kp T.b_law_kinds .nil zaC (@zac _ _ _ _ _ _ (pv 0) (@zac _ _ _ _ _ _ (pv 2) (@zac _ _ _ _ _ _ (pv 1) pa_nil)))))
   (@zaf _ _ _ (za0 PassesOwn.never (by rfl) (zaI (zax (zbn (by rfl)) (by rfl) T.z_sorted (by decide +kernel) (@zac _ _ _ _ _ _ (pv 3) pa_nil))) (zaq (i:=4) sc_law_due.nd (by rfl) (Or.inl rfl))
   (@zad _ _ _ _ _ (zaw (i:=5) sc_law_due.nd (by rfl) (Or.inl rfl) (zal (zeh T) (hr.mono (by decide)) (by rfl) T.m_law_uses T.F_law_uses.kp T.b_law_uses .nil zaC (@zac _ _ _ _ _ _ (pv 0) (@zac _ _ _ _ _ _ (pv 2) (zae (zah ix_F (zah ix_F (zah ix_F (pv 0) (pv 2) (fun _ _=>rfl)) zag (fun _ _=>rfl)) (pv 4) (fun _ _=>rfl)) pa_nil)))))
   (@zad _ _ _ _ _ (@zaD _ _ _ _ _ _ _ _ (za9 (zcI (pv 1))) (@zad _ _ _ _ _ (zbf (zal (zbs T) (hr.mono (by decide)) (by rfl) T.m_law_table T.F_law_table.kp T.b_law_table .nil zaC (@zac _ _ _ _ _ _ (pv 1) (@zac _ _ _ _ _ _ (pv 2) (@zac _ _ _ _ _ _ (pv 4) pa_nil)))) (zbo (n:=2) (by rfl) (zaA (zaq (i:=6) sc_law_due.nd (by rfl) (Or.inl rfl)) (zaA (zaq (i:=7) sc_law_due.nd (by rfl) (Or.inl rfl)) pgs_nil))))
   (@zaf _ _ _ (zaw (i:=5) sc_law_due.nd (by rfl) (Or.inl rfl) (zaK op_cat (zaK op_cat (pv 5) (zaW (N':=["p"]) (cap:=[none]) ⟨rfl,(by decide +kernel),(by decide +kernel),(by rfl),rfl,(by rfl)⟩ (by rfl) (zaI (pv 6)) (fun C_ ex_ s_ H_=>(zaq (i:=0) (show (["p"]:List Str).Nodup by decide +kernel) (by rfl) (Or.inl rfl))) zaS (fun C_ ex_ s_ H_=>zaJ) (fun C_ ex_ s_ H_=>(zas (@zac _ _ _ _ _ _ (pv 0) (@zam _ _ _ _ _ _ pa_nil)))))) (pv 7))))) pss_nil)
   (@zaf _ _ _ (za0 PassesOwn.never (by rfl) (zaI (pv 5)) (zbo (n:=2) (by rfl) (zaA (zaq (i:=8) sc_law_due.nd (by rfl) (Or.inl rfl)) (zaA (zaq (i:=9) sc_law_due.nd (by rfl) (Or.inl rfl)) pgs_nil)))
   (@zaf _ _ _ (@zaD _ _ _ _ _ _ _ _ (zak op_ne (zah ix_F (zdm hu (pv 3) (pv 4) (fun _ _=>rfl)) (pv 8) (fun _ _=>rfl)) (pv 9) (zat _)) (@zaf _ _ _ (zao (zas (@zac _ _ _ _ _ _ (pv 2) (@zac _ _ _ _ _ _ (pv 4) (@zac _ _ _ _ _ _ (pv 8) (@zac _ _ _ _ _ _ (pv 9) pa_nil))))))) pss_nil))))))))))
   (@zaf _ _ _ (zao zaR))),?_⟩
  have topp:=PR.top
  have dl:das.length = 2:=by rw [PR.len,X.l2]
  generalize hG:tRet (tC .non) = tail
  simp! []
  refine zg1 (fun n H1=>n = 2∧H1 = H) (fun Q2 hQ=>by simp! [topp]; exact hQ _ H ⟨by rw [List.length_map,dl]; rfl,rfl⟩) ?_
  rintro n H0 ⟨rfl,rfl⟩
  refine L2.for1 (H1:=H0) 2 (fun Q2 h2=>h2) (by decide) (by decide) (fun j σ H4=>∃ v2 v3 v4 v5 v6 v7 v8 v9:Option V,σ = [some (V.ref pl),some tv,v2,v3,v4,v5,v6,v7,v8,v9]∧Same H0 H4∧ffn (fun f=>ds[f]?.bind fun d=>defF ds (ltb tb f) f d) j = none) ⟨_,_,_,_,_,_,_,_,rfl,Same.refl _,rfl⟩ ?_ ?_
  ·rintro f σ H1 hf ⟨v2,v3,v4,v5,v6,v7,v8,v9,rfl,S1,nf⟩
   have hd:=List.getElem?_eq_getElem (l:=ds) (i:=f) (by rw [X.l2]; exact hf)
   generalize hd0:ds[f]'(by rw [X.l2]; exact hf) = d at hd
   have lp:=PR.len
   have fl:=(List.getElem?_eq_some_iff.mp hd).1
   have f2:f < 2:=by rw [← X.l2]; exact fl
   have flp:f < das.length:=by omega
   have hda:=List.getElem?_eq_getElem (l:=das) (i:=f) flp
   obtain ⟨g1,g2⟩:=PR.def_ f _ _ hda hd
   have topp:=PR.top
   have ap:atI (das.map fun a=>V.ref a.1) ((f:Nat):Int) = some (.ref das[f].1):=zau (by rw [List.getElem?_map,hda]; rfl)
   have topr:=g2.top
   have DF:=X.pf.defs d (List.mem_of_getElem? hd)
   have LN_:=X.ln d (List.mem_of_getElem? hd)
   have n0:=DF.n0
   have n20:=LN_.n20
   have w0:=DF.w0
   have w1:=DF.w1
   have lr:=g2.len
   have wf:(fun i=>(ds.getD i (("",""),0,[])).2.1) f = d.2.1:=by dsimp only; rw [List.getD_eq_getElem?_getD,hd]; rfl
   have sga:=X.pf.sg.asc _ (List.mem_of_getElem? (zbU hd))
   rw [Int.zero_add]
   generalize hG2:tFor _ _ _ = tail2
   simp! []
   refine ⟨pl,f,tv,tb,das,ds,d,rfl,PR.same S1,X,hd,TV.same S1,fun D kvs as H2 S2 hD kda las ha=>?_⟩
   subst hG2
   refine zes (fun l H3=>H3 l = some (.lst (rngV d.2.2.length))∧Same H2 H3) (fun Q2 hQ=>?_) ?_
   ·simp! []
    refine ⟨kvs,hD,(List.range d.2.2.length).map fun k:Nat=>(k:Int),by rw [kda.keys,las,List.map_map]; rfl,by rw [List.length_map,List.length_range]; omega,fun l ns nl pm st=>hQ l _ ⟨?_,.laid nl⟩⟩
    have pr:((List.range d.2.2.length).map fun k:Nat=>(k:Int)).Pairwise (· < ·):=by
     rw [List.pairwise_map]
     exact List.pairwise_lt_range.imp fun h=>by omega
    rw [rise_ext (zgB pm (pr.imp fun h=>by omega) st) pr fun x=>pm.mem_iff,zaa,List.map_map]
    rfl
   rintro l H3 ⟨hl,S3⟩
   have be:(ds[f]?.bind fun d=>defF ds (ltb tb f) f d) = defF ds (ltb tb f) f d:=by rw [hd]; rfl
   refine forL (H1:=H3) l _ (fun Q2 h2=>h2) (fun j σ H4=>∃ v4 v5 v6 v7 v8 v9:Option V,σ = [some (V.ref pl),some tv,some (V.int f),some (V.ref D),v4,v5,v6,v7,v8,v9]∧Same H3 H4∧ffn (rowF ds (ltb tb f) d) j = none) ⟨_,_,_,_,_,_,rfl,Same.refl _,rfl⟩ (fun j σ H4 _ ⟨_,_,_,_,_,_,_,S4,_⟩=>.of (S4 _ _ hl)) ?_ ?_
   ·rintro i x σ H4 hx ⟨v4,v5,v6,v7,v8,v9,rfl,S4,nfi⟩
    obtain ⟨i',hi',rfl⟩:=zay hx
    have il:i < d.2.2.length:=by
     have:=(List.getElem?_eq_some_iff.mp hx).1
     rw [zbd] at this
     exact this
    rw [List.getElem?_range il] at hi'
    cases hi'
    have S24:=S3.trans S4
    have S14:=S1.trans (S2.trans S24)
    have topp4:=S14 _ _ topp
    have g14:=S14 _ _ g1
    have topr4:=S14 _ _ topr
    have hri:=List.getElem?_eq_getElem (l:=d.2.2) (i:=i) il
    generalize hr0:d.2.2[i] = r at hri
    have RF:=DF.rows r (List.mem_of_getElem? hri)
    have hra:=List.getElem?_eq_getElem (l:=das[f].2.2) (i:=i) (by rw [lr]; exact il)
    have ar:atI (das[f].2.2.map V.ref) ((i:Nat):Int) = some (.ref das[f].2.2[i]):=zau (by rw [List.getElem?_map,hra]; rfl)
    have eD:duL ds (ltb tb f) d i = usV (ds.map (·.1)) d.1.2 r ++ tbD (ltb tb f i):=by unfold duL; rw [hri]
    obtain ⟨tl1,tl2⟩:=zgh TF (i:=i) hd
    rw [zfX] at tl1 tl2
    have dok:∀ x ∈ duL ds (ltb tb f) d i,zfu (8 + d.2.1) x:=fun x hx=>by
     rw [eD] at hx
     rcases List.mem_append.mp hx with m | m
     ·exact zhT RF X.pf.sg ((X.pf.sg.gives _ (List.mem_of_getElem? (zbU hd))).imp (fun e=>by rw [e]; rfl) (fun e=>by rw [e]; rfl)) x m
     ·exact tl2 x m
    obtain ⟨kv1,kv2⟩:=zcO PR X hd (t:=ltb tb f) i
    have hai:=List.getElem?_eq_getElem (l:=as) (i:=i) (by rw [las]; exact il)
    have hk4:=S24 _ _ (ha i _ hai)
    have hD4:=S24 _ _ hD
    have vk:valV kvs (.inl (i:Int)) = some (.ref as[i]):=by rw [kda.val,hai]; rfl
    generalize hG3:tSeq (tIfS (tB (zhF _)) _ _) _ = tail3
    simp! [topp4,ap,g14,topr4,ar]
    obtain ⟨Nn,hNn⟩:∃ Nn:St->Hp->Prop,∀ σ H4,Nn σ H4 ↔ ∃ v4 v5 v6 v7 v8 v9:Option V,σ = [some (V.ref pl),some tv,some (V.int f),some (V.ref D),v4,v5,v6,v7,v8,v9]∧Same H3 H4∧ffn (rowF ds (ltb tb f) d) (i + 1) = none:=⟨_,fun _ _=>Iff.rfl⟩
    rw [show (fun (σ:St) (H4:Hp)=>∃ v4 v5 v6 v7 v8 v9:Option V,σ = [some (V.ref pl),some tv,some (V.int f),some (V.ref D),v4,v5,v6,v7,v8,v9]∧Same H3 H4∧ffn (rowF ds (ltb tb f) d) (i + 1) = none) = Nn from funext fun σ=>funext fun H=>propext (hNn σ H).symm]
    refine ⟨pl,das[f].2.2[i],f,das,ds,d,r,d.2.1,d.2.2.length,rfl,PR.same S14,hd,((PR.same S14).def_ f _ _ hda hd).2.row i _ _ hra hri,RF,X.pf.sg,fun sl rs H5 S5 P5=>?_⟩
    subst hG3
    generalize hG4:tFor (zcs _ (tVar 5)) _ _ = tail4
    have fin:∀ (sl:Addr) (rs:List Addr) (H6:Hp) (v6 v7 v8 v9:Option V) (bk:St->Hp->Prop),Same H4 H6->Prw H6 sl (duL ds (ltb tb f) d i) rs->tail4 { nx:=Nn,rt:=Q,bk:=bk,ct:=Nn } [some (V.ref pl),some tv,some (V.int f),some (V.ref D),some (V.int i),some (V.ref sl),v6,v7,v8,v9] H6:=fun sl rs H6 v6 v7 v8 v9 bk S6 P6=>by
     subst hG4
     refine forL (H1:=H6) sl (rs.map V.ref) (fun Q2 h2=>by simp! []; exact h2) (fun j σ H7=>∃ v8 v9:Option V,σ = [some (V.ref pl),some tv,some (V.int f),some (V.ref D),some (V.int i),some (V.ref sl),v6,v7,v8,v9]∧Same H6 H7∧∀ (k:Nat) (x:V × V),k < j->(duL ds (ltb tb f) d i)[k]? = some x->badD (kA (gvs ds) (ltb tb f) d i) x = false) ⟨_,_,rfl,Same.refl _,fun k x z=>absurd z (by omega)⟩ (fun j σ H7 _ ⟨_,_,_,S7,_⟩=>.of (S7 _ _ P6.top)) ?_ ?_
     ·rintro j x σ H7 hx ⟨v8,v9,rfl,S7,nb⟩
      obtain ⟨rj,hrj,rfl⟩:=zay hx
      have jl:=(List.getElem?_eq_some_iff.mp hrj).1
      have hxj:=List.getElem?_eq_getElem (l:=duL ds (ltb tb f) d i) (i:=j) (by rw [← P6.len]; exact jl)
      generalize hx0:(duL ds (ltb tb f) d i)[j]'(by rw [← P6.len]; exact jl) = x at hxj
      obtain ⟨p,e1,p1,kx⟩:=dok x (List.mem_of_getElem? hxj)
      have tj:=S7 _ _ (P6.at_ j rj x hrj hxj)
      have hk6:=S7 _ _ (S6 _ _ hk4)
      have hD6:=S7 _ _ (S6 _ _ hD4)
      have pl':p < (kA (gvs ds) (ltb tb f) d i).length:=by rw [kv2]; omega
      have hp:=List.getElem?_eq_getElem (l:=kA (gvs ds) (ltb tb f) d i) (i:=p) pl'
      have apk:=zau hp
      refine za7 tj rfl ?_
      rw [e1]
      have eb:badD (kA (gvs ds) (ltb tb f) d i) x = !decide ((kA (gvs ds) (ltb tb f) d i)[p] = x.2):=by
       unfold badD
       rw [e1]
       show (!decide ((kA (gvs ds) (ltb tb f) d i).getD (Int.toNat (p:Int)) .non = x.2)) = _
       rw [Int.toNat_natCast,List.getD_eq_getElem?_getD,hp,Option.getD_some]
      simp! [hD6,vk,hk6,apk]
      refine ⟨(kv1 _ (List.mem_of_getElem? hp)).scalK kx,?_⟩
      by_cases c:(kA (gvs ds) (ltb tb f) d i)[p] = x.2
      ·rw [if_neg (fun z=>z c)]
       refine ⟨S7,fun k y hk hy=>?_⟩
       by_cases ck:k < j
       ·exact nb k y ck hy
       ·have:k = j:=by omega
        subst this
        rw [hxj] at hy
        cases hy
        rw [eb,decide_eq_true c]
        rfl
      ·rw [if_pos c]
       intro t nt
       have S17:=S14.trans (S6.trans S7)
       refine q _ _ (S17.step nt) ?_
       have fe:defF ds (ltb tb f) f d = some (f,i,x):=by
        unfold defF
        rw [zb3 nfi (x:=(i,x)) ?_ il]
        ·rfl
        ·unfold rowF
         rw [find_some hxj (by rw [eb,decide_eq_false c]; rfl) nb]
         rfl
       unfold prgG
       rw [zb3 nf (x:=(f,i,x)) (by rw [be,fe]) (show f < 2 from hf)]
       obtain ⟨x1,x2⟩:=x
       dsimp only at e1
       rw [e1]
       exact ⟨t,rfl,zaa⟩
     ·rintro σ H7 ⟨v8,v9,rfl,S7,nb⟩
      refine (hNn _ _).mpr ⟨_,_,_,_,_,_,rfl,S4.trans (S6.trans S7),zcv nfi ?_⟩
      unfold rowF
      rw [find_none fun k x hk=>nb k x (by rw [List.length_map,P6.len]; exact (List.getElem?_eq_some_iff.mp hk).1) hk]
      rfl
    match tb,TV,eD,tl1,fin with
    | none,TV,eD,_,fin =>
     have e:tv = .non:=TV
     subst e
     simp! []
     exact fin sl rs H5 _ _ _ _ _ S5 (by rw [eD,show tbD (ltb none f i) = [] from rfl,List.append_nil]; exact P5)
    | some (f0,at0,hs,ps),TV,eD,tl1,fin =>
     have TV5:=(TV.same S14).same S5
     obtain ⟨tl,t0,l0,m0,us0,rfl,h1,h2,h3⟩:=TV
     simp! []
     refine ⟨f,i,.ref tl,some (f0,at0,hs,ps),rfl,TV5,fun v6' H6 S6 TV6=>?_⟩
     rcases TV6 with ⟨_,e⟩ | ⟨t,hl,m,us,hs',ps',rfl,e,k1,k2⟩
     ·exfalso
      have e2:(if f = f0∧i = at0 then some (hs,ps) else some ([],[])) = (none:Tb):=e
      split at e2 <;> cases e2
     rw [e] at eD tl1
     have k3:=k2.hl
     have k4:=k2.hm
     have k5:=S6 _ _ P5.top
     have th:(hs'.length:Nat) + ps'.length ≤ 100:=by have:=tl1; unfold tbD at this; rw [List.length_append,List.length_map,List.length_map] at this; exact this
     have ul:rs.length ≤ 1000:=by rw [P5.len]; exact (ziG X.pf.sg).1
     obtain ⟨uas,rfl,lu,ua⟩:=k2.pr.refs
     refine za7 k1 rfl ?_
     simp! []
     refine zeo (H1:=H6) hl (hs'.map V.int) (fun Q2 h2=>by simp! []; exact h2) (.of k3) (fun D i ys H7=>∃ ts:List Addr,ys = ts.map V.ref∧ts.length = i∧Same H6 H7∧H7 D = some (.lst ys)∧∀ (k:Nat) (r':Addr) (p:Int),ts[k]? = some r'->hs'[k]? = some p->H7 r' = some (.tup [.int p,.str "h"])) (fun D nD=>⟨[],rfl,rfl,.laid nD,zaa,fun k r' p h=>by simp at h⟩) ?_ (by rw [sizeLine_eq,List.length_map]; omega) ?_ ?_
     ·rintro D nD i ys H7 hi ⟨ts,rfl,lt,S7,e2,_⟩
      exact ⟨.of (S7 _ _ k3),e2,by rw [List.length_map]; omega⟩
     ·rintro D nD i x ys H7 hx ⟨ts,rfl,lt,S7,e2,ta⟩
      obtain ⟨z,hz,rfl⟩:=zay hx
      simp! [zaG,tTrue]
      intro p np
      have pD:p ≠ D:=fun e=>by rw [e,e2] at np; cases np
      refine ⟨zab e2 np,ts ++ [p],by rw [List.map_append]; rfl,by rw [List.length_append,lt]; rfl,zaz (fun c o e=>zab (S7 _ _ e) np) nD,fun k r' y h1 h2=>?_⟩
      by_cases c:k < ts.length
      ·rw [List.getElem?_append_left c] at h1
       have e:=ta k r' y h1 h2
       rw [zaj (fun z=>by rw [z,e2] at e; cases e)]
       exact zab e np
      ·have kl:=(List.getElem?_eq_some_iff.mp h1).1
       rw [List.length_append,List.length_singleton] at kl
       have ke:k = i:=by omega
       subst ke
       rw [List.getElem?_append_right (by omega),lt,Nat.sub_self] at h1
       rw [hz] at h2
       cases h1
       cases h2
       rw [zaj pD]
       exact zaa
     ·rintro D2 nD2 ys H7 ⟨ts,rfl,lt,S7,e2,ta⟩
      rw [List.length_map] at lt
      have k6:=S7 _ _ k5
      refine ⟨sl,D2,_,_,rfl,rfl,k6,e2,by rw [sizeLine_eq,List.length_map,List.length_map]; omega,fun s2 ns2=>⟨s2,m,_,_,rfl,rfl,zaa,zab (S7 _ _ k4) ns2,by rw [sizeLine_eq,List.length_append,List.length_map,List.length_map,List.length_map]; omega,fun s3 ns3=>?_⟩⟩
      have tp:∀ (r':Addr) (o:HO),H7 r' = some o->upd (upd H7 s2 (.lst (rs.map V.ref ++ ts.map V.ref))) s3 (.lst (rs.map V.ref ++ ts.map V.ref ++ uas.map V.ref)) r' = some o:=fun r' o e=>zab (zab e ns2) ns3
      refine fin s3 (rs ++ (ts ++ uas)) _ _ _ _ _ _ (fun c o h=>tp _ _ (S7 _ _ (S6 _ _ (S5 _ _ h)))) ?_
      rw [eD]
      refine Prw.app (by rw [zaa,List.map_append,List.map_append,List.append_assoc]) P5.len (by unfold tbD; rw [List.length_append,List.length_append,List.length_map,List.length_map,lt,lu]) (fun k r' p g1 g2=>tp _ _ (S7 _ _ (S6 _ _ (P5.at_ k r' p g1 g2)))) fun k r' p g1 g2=>?_
      unfold tbD at g2
      by_cases c:k < ts.length
      ·rw [List.getElem?_append_left c] at g1
       rw [List.getElem?_append_left (by rw [List.length_map]; omega),List.getElem?_map] at g2
       obtain ⟨y,hy,rfl⟩:=Option.map_eq_some_iff.mp g2
       exact tp _ _ (ta k r' y g1 hy)
      ·rw [List.getElem?_append_right (by omega)] at g1
       rw [List.getElem?_append_right (by rw [List.length_map]; omega),List.length_map,← lt,List.getElem?_map] at g2
       obtain ⟨y,hy,rfl⟩:=Option.map_eq_some_iff.mp g2
       exact tp _ _ (S7 _ _ (ua _ r' y g1 hy))
   ·rintro σ H4 ⟨v4,v5,v6,v7,v8,v9,rfl,S4,nfi⟩
    rw [zbd] at nfi
    refine ⟨_,_,_,_,_,_,_,_,rfl,S1.trans (S2.trans (S3.trans S4)),zcv nf ?_⟩
    rw [be]
    unfold defF
    rw [nfi]
    rfl
  ·rintro σ H4 ⟨v2,v3,v4,v5,v6,v7,v8,v9,rfl,S4,nf⟩
   subst hG
   simp! []
   exact q _ H4 S4 (by unfold prgG; rw [show (2:Nat) = Int.toNat 2 from rfl,nf]; rfl)
end
section
variable {P:Program} {w:World} {K:PySem.W.Frag} {mg:Str->Option Value} {base:Heap} {a:Ad}
theorem zdl {n k:Nat} (h:k < n):(rngV n)[k]? = some (.int (k:Int)):=by
 unfold rngV
 rw [List.getElem?_map,List.getElem?_range h]
 rfl
noncomputable def sp_shown:Sp:=fun vs H Q _=>∃ (pl dt wl:Addr) (tv:V) (tb:Tbs) (das:List (Addr × Addr × List Addr)) (ds:List Df) (d:Df) (f i p:Nat) (y:V),vs = [.ref pl,tv,.ref dt,.ref wl]∧ProgAt H pl das ds∧PX ds∧TbsV H tv tb∧H dt = some (.tup [.int (f:Int),.int (i:Int),.int (p:Int),y])∧H wl = some (.lst (rngV (i + 1)))∧ds[f]? = some d∧i < d.2.2.length∧p < (8 + d.2.1).toNat∧KV y∧(kA (gvs ds) (ltb tb f) d i).getD p .non ≠ y∧∀ H',Same H H'->Q (.bl true) H'
theorem zim {H:Hp} {l m:Addr} {n k:Nat} (h:H l = some (.lst (rngV n))) (h':H m = some (.lst (rngV n))) (n20:n ≤ 1000):Al H (k + 2) (.ref l) (.ref m):=by
 refine .inr ⟨l,m,_,_,rfl,rfl,.inl ⟨h,h'⟩,rfl,by rw [zbd]; exact n20,fun i a b h1 h2=>.inl ⟨by rw [h1] at h2; exact Option.some.inj h2,?_⟩⟩
 obtain ⟨z,_,rfl⟩:=zay h1
 rfl
set_option maxHeartbeats 2000000 in
theorem zdN (T:Txt K mg a):FnOk P w K mg base CX0 8 a.f_law_shown a.d_law_shown ["program","tables","due","way"] sp_shown:=by
 refine T.F_law_shown.okC sc_law_shown (fun vs H Q E h=>?_) (fun cdv A outer s H vs Q E hr h=>?_)
 ·obtain ⟨pl,dt,wl,tv,tb,das,ds,d,f,i,p,y,rfl,_⟩:=h
  rfl
 ·obtain ⟨pl,dt,wl,tv,tb,das,ds,d,f,i,p,y,rfl,PR,X,TV,hdt,hwl,hd,il,p1,ky,nb,q⟩:=h
  have hu:=zaT hr
  have lp:=PR.len
  have fl:=(List.getElem?_eq_some_iff.mp hd).1
  have f2:f < 2:=by rw [← X.l2]; exact fl
  have flp:f < das.length:=by omega
  have hda:=List.getElem?_eq_getElem (l:=das) (i:=f) flp
  obtain ⟨g1,g2⟩:=PR.def_ f _ _ hda hd
  have topp:=PR.top
  have ap:atI (das.map fun a=>V.ref a.1) ((f:Nat):Int) = some (.ref das[f].1):=zau (by rw [List.getElem?_map,hda]; rfl)
  have topr:=g2.top
  have DF:=X.pf.defs d (List.mem_of_getElem? hd)
  have LN_:=X.ln d (List.mem_of_getElem? hd)
  have n0:=DF.n0
  have n20:=LN_.n20
  have w0:=DF.w0
  have w1:=DF.w1
  have lr:=g2.len
  have wf:(fun i=>(ds.getD i (("",""),0,[])).2.1) f = d.2.1:=by dsimp only; rw [List.getD_eq_getElem?_getD,hd]; rfl
  have sga:=X.pf.sg.asc _ (List.mem_of_getElem? (zbU hd))
  refine ⟨_,(@zad _ _ _ _ _ (zbf (pv 2) (zbo (n:=4) (by rfl) (zaA (zaq (i:=4) sc_law_shown.nd (by rfl) (Or.inl rfl)) (zaA (zaq (i:=5) sc_law_shown.nd (by rfl) (Or.inl rfl)) (zaA (zaq (i:=6) sc_law_shown.nd (by rfl) (Or.inl rfl)) (zaA (zaq (i:=7) sc_law_shown.nd (by rfl) (Or.inl rfl)) pgs_nil))))))
   (@zad _ _ _ _ _ (@zaD _ _ _ _ _ _ _ _ (PW.pt (zdu (zcK (zbh (zax call_isF (by rfl) T.z_isinstance (by decide +kernel) (@zac _ _ _ _ _ _ (pv 3) (@zac _ _ _ _ _ _ (zaV (v:=.ty "list") (u:=.type "list") (by rfl) T.z_list (by decide +kernel) (by rfl)) pa_nil))))) (zcd (zak (ziH hu) (pv 3) (zav pa_nil) (zat _))))) (@zaf _ _ _ (zao zcU)) pss_nil)
   (@zad _ _ _ _ _ (@zaD _ _ _ _ _ _ _ _ (zcK (zbh (zal (zbc T 7) (hr.mono (by decide)) (by rfl) T.m_law_alike T.F_law_alike.kp T.b_law_alike .nil zaC (@zac _ _ _ _ _ _ (pv 3) (zae (zaW (N':=["x"]) (cap:=[none]) ⟨rfl,(by decide +kernel),(by decide +kernel),(by rfl),rfl,(by rfl)⟩ (by rfl) (zaI (pv 3)) (fun C_ ex_ s_ H_=>(zaq (i:=0) (show (["x"]:List Str).Nodup by decide +kernel) (by rfl) (Or.inl rfl))) zaS (fun C_ ex_ s_ H_=>(zcw (zbh (zax call_isF (by rfl) T.z_isinstance (by decide +kernel) (@zac _ _ _ _ _ _ (pv 0) (@zac _ _ _ _ _ _ (zaV (v:=.ty "int") (u:=.type "int") (by rfl) T.z_int (by decide +kernel) (by rfl)) pa_nil)))))) (fun C_ ex_ s_ H_=>(zaN call_int1 (by rfl) T.z_int (by decide +kernel) (@zac _ _ _ _ _ _ (pv 0) pa_nil)))) pa_nil))))) (@zaf _ _ _ (zao zcU)) pss_nil)
   (@zad _ _ _ _ _ (zaw (i:=8) sc_law_shown.nd (by rfl) (Or.inl rfl) (zal (zcl T) (hr.mono (by decide)) (by rfl) T.m_law_first T.F_law_first.kp T.b_law_first .nil zaC (@zac _ _ _ _ _ _ (pv 0) (@zac _ _ _ _ _ _ (pv 4) pa_nil))))
   (@zad _ _ _ _ _ (za0 PassesOwn.never (by rfl) (za3 (by rfl) T.z_range (zae (zaK op_sub (zax call_lenF (by rfl) T.z_len (by decide +kernel) (@zac _ _ _ _ _ _ (pv 3) pa_nil)) zag) pa_nil)) (zaq (i:=9) sc_law_shown.nd (by rfl) (Or.inl rfl))
   (@zad _ _ _ _ _ (@zaD _ _ _ _ _ _ _ _ (PW.pt (zdu (zak op_ne (zah ix_F (pv 3) zag (fun _ _=>rfl)) zag (zat _)) (zcd (zak op_notIn_seq (zah ix_F (pv 3) (zaK op_add (pv 9) zag) (fun _ _=>rfl)) (zal (zck T) (hr.mono (by decide)) (by rfl) T.m_law_nexts T.F_law_nexts.kp T.b_law_nexts .nil zaC (zae (zah ix_F (zah ix_F (pv 0) (pv 4) (fun _ _=>rfl)) zag (fun _ _=>rfl)) (zae (zah ix_F (pv 3) (pv 9) (fun _ _=>rfl)) pa_nil))) (by with_unfolding_all rfl))))) (@zaf _ _ _ (zao zcU)) pss_nil)
   (@zaf _ _ _ (zaw (i:=8) sc_law_shown.nd (by rfl) (Or.inl rfl) (zal (zbV T) (hr.mono (by decide)) (by rfl) T.m_law_behind T.F_law_behind.kp T.b_law_behind .nil zaC (@zac _ _ _ _ _ _ (pv 0) (zae (zah ix_F (zah ix_F (zah ix_F (pv 0) (pv 4) (fun _ _=>rfl)) zag (fun _ _=>rfl)) (zah ix_F (pv 3) (pv 9) (fun _ _=>rfl)) (fun _ _=>rfl)) (@zac _ _ _ _ _ _ (pv 8) (zae (zal (zbs T) (hr.mono (by decide)) (by rfl) T.m_law_table T.F_law_table.kp T.b_law_table .nil zaC (@zac _ _ _ _ _ _ (pv 1) (@zac _ _ _ _ _ _ (pv 4) (zae (zah ix_F (pv 3) (pv 9) (fun _ _=>rfl)) pa_nil)))) pa_nil)))))))))
   (@zaf _ _ _ (zao (zcG (za1 op_eq (zah ix_F (pv 3) zag (fun _ _=>rfl)) zag (zat _)) (zcG (za1 op_eq (zah ix_F (pv 3) (zgV un_neg zag) (fun _ _=>rfl)) (pv 5) (zat _)) (zcE (za1 op_ne (zah ix_F (pv 8) (pv 6) (fun _ _=>rfl)) (pv 7) (zat _)))))))))))),?_⟩
  generalize hG:tSeq (tFor _ _ _) _ = tail
  generalize hG1:tSeq (tIfS (tNot (tB (zgb (zeF _) _ _ _))) _ _) _ = tail1
  simp! []
  refine za7 hdt rfl ?_
  simp! [hwl]
  intro p5 np5
  have hw5:=zab (u:=.lst []) hwl np5
  refine ⟨_,by rw [hw5]; rfl,by rw [hw5]; rfl,?_⟩
  rw [if_neg (by rw [zbp]; simp)]
  have S1:Same H (upd H p5 (.lst [])):=Same.laid np5
  revert hw5 S1
  generalize upd H p5 (.lst []) = H1
  intro hw5 S1
  subst hG1
  simp! []
  refine zeT (H1:=H1) wl _ (fun v=>some v) (fun Q2 h2=>by simp! []; exact h2) (.of hw5) (by rw [sizeLine_eq,zbd]; omega) ?_ ?_
  ·intro x H2 R N2 hx S2 hR hN2
   obtain ⟨k,_,rfl⟩:=List.mem_map.mp hx
   simp! [zaG,tTrue]
   exact hR _ _ rfl (Same.refl _)
  intro D H2 nD S2 hD
  rw [show (fun v:V=>some v) = some from rfl,List.filterMap_some] at hD
  refine ⟨_,_,rfl,zim (k:=5) (S2 _ _ hw5) hD (by omega),fun H3 S3=>?_⟩
  have S13:=S1.trans (S2.trans S3)
  simp! []
  refine ⟨pl,f,_,_,_,d.2.1,d.1,rfl,PgB.of (PR.same S13) X.l2,wf,f2,zbU hd,sga.1,sga.2,w0,w1,fun l0 H4 nl0 S4 hl0=>?_⟩
  have S14:=S13.trans S4
  have hw4:=S14 _ _ hwl
  subst hG
  generalize hG:tRet _ = tail
  simp! []
  refine zg1 (fun n H5=>n = (i:Int)∧H5 = H4) (fun Q2 hQ=>by simp! [hw4]; exact hQ _ H4 ⟨by rw [zbd]; omega,rfl⟩) ?_
  rintro n H5 ⟨rfl,e5⟩
  rw [e5]
  clear e5 H5
  have a0:atI (rngV (i + 1)) 0 = some (.int 0):=zau (j:=0) (zdl (by omega))
  refine L2.for1 (H1:=H4) (i:Int) (fun Q2 h2=>h2) (by omega) (by omega) (fun j σ H5=>∃ (kl:Addr) (v9:Option V),σ = [some (V.ref pl),some tv,some (V.ref dt),some (V.ref wl),some (V.int f),some (V.int i),some (V.int p),some y,some (V.ref kl),v9]∧Same H4 H5∧H5 kl = some (.lst (kA (gvs ds) (ltb tb f) d j))) ⟨l0,_,rfl,Same.refl _,hl0⟩ ?_ ?_
  ·rintro j σ H5 hj ⟨kl,v9,rfl,S5,hkl⟩
   rw [Int.toNat_natCast] at hj
   have S15:=S14.trans S5
   have hw5:=S15 _ _ hwl
   have topp5:=S15 _ _ topp
   have g15:=S15 _ _ g1
   have topr5:=S15 _ _ topr
   have jl:j < d.2.2.length:=by omega
   have hri:=List.getElem?_eq_getElem (l:=d.2.2) (i:=j) jl
   generalize hr0:d.2.2[j] = r at hri
   have RF:=DF.rows r (List.mem_of_getElem? hri)
   have hra:=List.getElem?_eq_getElem (l:=das[f].2.2) (i:=j) (by rw [lr]; exact jl)
   have ar:atI (das[f].2.2.map V.ref) ((j:Nat):Int) = some (.ref das[f].2.2[j]):=zau (by rw [List.getElem?_map,hra]; rfl)
   have aj:atI (rngV (i + 1)) (j:Int) = some (.int (j:Int)):=zau (zdl (by omega))
   have aj1:atI (rngV (i + 1)) ((j:Int) + 1) = some (.int ((j + 1:Nat):Int)):=zau (j:=j + 1) (zdl (by omega))
   rw [Int.zero_add]
   generalize hG2:tAsg _ _ = tail2
   simp! [hw5,a0,aj1,topp5,ap,g15,aj]
   refine ⟨das[f].2.1,j,das[f].2.2,d.2.2,r,d.2.1,d.2.2.length,ds.map (·.1),rfl,((PR.same S15).def_ f _ _ hda hd).2,hri,RF,by omega,by omega,fun l H6 nl S6 hl=>?_⟩
   rw [LN_.mid j r hri (by omega)] at hl
   refine zcy (neg:=true) hl ⟨false,by simp,?_⟩
   rw [if_neg (by decide)]
   subst hG2
   have S16:=S15.trans S6
   have topp6:=S16 _ _ topp
   have g16:=S16 _ _ g1
   have topr6:=S16 _ _ topr
   have hw6:=S16 _ _ hwl
   simp! [topp6,ap,g16,topr6,hw6,aj,ar]
   refine ⟨f,j,tv,tb,rfl,TV.same S16,fun tv2 H8 S8 TV8=>?_⟩
   have S18:=S16.trans S8
   have PR8:=PR.same S18
   obtain ⟨g81,g82⟩:=PR8.def_ f _ _ hda hd
   obtain ⟨us,ru,PA⟩:=g82.row j _ _ hra hri
   have RO:=RowOk.of RF PA (by rw [List.length_map,X.l2])
   obtain ⟨kv1,kv2⟩:=zcO PR X hd (t:=ltb tb f) j
   refine ⟨pl,das[f].2.2[j],kl,tv2,ltb tb f j,_,_,_,d.2.1,r.1,us,_,rfl,PgB.of PR8 X.l2,ru,RO,TV8,S8 _ _ (S6 _ _ hkl),kv1,by rw [kv2]; omega,w0,w1,fun lf H9 nlf S9 hlf=>?_⟩
   rw [zfK (zb0 PA),show List.map (·.2) (ds.map (·.1)) = gvs ds from rfl,← zbO hri] at hlf
   exact ⟨lf,rfl,S5.trans (S6.trans (S8.trans S9)),hlf⟩
  ·rintro σ H5 ⟨kl,v9,rfl,S5,hkl⟩
   rw [Int.toNat_natCast] at hkl
   subst hG
   have hw5:=S5 _ _ hw4
   have al:atI (rngV (i + 1)) (-1) = some (.int (i:Int)):=by rw [zbp]; exact zcB _ _
   obtain ⟨kv1,kv2⟩:=zcO PR X hd (t:=ltb tb f) i
   have hp:=List.getElem?_eq_getElem (l:=kA (gvs ds) (ltb tb f) d i) (i:=p) (by rw [kv2]; exact p1)
   have apk:=zau hp
   rw [List.getD_eq_getElem?_getD,hp,Option.getD_some] at nb
   simp! [hw5,a0,al,hkl,apk]
   refine ⟨(kv1 _ (List.mem_of_getElem? hp)).scalK ky,?_⟩
   rw [decide_eq_false nb]
   exact q _ (S14.trans S5)
end
section
variable {P:Program} {w:World} {K:PySem.W.Frag} {mg:Str->Option Value} {base:Heap} {a:Ad}
noncomputable def sp_judged:Sp:=fun vs H Q _=>∃ (pl:Addr) (tv:V) (tb:Tbs) (das:List (Addr × Addr × List Addr)) (ds:List Df),vs = [.ref pl,tv]∧ProgAt H pl das ds∧PX ds∧TbsV H tv tb∧zdM ds tb∧StOk ds tb∧∀ H',Same H H'->Q (.bl true) H'
theorem zdv {α:Type} {g:Nat->Option α}:∀ {n:Nat} {x:α},ffn g n = some x->∃ i,i < n∧g i = some x
 | 0,x,h=>by cases h
 | n + 1,x,h=>by
  change (match ffn g n with | some x=>some x | none=>g n) = some x at h
  cases e:ffn g n with
  | none=>rw [e] at h; exact ⟨n,by omega,h⟩
  | some y =>
   rw [e] at h
   cases h
   obtain ⟨i,hi,h⟩:=zdv e
   exact ⟨i,by omega,h⟩
theorem zh2 {ds:List Df} {t:Nat->Nat->Tb} {f i:Nat} {x y:V} (h:prgG ds t = some (f,i,x,y)):∃ d,ds[f]? = some d∧i < d.2.2.length∧(x,y) ∈ duL ds (t f) d i∧badD (kA (gvs ds) (t f) d i) (x,y) = true:=by
 obtain ⟨f',hf,h⟩:=zdv h
 obtain ⟨d,hd,h⟩:=Option.bind_eq_some_iff.mp h
 obtain ⟨z,hz,e⟩:=Option.map_eq_some_iff.mp h
 cases e
 obtain ⟨i',hi,h⟩:=zdv hz
 obtain ⟨z,hz,e⟩:=Option.map_eq_some_iff.mp h
 cases e
 exact ⟨d,hd,hi,List.mem_of_find?_eq_some hz,List.find?_some hz⟩
theorem du_ok {ds:List Df} {tb:Tbs} (X:PX ds) (TF:zdM ds tb) {f i:Nat} {d:Df} (hd:ds[f]? = some d) (il:i < d.2.2.length):∀ x ∈ duL ds (ltb tb f) d i,zfu (8 + d.2.1) x:=fun x hx=>by
 have DF:=X.pf.defs d (List.mem_of_getElem? hd)
 have hri:=List.getElem?_eq_getElem (l:=d.2.2) (i:=i) il
 have eD:duL ds (ltb tb f) d i = usV (ds.map (·.1)) d.1.2 d.2.2[i] ++ tbD (ltb tb f i):=by unfold duL; rw [hri]
 obtain ⟨tl1,tl2⟩:=zgh TF (i:=i) hd
 rw [zfX] at tl1 tl2
 rw [eD] at hx
 rcases List.mem_append.mp hx with m | m
 ·exact zhT (DF.rows _ (List.mem_of_getElem? hri)) X.pf.sg ((X.pf.sg.gives _ (List.mem_of_getElem? (zbU hd))).imp (fun e=>by rw [e]; rfl) (fun e=>by rw [e]; rfl)) x m
 ·exact tl2 x m
set_option maxHeartbeats 2000000 in
theorem zbl (T:Txt K mg a):FnOk P w K mg base CX0 9 a.f_law_judged a.d_law_judged ["program","tables"] sp_judged:=by
 refine T.F_law_judged.okC sc_law_judged (fun vs H Q E h=>?_) (fun cdv A outer s H vs Q E hr h=>?_)
 ·obtain ⟨pl,tv,tb,das,ds,rfl,_⟩:=h
  rfl
 ·obtain ⟨pl,tv,tb,das,ds,rfl,PR,X,TV,TF,SO,q⟩:=h
  have hu:=zaT hr
  refine ⟨_,(@zad _ _ _ _ _ (zaw (i:=2) sc_law_judged.nd (by rfl) (Or.inl rfl) (zal (zfl T) (hr.mono (by decide)) (by rfl) T.m_law_due T.F_law_due.kp T.b_law_due .nil zaC (@zac _ _ _ _ _ _ (pv 0) (@zac _ _ _ _ _ _ (pv 1) pa_nil))))
   (@zad _ _ _ _ _ (zaw (i:=3) sc_law_judged.nd (by rfl) (Or.inl rfl) (zal (zgL T) (hr.mono (by decide)) (by rfl) T.m_fault T.F_fault.kp T.b_fault .nil zaC (@zac _ _ _ _ _ _ (pv 0) (@zac _ _ _ _ _ _ (pv 1) pa_nil))))
   (@zad _ _ _ _ _ (@zaD _ _ _ _ _ _ _ _ (PW.pt (zdu (za9 (zcg (pv 2))) (zdu (zcK (zbh (zax call_isF (by rfl) T.z_isinstance (by decide +kernel) (@zac _ _ _ _ _ _ (pv 3) (@zac _ _ _ _ _ _ (zaV (v:=.ty "tuple") (u:=.type "tuple") (by rfl) T.z_tuple (by decide +kernel) (by rfl)) pa_nil))))) (zcd (zak op_ne (zax call_lenF (by rfl) T.z_len (by decide +kernel) (@zac _ _ _ _ _ _ (pv 3) pa_nil)) zag (zat _)))))) (@zaf _ _ _ (zao (zcG (zhp (zcg (pv 2))) (zcE (zhp (zcg (pv 3))))))) pss_nil)
   (@zaf _ _ _ (zao (zcG (zal (zbc T 7) (hr.mono (by decide)) (by rfl) T.m_law_alike T.F_law_alike.kp T.b_law_alike .nil zaC (zae (zcu sl_tup (pv 3) po_none (zdw zag)) (@zac _ _ _ _ _ _ (pv 2) pa_nil))) (zcE (zal (zdN T) (hr.mono (by decide)) (by rfl) T.m_law_shown T.F_law_shown.kp T.b_law_shown .nil zaC (@zac _ _ _ _ _ _ (pv 0) (@zac _ _ _ _ _ _ (pv 1) (@zac _ _ _ _ _ _ (pv 2) (zae (zah ix_F (pv 3) zag (fun _ _=>rfl)) pa_nil)))))))))))),?_⟩
  generalize hG:tSeq (tIfS _ _ _) _ = tail
  simp! []
  refine ⟨pl,tv,tb,das,ds,rfl,PR,X,TV,TF,fun v H1 S1 dv=>?_⟩
  refine ⟨pl,tv,tb,das,ds,rfl,PR.same S1,X,TV.same S1,TF,fun v2 H2 S2 fv=>?_⟩
  subst hG
  rw [← ziV SO] at fv
  have S12:=S1.trans S2
  cases e:prgG ds (ltb tb) with
  | none =>
   rw [e] at dv fv
   have e1:v = .non:=dv
   have e2:v2 = .non:=fv
   subst e1 e2
   simp! []
   exact q _ S12
  | some z =>
   obtain ⟨f,i,x,y⟩:=z
   rw [e] at dv fv
   obtain ⟨d,hd,il,mm,bb⟩:=zh2 e
   obtain ⟨p,e1,p1,ky⟩:=du_ok X TF hd il _ mm
   dsimp only at e1
   subst e1
   obtain ⟨t1,rfl,ht1⟩:=dv
   obtain ⟨t2,wl,rfl,ht2,hwl⟩:=fv
   have ht1':=S2 _ _ ht1
   simp! [ht2]
   rw [if_neg (fun z=>z rfl)]
   have c4:=zir [V.int f,V.int i,V.int p,y,V.ref wl] 4
   simp! [tSl,tNoPart,zhQ,rSlT]
   refine ⟨_,.of ht2,(show ¬ (HT.sIx 5 0 none = 0∧HT.sIx 5 5 (some 4) = 5) by decide),fun t3 nt3=>?_⟩
   rw [show cutV [V.int f,V.int i,V.int p,y,V.ref wl] none (some 4) = [V.int f,V.int i,V.int p,y] from c4]
   have h3:upd H2 t3 (.tup [V.int f,V.int i,V.int p,y]) t3 = some (.tup [V.int f,V.int i,V.int p,y]):=zaa
   have h1:=zab (u:=.tup [V.int f,V.int i,V.int p,y]) ht1' nt3
   have sy:scV y = true:=by
    rcases ky with e | ⟨s,_,e⟩ | ⟨k,_,e⟩ <;> (dsimp only at e; subst e; rfl)
   refine ⟨_,_,rfl,.inr ⟨t3,t1,_,_,rfl,rfl,.inr ⟨h3,h1⟩,rfl,(show (4:Nat) ≤ 1000 by decide),fun k x z g1 g2=>.inl ⟨by rw [g1] at g2; exact Option.some.inj g2,?_⟩⟩,fun H4 S4=>⟨true,rfl,?_⟩⟩
   ·match k,g1 with
    | 0,g1=>cases g1; rfl
    | 1,g1=>cases g1; rfl
    | 2,g1=>cases g1; rfl
    | 3,g1=>cases g1; exact sy
    | k + 4,g1=>simp at g1
   rw [if_pos rfl]
   have ht4:=S4 _ _ (zab (u:=.tup [V.int f,V.int i,V.int p,y]) ht2 nt3)
   have hw4:=S4 _ _ (zab (u:=.tup [V.int f,V.int i,V.int p,y]) hwl nt3)
   have S14:Same H H4:=(S12.step nt3).trans S4
   refine ⟨_,by rw [ht4]; rfl,_,zie,?_⟩
   refine ⟨pl,t1,wl,tv,tb,das,ds,d,f,i,p,y,rfl,PR.same S14,X,TV.same S14,S4 _ _ h1,hw4,hd,il,by omega,ky,?_,fun H5 S5=>q _ (S14.trans S5)⟩
   intro z
   unfold badD at bb
   dsimp only at bb
   rw [Int.toNat_natCast,z,decide_eq_true rfl] at bb
   cases bb
end
section
variable {P:Program} {w:World} {K:PySem.W.Frag} {mg:Str->Option Value} {base:Heap} {a:Ad}
theorem Prs.kp {H H':Hp} {b c:Addr} {cs:List Int} {vs:List V} {ps:List Pr} (h:Prs H vs ps) (B:BagAt H b c cs) (k:Kp b H H'):Prs H' vs ps:=by
 induction h with
 | nil=>exact .nil
 | cons e _ ih=>exact .cons (B.tup k e) ih
noncomputable def sp_halves:Sp:=fun vs H Q _=>∃ (b c hl:Addr) (cs hs:List Int),vs = [.ref b,.ref hl]∧BagAt H b c cs∧H hl = some (.lst (hs.map V.int))∧hs ≠ []∧hs.length ≤ 10 ∧
 ∀ (l:Addr) (us:List V) (ps:List Pr) (H':Hp),H l = none->BagAt H' b c cs->Kp b H H'->H' l = some (.lst us)->Prs H' us ps->(∀ p ∈ ps,8 ≤ p.1∧p.1 < 14∧p.2 ∈ hs)->ps.length ≤ 6->Q (.ref l) H'
set_option maxHeartbeats 2000000 in
theorem zb4 (T:Txt K mg a):FnOk P w K mg base CX0 2 a.f_law_some_halves a.d_law_some_halves ["bag","holds"] sp_halves:=by
 refine T.F_law_some_halves.okC sc_law_some_halves (fun vs H Q E h=>?_) (fun cdv A outer s H vs Q E hr h=>?_)
 ·obtain ⟨b,c,hl,cs,hs,rfl,_⟩:=h
  rfl
 ·obtain ⟨b,c,hl,cs,hs,rfl,B,hh,hne,h10,q⟩:=h
  have hu:=zaT hr
  refine ⟨_,(@zad _ _ _ _ _ (zaw (i:=2) sc_law_some_halves.nd (by rfl) (Or.inl rfl) (zav pa_nil))
   (@zad _ _ _ _ _ (za0 PassesOwn.never (by rfl) (zdP (by rfl) T.z_range (@zai _ _ _ _ _ _ (@zai _ _ _ _ _ _ pa_nil))) (zaq (i:=3) sc_law_some_halves.nd (by rfl) (Or.inl rfl))
   (@zaf _ _ _ (@zaD _ _ _ _ _ _ _ _ (PW.pt (zcm (zak op_notIn_seq (pv 3) (pv 1) (by with_unfolding_all rfl)) (zcm (zak (zhs hu) (pv 1) (zav pa_nil) (zat _)) (zbP (zak op_eq (zal (zaE T) (hr.mono (by decide)) (by rfl) T.m_law_draw T.F_law_draw.kp T.b_law_draw .nil zaC (@zac _ _ _ _ _ _ (pv 0) (@zai _ _ _ _ _ _ pa_nil))) zag (zat _)))))) (@zaf _ _ _ (za6 (zct PySem.F.plainAttrs_list PySem.F.slot_list_append PySem.F.type_list_append mt_append (pv 2) (zae (zas (@zac _ _ _ _ _ _ (pv 3) (zae (zah ix_F (pv 1) (zal (zaE T) (hr.mono (by decide)) (by rfl) T.m_law_draw T.F_law_draw.kp T.b_law_draw .nil zaC (@zac _ _ _ _ _ _ (pv 0) (zae (zax call_lenF (by rfl) T.z_len (by decide +kernel) (@zac _ _ _ _ _ _ (pv 1) pa_nil)) pa_nil))) (fun _ _=>rfl)) pa_nil))) pa_nil)))) pss_nil)))
   (@zaf _ _ _ (zao (pv 2))))),?_⟩
  generalize hG:tRet _ = tail
  simp! []
  intro l nl
  have hlb:hl ≠ b:=B.nInts hh
  have lb:l ≠ b:=(B.apart nl).1
  have lhl:l ≠ hl:=(zan hh nl).symm
  refine for2 (H1:=upd H l (.lst [])) 8 14 (fun Q2 h2=>by simp! []; exact h2) (by decide) (fun j σ H2=>∃ (us:List V) (ps:List Pr) (v3:Option V),σ = [some (V.ref b),some (V.ref hl),some (V.ref l),v3]∧BagAt H2 b c cs∧Kp b H H2∧H2 l = some (.lst us)∧Prs H2 us ps∧(∀ p ∈ ps,8 ≤ p.1∧p.1 < 14∧p.2 ∈ hs)∧ps.length ≤ j) ⟨[],[],_,rfl,B.laid nl,Kp.refl.laid nl,zaa,.nil,fun p h=>by simp at h,Nat.le_refl _⟩ ?_ ?_
  ·rintro j σ H2 hj ⟨us,ps,v3,rfl,B2,k2,e2,P2,b2,l2⟩
   have hh2:=k2 _ _ hh hlb
   have jj:j < 6:=hj
   obtain ⟨Nn,hNn⟩:∃ Nn:St->Hp->Prop,∀ σ H2,Nn σ H2 ↔ ∃ (us:List V) (ps:List Pr) (v3:Option V),σ = [some (V.ref b),some (V.ref hl),some (V.ref l),v3]∧BagAt H2 b c cs∧Kp b H H2∧H2 l = some (.lst us)∧Prs H2 us ps∧(∀ p ∈ ps,8 ≤ p.1∧p.1 < 14∧p.2 ∈ hs)∧ps.length ≤ j + 1:=⟨_,fun _ _=>Iff.rfl⟩
   rw [show (fun (σ:St) (H2:Hp)=>∃ (us:List V) (ps:List Pr) (v3:Option V),σ = [some (V.ref b),some (V.ref hl),some (V.ref l),v3]∧BagAt H2 b c cs∧Kp b H H2∧H2 l = some (.lst us)∧Prs H2 us ps∧(∀ p ∈ ps,8 ≤ p.1∧p.1 < 14∧p.2 ∈ hs)∧ps.length ≤ j + 1) = Nn from funext fun σ=>funext fun H=>propext (hNn σ H).symm]
   have keep:∀ H3 v3,BagAt H3 b c cs->Kp b H2 H3->Nn [some (V.ref b),some (V.ref hl),some (V.ref l),v3] H3:=fun H3 v3 B3 k3=>(hNn _ _).mpr ⟨us,ps,v3,rfl,B3,k2.trans k3,k3 _ _ e2 lb,P2.kp B2 k3,b2,by omega⟩
   generalize hG2:zd6 _ = tail2
   simp! []
   refine zcy (neg:=true) hh2 ⟨_,rfl,?_⟩
   by_cases cj:(8 + (j:Int)) ∈ hs
   ·rw [if_neg (by simp [cj])]
    exact keep H2 _ B2 Kp.refl
   ·rw [if_pos (by simp [cj])]
    intro p np
    have hh3:=zab (u:=.lst []) hh2 np
    refine ⟨_,by rw [hh3]; rfl,by rw [hh3]; rfl,?_⟩
    rw [if_pos (by rw [List.isEmpty_map]; cases hs with | nil=>exact absurd rfl hne | cons x r=>rfl)]
    have B3:=B2.laid np (u:=.lst [])
    have k3:Kp b H2 (upd H2 p (.lst [])):=Kp.refl.laid np
    revert hh3 B3 k3
    generalize upd H2 p (.lst []) = H3
    intro hh3 B3 k3
    refine ⟨b,c,cs,2,rfl,B3,by decide,by decide,fun x H4 x0 x1 B4 k4=>⟨rfl,?_⟩⟩
    by_cases cx:x = 1
    ·subst cx
     rw [if_pos rfl]
     subst hG2
     have hh4:=k4 _ _ hh3 hlb
     simp! [tBM,hh4]
     have k24:=k3.trans k4
     have e4:=k24 _ _ e2 lb
     have hl0:0 < hs.length:=List.length_pos_iff.mpr hne
     refine ⟨.inl ⟨rfl,_,.of e4⟩,b,c,cs,_,rfl,B4,by rw [List.length_map]; omega,by rw [List.length_map]; omega,fun x H5 x0 x1 B5 k5=>?_⟩
     obtain ⟨n,rfl⟩:=Int.eq_ofNat_of_zero_le x0
     rw [List.length_map] at x1
     have hn:=List.getElem?_eq_getElem (l:=hs) (i:=n) (by omega)
     have hh5:=k5 _ _ hh4 hlb
     refine ⟨_,rfl,_,by rw [hh5]; rfl,_,zau (by rw [List.getElem?_map,hn]; rfl),fun t nt=>?_⟩
     have k25:=k24.trans k5
     have P5:=(P2.kp B2 k25).same (Same.laid nt (u:=.tup [V.int (8 + (j:Int)),V.int hs[n]]))
     have e5:=zab (u:=.tup [V.int (8 + (j:Int)),V.int hs[n]]) (k25 _ _ e2 lb) nt
     have tl:t ≠ l:=fun z=>by rw [z,zaa] at e5; cases e5
     have B6:=(B5.laid nt (u:=.tup [V.int (8 + (j:Int)),V.int hs[n]]))
     refine ⟨l,us,_,rfl,rfl,e5,by rw [sizeLine_eq,P2.len]; omega,?_⟩
     refine (hNn _ _).mpr ⟨us ++ [.ref t],ps ++ [(8 + (j:Int),hs[n])],_,rfl,?_,?_,zaa,(P5.put e5).app (by rw [zaj tl]; exact zaa),?_,by rw [List.length_append,List.length_singleton]; omega⟩
     ·exact B6.other lb (B.apart nl).2
     ·exact fun q o h n=>by
       rw [zaj (fun z=>by rw [z,nl] at h; cases h)]
       exact zab ((k2.trans k25) q o h n) nt
     ·intro p hp
      rcases List.mem_append.mp hp with m | m
      ·exact b2 p m
      ·rw [List.mem_singleton.mp m]
       exact ⟨by dsimp only; omega,by dsimp only; omega,List.mem_of_getElem? hn⟩
    ·rw [if_neg (fun z=>cx (V.int.inj z))]
     exact keep H4 _ B4 (k3.trans k4)
  ·rintro σ H2 ⟨us,ps,v3,rfl,B2,k2,e2,P2,b2,l2⟩
   subst hG
   simp! []
   exact q l us ps H2 nl B2 k2 e2 P2 b2 l2
end
section
variable {P:Program} {w:World} {K:PySem.W.Frag} {mg:Str->Option Value} {base:Heap} {a:Ad}
theorem Al.up {H:Hp}:∀ {n:Nat} {x y:V},Al H n x y->Al H (n + 1) x y
 | 0,_,_,h=>h.elim
 | n + 1,x,y,h=>by
  rcases h with h | ⟨p,q,xs,ys,e1,e2,hh,l,l1,el⟩
  ·exact .inl h
  ·exact .inr ⟨p,q,xs,ys,e1,e2,hh,l,l1,fun i a b h1 h2=>Al.up (el i a b h1 h2)⟩
theorem Al.ints {H:Hp} {p q:Addr} {ns:List Int} (h1:H p = some (.lst (ns.map V.int))) (h2:H q = some (.lst (ns.map V.int))) (l:ns.length ≤ 1000):Al H 2 (.ref p) (.ref q) :=
 .inr ⟨p,q,_,_,rfl,rfl,.inl ⟨h1,h2⟩,rfl,by rw [List.length_map]; exact l,fun i a b e1 e2=>by
  rw [e1] at e2
  cases e2
  obtain ⟨z,_,rfl⟩:=zay e1
  exact .inl ⟨rfl,rfl⟩⟩
abbrev DA:=Addr × Addr × List Addr
noncomputable def zfD (r:Row):Prop:=r.2.length ≤ 3∧∀ ks:List Int,Sum.inr ks ∈ r.2->ks.length ≤ 6
theorem Al.row2 {H:Hp} {p q:Addr} {r:Row} (A:zbe H p r) (B:zbe H q r) (sm:zfD r):Al H 3 (.ref p) (.ref q):=by
 obtain ⟨vs,hp,PA⟩:=A
 obtain ⟨us,hq,PB⟩:=B
 have la:=PA.len
 have lb:=PB.len
 have l3:=sm.1
 refine .inr ⟨p,q,_,_,rfl,rfl,.inr ⟨hp,hq⟩,by rw [List.length_cons,List.length_cons]; omega,by rw [List.length_cons]; omega,fun i a b e1 e2=>?_⟩
 cases i with
 | zero=>cases e1; cases e2; exact .inl ⟨rfl,rfl⟩
 | succ i =>
  rw [List.getElem?_cons_succ] at e1 e2
  have hi:=(List.getElem?_eq_some_iff.mp e1).1
  have e3:=List.getElem?_eq_getElem (l:=r.2) (i:=i) (by omega)
  have pa:=PA.at_ i a _ e1 e3
  have pb:=PB.at_ i b _ e2 e3
  have mm:=List.mem_of_getElem? e3
  revert pa pb mm
  generalize r.2[i] = pt
  intro pa pb mm
  cases pt with
  | inl x=>cases (show a = .int x from pa); cases (show b = .int x from pb); exact .inl ⟨rfl,rfl⟩
  | inr ks =>
   obtain ⟨qa,rfl,ha⟩:=pa
   obtain ⟨qb,rfl,hb⟩:=pb
   have:=sm.2 ks mm
   refine .inr ⟨qa,qb,_,_,rfl,rfl,.inr ⟨ha,hb⟩,rfl,by rw [List.length_map]; omega,fun i a b e1 e2=>?_⟩
   rw [e1] at e2
   cases e2
   obtain ⟨z,_,rfl⟩:=zay e1
   exact .inl ⟨rfl,rfl⟩
theorem Al.rows {H:Hp} {l1 l2:Addr} {rs1 rs2:List Addr} {rws:List Row} (A:RowsOf H l1 rs1 rws) (B:RowsOf H l2 rs2 rws) (sm:∀ r ∈ rws,zfD r) (ln:rws.length ≤ 1000):Al H 4 (.ref l1) (.ref l2):=by
 have la:=A.len
 have lb:=B.len
 refine .inr ⟨l1,l2,_,_,rfl,rfl,.inl ⟨A.top,B.top⟩,by rw [List.length_map,List.length_map]; omega,by rw [List.length_map]; omega,fun i a b e1 e2=>?_⟩
 obtain ⟨p,hp,rfl⟩:=zay e1
 obtain ⟨q,hq,rfl⟩:=zay e2
 have il:i < rws.length:=by rw [← la]; exact (List.getElem?_eq_some_iff.mp hp).1
 have e3:=List.getElem?_eq_getElem il
 exact Al.row2 (A.row i p _ hp e3) (B.row i q _ hq e3) (sm _ (List.getElem_mem il))
theorem Al.prog {H:Hp} {p1 p2:Addr} {as bs:List DA} {ds:List Df} (A:ProgAt H p1 as ds) (B:ProgAt H p2 bs ds) (sm:∀ d ∈ ds,d.2.2.length ≤ 1000∧∀ r ∈ d.2.2,zfD r) (ln:ds.length ≤ 1000):Al H 6 (.ref p1) (.ref p2):=by
 have la:=A.len
 have lb:=B.len
 refine .inr ⟨p1,p2,_,_,rfl,rfl,.inl ⟨A.top,B.top⟩,by rw [List.length_map,List.length_map]; omega,by rw [List.length_map]; omega,fun i x y e1 e2=>?_⟩
 obtain ⟨p,hp,rfl⟩:=zay e1
 obtain ⟨q,hq,rfl⟩:=zay e2
 have il:i < ds.length:=by rw [← la]; exact (List.getElem?_eq_some_iff.mp hp).1
 have e3:=List.getElem?_eq_getElem il
 obtain ⟨a1,a2⟩:=A.def_ i p _ hp e3
 obtain ⟨b1,b2⟩:=B.def_ i q _ hq e3
 obtain ⟨s1,s2⟩:=sm _ (List.getElem_mem il)
 refine .inr ⟨p.1,q.1,_,_,rfl,rfl,.inr ⟨a1,b1⟩,rfl,by simp,fun j x y h1 h2=>?_⟩
 match j,h1,h2 with
 | 0,h1,h2=>cases h1; cases h2; exact .inl ⟨rfl,rfl⟩
 | 1,h1,h2=>cases h1; cases h2; exact .inl ⟨rfl,rfl⟩
 | 2,h1,h2=>cases h1; cases h2; exact .inl ⟨rfl,rfl⟩
 | 3,h1,h2=>cases h1; cases h2; exact Al.rows a2 b2 s2 s1
 | j + 4,h1,h2=>simp at h1
noncomputable def spLaw (K:PySem.W.Frag):Sp:=fun vs H Q _=>∃ (a:Addr) (ns:List Int),vs = [.ref a]∧SqL K H a (ns.map V.int)∧ns.length ≤ 63∧∀ H',Q (.bl true) H'
theorem ziz {words many:Int} {sg:List Sg} {r:Row} (F:zaH words many sg r) (s6:∀ x ∈ sg,x.1.cps.size ≤ 6):zfD r:=by
 obtain ⟨ls,m,l,pf⟩:=F
 have k3:=(LW_ok _ m).1
 refine ⟨by dsimp only at k3; omega,fun ks hk=>?_⟩
 obtain ⟨i,hi⟩:=List.getElem?_of_mem hk
 have il:=(List.getElem?_eq_some_iff.mp hi).1
 have hc:=Array.getElem?_eq_getElem (xs:=ls.cps) (i:=i) (by omega)
 rcases pf.at_ i _ _ hc hi with ⟨_,x,e,_⟩ | ⟨_,x,e,_⟩ | ⟨_,x,e,_⟩ | ⟨_,x,e,_⟩ | ⟨_,x,e,_⟩ | ⟨_,f,l',z,_,hz,e,ll,_⟩
 ·cases e
 ·cases e
 ·cases e
 ·cases e
 ·cases e
 ·cases e
  have:=s6 z (List.mem_of_getElem? hz)
  omega
noncomputable def zdI (l:List Int):Row:=("call",[.inl 0,.inl 1,.inr l])
noncomputable def ze8 (x:Int):Row:=("look",[.inl 1,.inl x,.inl 9])
noncomputable def zbL (y:Int):Row:=("back",[.inl y])
noncomputable def putR (p x:Int):Row:=("put",[.inl p,.inl x])
noncomputable def nilR (p:Int):Row:=("nil",[.inl p])
theorem zeP {words many p x:Int} {sg:List Sg} (h0:0 ≤ p) (h1:p < 8 + words) (x0:-(10 ^ 60) < x) (x1:x < 10 ^ 60):zaH words many sg (putR p x):=ziL ⟨h0,h1⟩ x0 x1
theorem zeV {words many p:Int} {sg:List Sg} (h0:0 ≤ p) (h1:p < 8 + words):zaH words many sg (nilR p):=ziF ⟨h0,h1⟩
theorem zd4 {words many p:Int} {sg:List Sg} (h0:0 ≤ p) (h1:p < 8 + words):zaH words many sg (zbL p):=ziB ⟨h0,h1⟩
theorem zgp {words many x:Int} {sg:List Sg} (w:6 ≤ words) (h0:0 ≤ x) (h1:x < 8 + words):zaH words many sg (ze8 x):=f_ppp (by decide +kernel) ⟨by decide,by omega⟩ ⟨h0,h1⟩ ⟨by decide,by omega⟩
theorem zgg {words many:Int} {sg:List Sg} {l:List Int} {z:Sg} (w:6 ≤ words) (s2:sg.length = 2) (hz:sg[1]? = some z) (ll:l.length = z.1.cps.size) (hl:∀ x ∈ l,0 ≤ x∧x < 8 + words):zaH words many sg (zdI l):=⟨"pfq",by unfold zdI; dsimp only; decide +kernel,rfl,⟨fun i c y g1 g2=>by
 match i,g1,g2 with
 | 0,g1,g2=>cases g2; exact .inl ⟨by revert g1; rw [show ("pfq":Str).cps = #[112,102,113] by decide]; simp; exact fun z=>z.symm,0,rfl,by decide,by omega⟩
 | 1,g1,g2=>cases g2; exact .inr (.inr (.inr (.inl ⟨by revert g1; rw [show ("pfq":Str).cps = #[112,102,113] by decide]; simp; exact fun z=>z.symm,1,rfl,by decide,by omega⟩)))
 | 2,g1,g2=>cases g2; exact .inr (.inr (.inr (.inr (.inr ⟨by revert g1; rw [show ("pfq":Str).cps = #[112,102,113] by decide]; simp; exact fun z=>z.symm,1,l,z,rfl,hz,rfl,ll,hl⟩))))
 | i + 3,g1,g2=>simp [zdI] at g2⟩⟩
noncomputable def plW:List Str:=["put","nil","into","copy","call","look"]
theorem plW_ok:∀ w ∈ plW,w ≠ "back"∧w ≠ "jump"∧¬ Br w:=by unfold Br; decide +kernel
theorem ziZ {r:Row} {k:Nat} (h:r.1 ∈ plW):nxt r k = [((k + 1:Nat):Int)]:=by
 obtain ⟨h1,h2,h3⟩:=plW_ok _ h
 unfold nxt
 rw [if_neg h1,if_neg h2,if_neg h3]
 rfl
theorem Ln.of {pre:List Row} {y:Int} (h:∀ r ∈ pre,r.1 ∈ plW) (l:pre.length < 20):Ln (pre ++ [zbL y]):=by
 refine ⟨by rw [List.length_append,List.length_singleton]; omega,fun i r hi il=>?_,fun i r hi il=>?_⟩
 ·rw [List.length_append,List.length_singleton] at il
  rw [List.getElem?_append_left (by omega)] at hi
  exact ziZ (h r (List.mem_of_getElem? hi))
 ·rw [List.length_append,List.length_singleton] at il
  have:i = pre.length:=by omega
  subst this
  rw [List.getElem?_append_right (Nat.le_refl _),Nat.sub_self] at hi
  cases hi
  rfl
theorem zdU {pre:List Row} {y:Int}:ze2 (pre ++ [zbL y]):=⟨zbL y,by simp,.inl rfl⟩
structure Body (rws:List Row) (at_:Nat) (l:List Int):Prop where
 ex:∃ (pre:List Row) (x y:Int),rws = pre ++ [zdI l,ze8 x] ++ [zbL y]∧(∀ r ∈ pre,PutR r)∧pre.length = at_∧0 ≤ x∧x < 14∧0 ≤ y∧y < 14
 n:at_ ≤ 12
 li:∀ x ∈ l,0 ≤ x∧x < 14
theorem putW:∀ w ∈ (["put","nil","into","copy"]:List Str),w ∈ plW∧zbF w = false:=by decide +kernel
theorem Body.df {rws:List Row} {at_:Nat} {l:List Int} (B:Body rws at_ l) {sg:List Sg} {z:Sg} (s2:sg.length = 2) (hz:sg[1]? = some z) (ll:l.length = z.1.cps.size) (s:Sg):DfFit sg (s,6,rws)∧Ln rws:=by
 obtain ⟨pre,x,y,e,hp,hl,x0,x1,y0,y1⟩:=B.ex
 have n:=B.n
 have len:rws.length = at_ + 3:=by rw [e]; simp; omega
 have lnn:Ln rws:=by
  rw [e]
  refine Ln.of (fun r hr=>?_) (by simp; omega)
  rcases List.mem_append.mp hr with m | m
  ·exact (putW _ (hp r m).w).1
  ·rcases List.mem_cons.mp m with m | m
   ·rw [m]; show ("call":Str) ∈ plW; decide +kernel
   ·rw [List.mem_singleton.mp m]; show ("look":Str) ∈ plW; decide +kernel
 refine ⟨⟨by show (0:Int) ≤ 6; decide,by show (6:Int) ≤ 16; decide,by show 0 < rws.length; omega,by show rws.length ≤ 40; omega,fun r hr=>?_,by show ze2 rws; rw [e]; exact zdU⟩,lnn⟩
 have hr':r ∈ rws:=hr
 show zaH 6 _ sg r
 rw [e] at hr'
 rcases List.mem_append.mp hr' with m | m
 ·rcases List.mem_append.mp m with m | m
  ·exact (hp r m).fit _ sg
  ·rcases List.mem_cons.mp m with m | m
   ·rw [m]; exact zgg (by decide) s2 hz ll fun x hx=>B.li x hx
   ·rw [List.mem_singleton.mp m]; exact zgp (by decide) x0 (by omega)
 ·rw [List.mem_singleton.mp m]; exact zd4 y0 (by omega)
theorem Body.stop {rws:List Row} {at_:Nat} {l:List Int} (B:Body rws at_ l) {i:Nat} {r:Row} (h:rws[i]? = some r) (s:zbF r.1 = true):i = at_:=by
 obtain ⟨pre,x,y,e,hp,hl,_⟩:=B.ex
 rw [e] at h
 by_cases c:i < pre.length
 ·rw [List.append_assoc,List.getElem?_append_left c] at h
  have:=(putW _ (hp r (List.mem_of_getElem? h)).w).2
  rw [this] at s
  cases s
 ·rw [List.append_assoc,List.getElem?_append_right (by omega)] at h
  have g:i - pre.length = 0 ∨ i - pre.length = 1 ∨ i - pre.length = 2 ∨ 3 ≤ i - pre.length:=by omega
  rcases g with g | g | g | g
  ·omega
  ·rw [g] at h
   cases h
   exact absurd s (show ¬ zbF "look" = true by decide +kernel)
  ·rw [g] at h
   cases h
   exact absurd s (show ¬ zbF "back" = true by decide +kernel)
  ·rw [List.getElem?_eq_none (by simp; omega)] at h
   cases h
end
section
variable {P:Program} {w:World} {K:PySem.W.Frag} {mg:Str->Option Value} {base:Heap} {a:Ad}
structure Gd (ds:List Df) (f0 at0:Nat):Prop where
 px:PX ds
 st:∀ (f i:Nat) (d:Df) (r:Row),ds[f]? = some d->d.2.2[i]? = some r->zbF r.1 = true->f = f0∧i = at0
 w6:∀ d,ds[f0]? = some d->d.2.1 = 6
theorem Gd.ok {ds:List Df} {f0 at0:Nat} (G:Gd ds f0 at0) (hs:List Int) (ps:List Pr):StOk ds (some (f0,at0,hs,ps)):=fun f i d r h1 h2 h3=>by
 have e:=G.st f i d r h1 h2 h3
 show (if f = f0∧i = at0 then some (hs,ps) else none) = (if f = f0∧i = at0 then some (hs,ps) else some ([],[]))
 rw [if_pos e,if_pos e]
theorem zgw {ds:List Df}:StOk ds none:=fun _ _ _ _ _ _ _=>rfl
theorem Gd.tf {ds:List Df} {f0 at0:Nat} (G:Gd ds f0 at0) {hs:List Int} {ps:List Pr} (h1:∀ h ∈ hs,0 ≤ h∧h < 14) (h2:∀ p ∈ ps,0 ≤ p.1∧p.1 < 14∧0 ≤ p.2) (l:hs.length + ps.length ≤ 100):zdM ds (some (f0,at0,hs,ps)) :=
 ⟨fun d hd=>by rw [G.w6 d hd]; exact ⟨h1,h2⟩,l⟩
theorem nh_n:("n":Str) = ⟨#[110]⟩:=by decide
theorem nh_h:("h":Str) = ⟨#[104]⟩:=by decide
theorem sg2 {tk:Str} {g:Str} (t6:tk.cps.size ≤ 6) (tn:∀ c ∈ tk.cps.toList,NH c) (hg:g = "n" ∨ g = "h"):SgFit [(("":Str),("n":Str)),(tk,g)]:=by
 have e0:("":Str).cps.toList = []:=by decide
 refine ⟨fun x hx=>?_,fun x hx c hc=>?_,fun x hx=>?_,fun x hx=>?_⟩
 ·rcases List.mem_cons.mp hx with rfl | hx
  ·show ("":Str).cps.size ≤ 6; decide
  ·rw [List.mem_singleton.mp hx]; exact t6
 ·rcases List.mem_cons.mp hx with rfl | hx
  ·dsimp only at hc; rw [e0] at hc; cases hc
  ·rw [List.mem_singleton.mp hx] at hc; exact tn c hc
 ·rcases List.mem_cons.mp hx with rfl | hx
  ·exact .inl nh_n
  ·rw [List.mem_singleton.mp hx]
   exact hg.imp (fun e=>by show g = _; rw [e]; exact nh_n) (fun e=>by show g = _; rw [e]; exact nh_h)
 ·cases hx
  exact ⟨fun c hc=>(by dsimp only at hc; rw [e0] at hc; exact absurd hc List.not_mem_nil),nh_n⟩
theorem zeM {sg:List Sg} {s:Sg} {w:Int} {r:Row} {y:Int} (w0:0 ≤ w) (w1:w ≤ 16) (hr:zaH w 2 sg r) (y0:0 ≤ y) (y1:y < 8 + w) (pw:r.1 ∈ plW):DfFit sg (s,w,[r,zbL y])∧Ln [r,zbL y]:=by
 refine ⟨⟨w0,w1,by show 0 < 2; decide,by show 2 ≤ 40; decide,fun q hq=>?_,zdU (pre:=[r])⟩,Ln.of (pre:=[r]) (fun q hq=>by rw [List.mem_singleton.mp hq]; exact pw) (by show 1 < 20; decide)⟩
 show zaH w 2 sg q
 have hq':q ∈ [r,zbL y]:=hq
 rcases List.mem_cons.mp hq' with m | m
 ·rw [m]; exact hr
 ·rw [List.mem_singleton.mp m]; exact zd4 y0 y1
theorem Gd.one {rws:List Row} {at_:Nat} {l:List Int} {tk:Str} (B:Body rws at_ l) (t6:tk.cps.size ≤ 6) (tn:∀ c ∈ tk.cps.toList,NH c) (ll:l.length = tk.cps.size):Gd [((("":Str),("n":Str)),0,[putR 0 3,zbL 0]),((tk,("h":Str)),6,rws)] 1 at_:=by
 obtain ⟨d1,l1⟩:=B.df (sg:=[(("":Str),("n":Str)),(tk,("h":Str))]) rfl rfl ll (tk,("h":Str))
 obtain ⟨d0,l0⟩:=zeM (sg:=[(("":Str),("n":Str)),(tk,("h":Str))]) (s:=(("":Str),("n":Str))) (w:=0) (r:=putR 0 3) (y:=0) (by decide) (by decide) (zeP (by decide) (by decide) (by decide) (by decide)) (by decide) (by decide) (by show ("put":Str) ∈ plW; decide +kernel)
 refine ⟨⟨rfl,⟨sg2 t6 tn (.inr rfl),by show 0 < 2; decide,by show 2 ≤ 8; decide,fun d hd=>?_⟩,fun d hd=>?_⟩,fun f i d r h1 h2 h3=>?_,fun d hd=>by cases hd; rfl⟩
 ·rcases List.mem_cons.mp hd with m | m
  ·rw [m]; exact d0
  ·rw [List.mem_singleton.mp m]; exact d1
 ·rcases List.mem_cons.mp hd with m | m
  ·rw [m]; exact l0
  ·rw [List.mem_singleton.mp m]; exact l1
 ·match f,h1 with
  | 0,h1 =>
   cases h1
   match i,h2 with
   | 0,h2=>cases h2; exact absurd h3 (show ¬ zbF "put" = true by decide +kernel)
   | 1,h2=>cases h2; exact absurd h3 (show ¬ zbF "back" = true by decide +kernel)
   | i + 2,h2=>simp at h2
  | 1,h1=>cases h1; exact ⟨rfl,B.stop h2 h3⟩
  | f + 2,h1=>simp at h1
theorem Gd.zero {rws:List Row} {at_:Nat} {l:List Int} {tk:Str} {y:Int} (B:Body rws at_ l) (t6:tk.cps.size ≤ 6) (tn:∀ c ∈ tk.cps.toList,NH c) (ll:l.length = tk.cps.size) (y0:0 ≤ y) (y1:y < 9):Gd [((("":Str),("n":Str)),6,rws),((tk,("n":Str)),1,[nilR 8,zbL y])] 0 at_:=by
 obtain ⟨d1,l1⟩:=B.df (sg:=[(("":Str),("n":Str)),(tk,("n":Str))]) rfl rfl ll (("":Str),("n":Str))
 obtain ⟨d0,l0⟩:=zeM (sg:=[(("":Str),("n":Str)),(tk,("n":Str))]) (s:=(tk,("n":Str))) (w:=1) (r:=nilR 8) (y:=y) (by decide) (by decide) (zeV (by decide) (by decide)) y0 (by omega) (by show ("nil":Str) ∈ plW; decide +kernel)
 refine ⟨⟨rfl,⟨sg2 t6 tn (.inl rfl),by show 0 < 2; decide,by show 2 ≤ 8; decide,fun d hd=>?_⟩,fun d hd=>?_⟩,fun f i d r h1 h2 h3=>?_,fun d hd=>by cases hd; rfl⟩
 ·rcases List.mem_cons.mp hd with m | m
  ·rw [m]; exact d1
  ·rw [List.mem_singleton.mp m]; exact d0
 ·rcases List.mem_cons.mp hd with m | m
  ·rw [m]; exact l1
  ·rw [List.mem_singleton.mp m]; exact l0
 ·match f,h1 with
  | 0,h1=>cases h1; exact ⟨rfl,B.stop h2 h3⟩
  | 1,h1 =>
   cases h1
   match i,h2 with
   | 0,h2=>cases h2; exact absurd h3 (show ¬ zbF "nil" = true by decide +kernel)
   | 1,h2=>cases h2; exact absurd h3 (show ¬ zbF "back" = true by decide +kernel)
   | i + 2,h2=>simp at h2
  | f + 2,h1=>simp at h1
end
section
variable {P:Program} {w:World} {K:PySem.W.Frag} {mg:Str->Option Value} {base:Heap} {a:Ad}
theorem Kp.new {b p:Addr} {H H1:Hp} {u:HO} (x:Kp b H H1) (hp:H p = none):Kp b H (upd H1 p u):=fun q o h n=>by rw [zaj (zan h hp)]; exact x q o h n
theorem ziX {H:Hp} {l m:Addr} {us:List V} {ps:List Pr} (h1:H l = some (.lst us)) (h2:H m = some (.lst us)) (P:Prs H us ps) (ln:ps.length ≤ 1000):Al H 4 (.ref l) (.ref m):=by
 refine .inr ⟨l,m,_,_,rfl,rfl,.inl ⟨h1,h2⟩,rfl,by rw [P.len]; exact ln,fun i a b e1 e2=>?_⟩
 rw [e1] at e2
 cases e2
 obtain ⟨q,s,b,rfl,_,hq⟩:=P.get e1
 refine .inr ⟨q,q,_,_,rfl,rfl,.inr ⟨hq,hq⟩,rfl,(show (2:Nat) ≤ 1000 by decide),fun j a b e3 e4=>?_⟩
 rw [e3] at e4
 cases e4
 match j,e3 with
 | 0,e3=>cases e3; exact .inl ⟨rfl,rfl⟩
 | 1,e3=>cases e3; exact .inl ⟨rfl,rfl⟩
 | j + 2,e3=>simp at e3
theorem zhc (is:List Int) (n:Nat) (h:n < is.length):atI (is.map V.int) (n:Int) = some (.int is[n]):=zau (by rw [List.getElem?_map,List.getElem?_eq_getElem h]; rfl)
theorem pick7:∀ x ∈ ([10,11,12,13,1,2,8]:List Int),0 ≤ x∧x < 14:=by decide
theorem pick8:∀ x ∈ ([8,9,10,11,12,13,1,2]:List Int),0 ≤ x∧x < 14:=by decide
theorem pick4:∀ x ∈ ([0,1,8,9]:List Int),0 ≤ x∧x < 14:=by decide
theorem pick2:∀ x ∈ ([0,8]:List Int),0 ≤ x∧x < 9:=by decide
theorem ProgAt.two {H:Hp} {pl p q l m:Addr} {rs ss:List Addr} {d e:Df} (h:H pl = some (.lst [V.ref p,V.ref q])) (h1:H p = some (.tup [.str d.1.1,.str d.1.2,.int d.2.1,.ref l])) (r1:RowsOf H l rs d.2.2) (h2:H q = some (.tup [.str e.1.1,.str e.1.2,.int e.2.1,.ref m])) (r2:RowsOf H m ss e.2.2):ProgAt H pl [(p,l,rs),(q,m,ss)] [d,e]:=⟨h,rfl,fun i a x g1 g2=>by
 match i,g1,g2 with
 | 0,g1,g2=>cases g1; cases g2; exact ⟨h1,r1⟩
 | 1,g1,g2=>cases g1; cases g2; exact ⟨h2,r2⟩
 | i + 2,g1,g2=>simp at g1⟩
theorem hn_pick:∀ x:Nat,(x:Int) < 2->∃ c,atI (Str.ofString "hn").cps.toList (x:Int) = some c∧NH c:=fun x hx=>by
 rw [show Str.ofString "hn" = ⟨#[104,110]⟩ by decide]
 match x,hx with
 | 0,_=>exact ⟨104,zcZ,.inr rfl⟩
 | 1,_=>exact ⟨110,za8,.inl rfl⟩
 | n + 2,h=>omega
set_option maxHeartbeats 4000000 in
theorem zii (T:Txt K mg a):FnOk P w K mg base CX0 10 a.f_law a.d_law ["script"] (spLaw K):=by
 refine T.F_law.okC sc_law (fun vs H Q E h=>?_) (fun cdv A outer s H vs Q E hr h=>?_)
 ·obtain ⟨r,ns,rfl,_⟩:=h
  rfl
 ·obtain ⟨r,ns,rfl,hS,_,fin⟩:=h
  have hu:=zaT hr
  refine ⟨_,(@zad _ _ _ _ _ (zaw (i:=1) sc_law.nd (by rfl) (Or.inr rfl) (zal (zfo T) (hr.mono (by decide)) (by rfl) T.m_law_bag T.F_law_bag.kp T.b_law_bag .nil zaC (@zac _ _ _ _ _ _ (pv 0) pa_nil)))
   (@zad _ _ _ _ _ (zaw (i:=2) sc_law.nd (by rfl) (Or.inl rfl) (zal (zaE T) (hr.mono (by decide)) (by rfl) T.m_law_draw T.F_law_draw.kp T.b_law_draw .nil zaC (@zac _ _ _ _ _ _ (pv 1) (@zai _ _ _ _ _ _ pa_nil))))
   (@zad _ _ _ _ _ (zaw (i:=3) sc_law.nd (by rfl) (Or.inl rfl) (zal (zaE T) (hr.mono (by decide)) (by rfl) T.m_law_draw T.F_law_draw.kp T.b_law_draw .nil zaC (@zac _ _ _ _ _ _ (pv 1) (@zai _ _ _ _ _ _ pa_nil))))
   (@zad _ _ _ _ _ (zaw (i:=4) sc_law.nd (by rfl) (Or.inl rfl) (zct PySem.F.plainAttrs_str PySem.F.slot_str_join PySem.F.type_str_join mt_join zaB (@zae _ _ _ _ _ (zaW (N':=["k","bag"]) (cap:=[none,some 1]) ⟨rfl,(by decide +kernel),(by decide +kernel),(by rfl),rfl,(by rfl)⟩ (by rfl) (za3 (by rfl) T.z_range (@zac _ _ _ _ _ _ (pv 3) pa_nil)) (fun C_ ex_ s_ H_=>(zaq (i:=0) (show (["k","bag"]:List Str).Nodup by decide +kernel) (by rfl) (Or.inl rfl))) zaS (fun C_ ex_ s_ H_=>zaJ) (fun C_ ex_ s_ H_=>(@zah _ _ _ _ _ _ _ ix_str zaB (zal (zaE T) (by exact hr.mono (by decide)) (by rfl) T.m_law_draw T.F_law_draw.kp T.b_law_draw .nil zaC (@zac _ _ _ _ _ _ (pv 1) (@zai _ _ _ _ _ _ pa_nil))) (fun _ _=>rfl)))) pa_nil (by rfl))))
   (@zad _ _ _ _ _ (zaw (i:=5) sc_law.nd (by rfl) (Or.inl rfl) (@zaK _ _ _ _ _ _ _ _ op_cat (@zav _ _ _ _ (@zai _ _ _ _ _ _ pa_nil)) (zaW (N':=["p","bag"]) (cap:=[none,some 1]) ⟨rfl,(by decide +kernel),(by decide +kernel),(by rfl),rfl,(by rfl)⟩ (by rfl) (zdP (by rfl) T.z_range (@zai _ _ _ _ _ _ (@zai _ _ _ _ _ _ pa_nil))) (fun C_ ex_ s_ H_=>(zaq (i:=0) (show (["p","bag"]:List Str).Nodup by decide +kernel) (by rfl) (Or.inl rfl))) zaS (fun C_ ex_ s_ H_=>(zcw (@zak _ _ _ _ _ _ _ _ op_eq (zal (zaE T) (by exact hr.mono (by decide)) (by rfl) T.m_law_draw T.F_law_draw.kp T.b_law_draw .nil zaC (@zac _ _ _ _ _ _ (pv 1) (@zai _ _ _ _ _ _ pa_nil))) zag (zat _)))) (fun C_ ex_ s_ H_=>(pv 0)))))
   (@zad _ _ _ _ _ (zaw (i:=6) sc_law.nd (by rfl) (Or.inl rfl) (zal (zb4 T) (hr.mono (by decide)) (by rfl) T.m_law_some_halves T.F_law_some_halves.kp T.b_law_some_halves .nil zaC (@zac _ _ _ _ _ _ (pv 1) (@zac _ _ _ _ _ _ (pv 5) pa_nil))))
   (@zad _ _ _ _ _ (@zbm _ 7 _ _ _ _ _ _ sc_law.nd (by rfl) (Or.inl rfl) (@zae _ _ _ _ _ (@zas _ _ _ _ _ (@zam _ _ _ _ _ _ (@zai _ _ _ _ _ _ (@zai _ _ _ _ _ _ pa_nil)))) (@zae _ _ _ _ _ (@zas _ _ _ _ _ (@zam _ _ _ _ _ _ (@zai _ _ _ _ _ _ pa_nil))) pa_nil (by rfl)) (by rfl)) (by first | exact .inl (by rfl) | exact .inr (by rfl) | assumption))
   (@zad _ _ _ _ _ (za0 PassesOwn.never (by rfl) (za3 (by rfl) T.z_range (@zae _ _ _ _ _ (zal (zaE T) (hr.mono (by decide)) (by rfl) T.m_law_draw T.F_law_draw.kp T.b_law_draw .nil zaC (@zac _ _ _ _ _ _ (pv 1) (@zai _ _ _ _ _ _ pa_nil))) pa_nil (by rfl))) (zaq (i:=8) sc_law.nd (by rfl) (Or.inl rfl))
   (@zaf _ _ _ (zaw (i:=7) sc_law.nd (by rfl) (Or.inl rfl) (@zaK _ _ _ _ _ _ _ _ op_cat (pv 7) (zal (zfa T) (hr.mono (by decide)) (by rfl) T.m_law_put T.F_law_put.kp T.b_law_put .nil zaC (@zac _ _ _ _ _ _ (pv 1) (@zae _ _ _ _ _ (@zah _ _ _ _ _ _ _ ix_F (@zav _ _ _ _ (@zai _ _ _ _ _ _ (@zai _ _ _ _ _ _ (@zai _ _ _ _ _ _ (@zai _ _ _ _ _ _ (@zai _ _ _ _ _ _ (@zai _ _ _ _ _ _ (@zai _ _ _ _ _ _ pa_nil)))))))) (zal (zaE T) (hr.mono (by decide)) (by rfl) T.m_law_draw T.F_law_draw.kp T.b_law_draw .nil zaC (@zac _ _ _ _ _ _ (pv 1) (@zai _ _ _ _ _ _ pa_nil))) (fun _ _=>rfl)) pa_nil (by rfl))))))))
   (@zad _ _ _ _ _ (zaw (i:=9) sc_law.nd (by rfl) (Or.inl rfl) (zaN call_tuple_of (by rfl) T.z_tuple (by decide +kernel) (@zae _ _ _ _ _ (zaW (N':=["letter","bag"]) (cap:=[none,some 1]) ⟨rfl,(by decide +kernel),(by decide +kernel),(by rfl),rfl,(by rfl)⟩ (by rfl) (zih (pv 4)) (fun C_ ex_ s_ H_=>(zaq (i:=0) (show (["letter","bag"]:List Str).Nodup by decide +kernel) (by rfl) (Or.inl rfl))) zaS (fun C_ ex_ s_ H_=>zaJ) (fun C_ ex_ s_ H_=>(@zah _ _ _ _ _ _ _ ix_F (@zav _ _ _ _ (@zai _ _ _ _ _ _ (@zai _ _ _ _ _ _ (@zai _ _ _ _ _ _ (@zai _ _ _ _ _ _ (@zai _ _ _ _ _ _ (@zai _ _ _ _ _ _ (@zai _ _ _ _ _ _ (@zai _ _ _ _ _ _ pa_nil))))))))) (zal (zaE T) (by exact hr.mono (by decide)) (by rfl) T.m_law_draw T.F_law_draw.kp T.b_law_draw .nil zaC (@zac _ _ _ _ _ _ (pv 1) (@zai _ _ _ _ _ _ pa_nil))) (fun _ _=>rfl)))) pa_nil (by rfl))))
   (@zad _ _ _ _ _ (zaw (i:=10) sc_law.nd (by rfl) (Or.inl rfl) (zax call_lenF (by rfl) T.z_len (by decide +kernel) (@zac _ _ _ _ _ _ (pv 7) pa_nil)))
   (@zad _ _ _ _ _ (zaw (i:=7) sc_law.nd (by rfl) (Or.inl rfl) (@zaK _ _ _ _ _ _ _ _ op_cat (pv 7) (@zav _ _ _ _ (@zae _ _ _ _ _ (@zas _ _ _ _ _ (@zam _ _ _ _ _ _ (@zai _ _ _ _ _ _ (@zai _ _ _ _ _ _ (@zac _ _ _ _ _ _ (pv 9) pa_nil))))) (@zae _ _ _ _ _ (@zas _ _ _ _ _ (@zam _ _ _ _ _ _ (@zai _ _ _ _ _ _ (@zae _ _ _ _ _ (@zaK _ _ _ _ _ _ _ _ op_add zag (zal (zaE T) (hr.mono (by decide)) (by rfl) T.m_law_draw T.F_law_draw.kp T.b_law_draw .nil zaC (@zac _ _ _ _ _ _ (pv 1) (@zai _ _ _ _ _ _ pa_nil)))) (@zai _ _ _ _ _ _ pa_nil) (by rfl))))) pa_nil (by rfl)) (by rfl)))))
   (@zad _ _ _ _ _ (za6 (zct PySem.F.plainAttrs_list PySem.F.slot_list_append PySem.F.type_list_append mt_append (pv 7) (@zae _ _ _ _ _ (@zas _ _ _ _ _ (@zam _ _ _ _ _ _ (@zae _ _ _ _ _ (@zah _ _ _ _ _ _ _ ix_F (@zav _ _ _ _ (@zai _ _ _ _ _ _ (@zai _ _ _ _ _ _ (@zai _ _ _ _ _ _ (@zai _ _ _ _ _ _ pa_nil))))) (zal (zaE T) (hr.mono (by decide)) (by rfl) T.m_law_draw T.F_law_draw.kp T.b_law_draw .nil zaC (@zac _ _ _ _ _ _ (pv 1) (@zai _ _ _ _ _ _ pa_nil))) (fun _ _=>rfl)) pa_nil (by rfl)))) pa_nil (by rfl))))
   (@zad _ _ _ _ _ (@zbm _ 11 _ _ _ _ _ _ sc_law.nd (by rfl) (Or.inl rfl) (@zae _ _ _ _ _ (@zas _ _ _ _ _ (@zam _ _ _ _ _ _ (@zai _ _ _ _ _ _ (@zai _ _ _ _ _ _ pa_nil)))) (@zae _ _ _ _ _ (@zas _ _ _ _ _ (@zam _ _ _ _ _ _ (@zai _ _ _ _ _ _ pa_nil))) pa_nil (by rfl)) (by rfl)) (by first | exact .inl (by rfl) | exact .inr (by rfl) | assumption))
   (@zad _ _ _ _ _ (@zaD _ _ _ _ _ _ _ _ (@zak _ _ _ _ _ _ _ _ op_eq (pv 2) zag (zat _)) (@zaf _ _ _ (@zbm _ 12 _ _ _ _ _ _ sc_law.nd (by rfl) (Or.inl rfl) (@zae _ _ _ _ _ (@zas _ _ _ _ _ (@zam _ _ _ _ _ _ (@zam _ _ _ _ _ _ (@zai _ _ _ _ _ _ (@zac _ _ _ _ _ _ (pv 11) pa_nil))))) (@zae _ _ _ _ _ (@zas _ _ _ _ _ (@zac _ _ _ _ _ _ (pv 4) (@zam _ _ _ _ _ _ (@zai _ _ _ _ _ _ (@zac _ _ _ _ _ _ (pv 7) pa_nil))))) pa_nil (by rfl)) (by rfl)) (by first | exact .inl (by rfl) | exact .inr (by rfl) | assumption))) (@zaf _ _ _ (@zbm _ 12 _ _ _ _ _ _ sc_law.nd (by rfl) (Or.inl rfl) (@zae _ _ _ _ _ (@zas _ _ _ _ _ (@zam _ _ _ _ _ _ (@zam _ _ _ _ _ _ (@zai _ _ _ _ _ _ (@zac _ _ _ _ _ _ (pv 7) pa_nil))))) (@zae _ _ _ _ _ (@zas _ _ _ _ _ (@zac _ _ _ _ _ _ (pv 4) (@zam _ _ _ _ _ _ (@zai _ _ _ _ _ _ (@zae _ _ _ _ _ (@zav _ _ _ _ (@zae _ _ _ _ _ (@zas _ _ _ _ _ (@zam _ _ _ _ _ _ (@zai _ _ _ _ _ _ pa_nil))) (@zae _ _ _ _ _ (@zas _ _ _ _ _ (@zam _ _ _ _ _ _ (@zae _ _ _ _ _ (@zah _ _ _ _ _ _ _ ix_F (@zav _ _ _ _ (@zai _ _ _ _ _ _ (@zai _ _ _ _ _ _ pa_nil))) (zal (zaE T) (hr.mono (by decide)) (by rfl) T.m_law_draw T.F_law_draw.kp T.b_law_draw .nil zaC (@zac _ _ _ _ _ _ (pv 1) (@zai _ _ _ _ _ _ pa_nil))) (fun _ _=>rfl)) pa_nil (by rfl)))) pa_nil (by rfl)) (by rfl))) pa_nil (by rfl)))))) pa_nil (by rfl)) (by rfl)) (by first | exact .inl (by rfl) | exact .inr (by rfl) | assumption))))
   (@zad _ _ _ _ _ (@zbm _ 13 _ _ _ _ _ _ sc_law.nd (by rfl) (Or.inl rfl) (@zae _ _ _ _ _ (@zas _ _ _ _ _ (@zac _ _ _ _ _ _ (pv 2) (@zac _ _ _ _ _ _ (pv 10) (@zac _ _ _ _ _ _ (pv 5) (@zac _ _ _ _ _ _ (pv 6) pa_nil))))) pa_nil (by rfl)) (by first | exact .inl (by rfl) | exact .inr (by rfl) | assumption))
   (@zad _ _ _ _ _ (zaw (i:=14) sc_law.nd (by rfl) (Or.inl rfl) (@zas _ _ _ _ _ (@zae _ _ _ _ _ (zaW (N':=["one"]) (cap:=[none]) ⟨rfl,(by decide +kernel),(by decide +kernel),(by rfl),rfl,(by rfl)⟩ (by rfl) (zaI (pv 12)) (fun C_ ex_ s_ H_=>(zaq (i:=0) (show (["one"]:List Str).Nodup by decide +kernel) (by rfl) (Or.inl rfl))) zaS (fun C_ ex_ s_ H_=>zaJ) (fun C_ ex_ s_ H_=>(@zas _ _ _ _ _ (@zae _ _ _ _ _ (@zah _ _ _ _ _ _ _ ix_F (pv 0) zag (fun _ _=>rfl)) (@zae _ _ _ _ _ (@zah _ _ _ _ _ _ _ ix_F (pv 0) zag (fun _ _=>rfl)) (@zae _ _ _ _ _ (@zah _ _ _ _ _ _ _ ix_F (pv 0) zag (fun _ _=>rfl)) (@zae _ _ _ _ _ (zaN (zdh (K:=K) (by rfl)) (by rfl) T.z_list (by decide +kernel) (@zae _ _ _ _ _ (@zah _ _ _ _ _ _ _ ix_F (pv 0) zag (fun _ _=>rfl)) pa_nil (by rfl))) pa_nil (by rfl)) (by rfl)) (by rfl)) (by rfl))))) (@zae _ _ _ _ _ (@zav _ _ _ _ (@zae _ _ _ _ _ (@zas _ _ _ _ _ (@zac _ _ _ _ _ _ (pv 2) (@zac _ _ _ _ _ _ (pv 10) (@zae _ _ _ _ _ (zaN call_list_of (by rfl) T.z_list (by decide +kernel) (@zac _ _ _ _ _ _ (pv 5) pa_nil)) (@zae _ _ _ _ _ (zaN call_list_of (by rfl) T.z_list (by decide +kernel) (@zac _ _ _ _ _ _ (pv 6) pa_nil)) pa_nil (by rfl)) (by rfl))))) pa_nil (by rfl))) pa_nil (by rfl)) (by rfl))))
   (@zad _ _ _ _ _ (@zaD _ _ _ _ _ _ _ _ (PW.pt (zdu (zcK (zbh (zal (zbl T) (hr.mono (by decide)) (by rfl) T.m_law_judged T.F_law_judged.kp T.b_law_judged .nil zaC (@zac _ _ _ _ _ _ (pv 12) (@zac _ _ _ _ _ _ (pv 13) pa_nil))))) (zcd (zcK (zbh (zal (zbl T) (hr.mono (by decide)) (by rfl) T.m_law_judged T.F_law_judged.kp T.b_law_judged .nil zaC (@zac _ _ _ _ _ _ (pv 12) (@zae _ _ _ _ _ zaR pa_nil (by rfl))))))))) (@zaf _ _ _ (@zao _ _ _ _ zcU)) pss_nil)
   (@zad _ _ _ _ _ (@zaD _ _ _ _ _ _ _ _ (zcK (zbh (zal (zbc T 7) (hr.mono (by decide)) (by rfl) T.m_law_alike T.F_law_alike.kp T.b_law_alike .nil zaC (@zae _ _ _ _ _ (@zas _ _ _ _ _ (@zac _ _ _ _ _ _ (pv 12) (@zac _ _ _ _ _ _ (pv 13) pa_nil))) (@zac _ _ _ _ _ _ (pv 14) pa_nil) (by rfl))))) (@zaf _ _ _ (@zao _ _ _ _ zcU)) pss_nil)
   (@zaf _ _ _ (@zao _ _ _ _ (zal (zbl T) (hr.mono (by decide)) (by rfl) T.m_law_judged T.F_law_judged.kp T.b_law_judged .nil zaC (@zac _ _ _ _ _ _ (pv 12) (@zae _ _ _ _ _ (@zav _ _ _ _ (@zae _ _ _ _ _ (@zas _ _ _ _ _ (@zac _ _ _ _ _ _ (pv 2) (@zac _ _ _ _ _ _ (pv 10) (@zae _ _ _ _ _ (@zav _ _ _ _ pa_nil) (@zae _ _ _ _ _ (@zav _ _ _ _ pa_nil) pa_nil (by rfl)) (by rfl))))) pa_nil (by rfl))) pa_nil (by rfl)))))))))))))))))))))))),?_⟩
  generalize hE:tSeq (tAsg (tLst (zcp (tTup (zcp (tVar 2) _)) _)) _) _ = tailE
  generalize hI:tSeq (tIfS (zgK (tOp rEq (tVar 2) _)) _ _) _ = tailI
  have endk:∀ (H5:Hp) (pl hl ml:Addr) (das:List (Addr × Addr × List Addr)) (ds:List Df) (se at0:Nat) (hs:List Int) (us:List V) (ps:List Pr) (v0 v1 v3 v4 v7 v8 v9 v11 v13 v14:Option V),ProgAt H5 pl das ds->Gd ds se at0->TabAt H5 hl ml us hs ps->(∀ h ∈ hs,0 ≤ h∧h < 14)->(∀ p ∈ ps,0 ≤ p.1∧p.1 < 14∧0 ≤ p.2)->hs.length + ps.length ≤ 100->tailE { nx:=fun x H'=>Q V.non H',rt:=Q } [v0,v1,some (.int se),v3,v4,some (.ref hl),some (.ref ml),v7,v8,v9,some (.int at0),v11,some (.ref pl),v13,v14] H5:=by
   intro H5 pl hl ml das ds se at0 hs us ps v0 v1 v3 v4 v7 v8 v9 v11 v13 v14 PR G TA hb1 hb2 hb3
   subst hE
   generalize hJ:tSeq (tIfS (tOr _ _) _ _) _ = tailJ
   simp! []
   intro t nt tl ntl
   have S1:Same H5 (upd (upd H5 t (.tup [V.int se,V.int at0,V.ref hl,V.ref ml])) tl (.lst [V.ref t])):=(Same.laid nt).step ntl
   have a1:upd (upd H5 t (.tup [V.int se,V.int at0,V.ref hl,V.ref ml])) tl (.lst [V.ref t]) tl = some (.lst [V.ref t]):=zaa
   have a2:upd (upd H5 t (.tup [V.int se,V.int at0,V.ref hl,V.ref ml])) tl (.lst [V.ref t]) t = some (.tup [V.int se,V.int at0,V.ref hl,V.ref ml]):=zab zaa ntl
   revert S1 a1 a2
   generalize upd (upd H5 t (.tup [V.int se,V.int at0,V.ref hl,V.ref ml])) tl (.lst [V.ref t]) = H6
   intro S1 a1 a2
   have PR6:=PR.same S1
   have TA6:=TA.same S1
   have X:=G.px
   have l2:=X.l2
   have dl:=PR.len
   refine zeo (H1:=H6) pl (das.map fun a=>V.ref a.1) (fun Q2 h2=>by simp! []; exact h2) (.of PR6.top) (fun D j ys H7=>∃ bs:List (Addr × Addr × List Addr),ys = bs.map (fun a=>V.ref a.1)∧bs.length = j∧Same H6 H7∧H7 D = some (.lst ys)∧∀ (k:Nat) (x:Addr × Addr × List Addr) (d:Df),bs[k]? = some x->ds[k]? = some d->x.2.1 ≠ D∧H7 x.1 = some (.tup [.str d.1.1,.str d.1.2,.int d.2.1,.ref x.2.1])∧RowsOf H7 x.2.1 x.2.2 d.2.2) (fun D nD=>⟨[],rfl,rfl,.laid nD,zaa,fun k x d h=>by simp at h⟩) ?_ (by rw [sizeLine_eq,List.length_map]; omega) ?_ ?_
   ·rintro D nD j ys H7 hj ⟨bs,rfl,lb,S7,e7,_⟩
    exact ⟨.of (S7 _ _ PR6.top),e7,by rw [List.length_map]; omega⟩
   ·rintro D nD j x ys H7 hx ⟨bs,rfl,lb,S7,e7,ba⟩
    obtain ⟨z,hz,rfl⟩:=zay hx
    have jl:j < ds.length:=by rw [← dl]; exact (List.getElem?_eq_some_iff.mp hz).1
    have hd:=List.getElem?_eq_getElem (l:=ds) (i:=j) jl
    generalize hd0:ds[j] = d at hd
    obtain ⟨g1,g2⟩:=(PR6.same S7).def_ j _ _ hz hd
    have topr:=g2.top
    simp! [zaG,tTrue,g1]
    refine ⟨_,.inl (.of topr),fun l nl p np=>?_⟩
    have DF:=X.pf.defs d (List.mem_of_getElem? hd)
    have lD:l ≠ D:=fun e=>by rw [e,e7] at nl; cases nl
    have pD:p ≠ D:=fun e=>by rw [e] at np; rw [zab e7 nl] at np; cases np
    have R7:RowsOf (upd (upd H7 l (.lst (z.2.2.map V.ref))) p (.tup [V.str d.1.1,V.str d.1.2,V.int d.2.1,V.ref l])) l z.2.2 d.2.2:=⟨zab zaa np,g2.len,fun i q r h1 h2=>((g2.row i q r h1 h2).same (Same.laid nl)).same (Same.laid np)⟩
    have S78:Same H7 (upd (upd H7 l (.lst (z.2.2.map V.ref))) p (.tup [V.str d.1.1,V.str d.1.2,V.int d.2.1,V.ref l])):=(Same.laid nl).step np
    have h8:upd (upd H7 l (.lst (z.2.2.map V.ref))) p (.tup [V.str d.1.1,V.str d.1.2,V.int d.2.1,V.ref l]) p = some (.tup [V.str d.1.1,V.str d.1.2,V.int d.2.1,V.ref l]):=zaa
    revert R7 S78 h8
    generalize upd (upd H7 l (.lst (z.2.2.map V.ref))) p (.tup [V.str d.1.1,V.str d.1.2,V.int d.2.1,V.ref l]) = H8
    intro R7 S78 h8
    have e8:=S78 _ _ e7
    have F8:Fr (· = D) H8 (upd H8 D (.lst (bs.map (fun a=>V.ref a.1) ++ [.ref p]))):=⟨fun q o e n=>by rw [zaj n]; exact e,fun q xs e=>by rw [zaj (fun z=>by rw [z,e8] at e; cases e)]; exact e⟩
    refine ⟨e8,bs ++ [(p,l,z.2.2)],by rw [List.map_append]; rfl,by rw [List.length_append,lb]; rfl,Same.new (S7.trans S78) nD,fun k x d' h1 h2=>?_⟩
    by_cases ck:k < bs.length
    ·rw [List.getElem?_append_left ck] at h1
     obtain ⟨q1,q2,q3⟩:=ba k x d' h1 h2
     exact ⟨q1,F8.tups _ _ (S78 _ _ q2),(q3.same S78).fr F8 q1⟩
    ·have kl:=(List.getElem?_eq_some_iff.mp h1).1
     rw [List.length_append,List.length_singleton] at kl
     have ke:k = j:=by omega
     subst ke
     rw [List.getElem?_append_right (by omega),lb,Nat.sub_self] at h1
     cases h1
     rw [hd] at h2
     cases h2
     exact ⟨lD,F8.tups _ _ h8,R7.fr F8 lD⟩
   ·rintro D nD ys H7 ⟨bs,rfl,lb,S7,e7,ba⟩
    rw [List.length_map] at lb
    refine ⟨_,.inl (.of (S7 _ _ TA6.hl)),fun l nl=>⟨_,.inl (.of (zab (S7 _ _ TA6.hm) nl)),fun m nm p np p1 np1 p2 np2=>?_⟩⟩
    have S78:=((((Same.laid nl (u:=.lst (hs.map V.int))).step nm (u:=.lst us)).step np (u:=.tup [V.int se,V.int at0,V.ref l,V.ref m])).step np1 (u:=.lst [V.ref p])).step np2 (u:=.tup [V.ref D,V.ref p1])
    have q1:=zab (u:=.tup [V.ref D,V.ref p1]) (zab (u:=.lst [V.ref p]) (zab (u:=.tup [V.int se,V.int at0,V.ref l,V.ref m]) (zab (u:=.lst us) (zaa (H:=H7) (a:=l) (o:=.lst (hs.map V.int))) nm) np) np1) np2
    have q2:=zab (u:=.tup [V.ref D,V.ref p1]) (zab (u:=.lst [V.ref p]) (zab (u:=.tup [V.int se,V.int at0,V.ref l,V.ref m]) (zaa (H:=upd H7 l (.lst (hs.map V.int))) (a:=m) (o:=.lst us)) np) np1) np2
    have q3:=zab (u:=.tup [V.ref D,V.ref p1]) (zab (u:=.lst [V.ref p]) (zaa (H:=upd (upd H7 l (.lst (hs.map V.int))) m (.lst us)) (a:=p) (o:=.tup [V.int se,V.int at0,V.ref l,V.ref m])) np1) np2
    have q4:=zab (u:=.tup [V.ref D,V.ref p1]) (zaa (H:=upd (upd (upd H7 l (.lst (hs.map V.int))) m (.lst us)) p (.tup [V.int se,V.int at0,V.ref l,V.ref m])) (a:=p1) (o:=.lst [V.ref p])) np2
    have q5:=zaa (H:=upd (upd (upd (upd H7 l (.lst (hs.map V.int))) m (.lst us)) p (.tup [V.int se,V.int at0,V.ref l,V.ref m])) p1 (.lst [V.ref p])) (a:=p2) (o:=.tup [V.ref D,V.ref p1])
    revert S78 q1 q2 q3 q4 q5
    generalize upd (upd (upd (upd (upd H7 l (.lst (hs.map V.int))) m (.lst us)) p (.tup [V.int se,V.int at0,V.ref l,V.ref m])) p1 (.lst [V.ref p])) p2 (.tup [V.ref D,V.ref p1]) = H8
    intro S78 q1 q2 q3 q4 q5
    have S68:=S7.trans S78
    have PR8:=PR6.same S68
    have TA8:=TA6.same S68
    have PK:ProgAt H8 D bs ds:=⟨S78 _ _ e7,by rw [lb,dl],fun i a d h1 h2=>⟨S78 _ _ (ba i a d h1 h2).2.1,(ba i a d h1 h2).2.2.same S78⟩⟩
    have TB8:TbsV H8 (.ref tl) (some (se,at0,hs,ps)):=⟨tl,t,hl,ml,us,rfl,S68 _ _ a1,S68 _ _ a2,TA8⟩
    have TF:zdM ds (some (se,at0,hs,ps)):=G.tf hb1 hb2 hb3
    have sm:∀ d ∈ ds,d.2.2.length ≤ 1000∧∀ r ∈ d.2.2,zfD r:=fun d hd=>⟨by have:=(X.pf.defs d hd).n1; omega,fun r hr=>ziz ((X.pf.defs d hd).rows r hr) X.pf.sg.sz⟩
    subst hJ
    simp! []
    refine ⟨pl,.ref tl,_,das,ds,rfl,PR8,X,TB8,TF,G.ok hs ps,fun H9 S9=>⟨true,rfl,?_⟩⟩
    rw [if_neg (by simp)]
    refine ⟨pl,.non,none,das,ds,rfl,PR8.same S9,X,rfl,True.intro,zgw,fun Ha Sa=>⟨true,rfl,?_⟩⟩
    rw [if_neg (by simp)]
    have S8a:=S9.trans Sa
    intro pt npt
    have Sb:Same H8 (upd Ha pt (.tup [V.ref pl,V.ref tl])):=S8a.step npt
    have b0:upd Ha pt (.tup [V.ref pl,V.ref tl]) pt = some (.tup [V.ref pl,V.ref tl]):=zaa
    revert Sb b0
    generalize upd Ha pt (.tup [V.ref pl,V.ref tl]) = Hb
    intro Sb b0
    refine ⟨_,_,rfl,.inr ⟨pt,p2,_,_,rfl,rfl,.inr ⟨b0,Sb _ _ q5⟩,rfl,(show (2:Nat) ≤ 1000 by decide),fun i x y h1 h2=>?_⟩,fun Hc Sc=>⟨true,rfl,?_⟩⟩
    ·match i,h1,h2 with
     | 0,h1,h2=>cases h1; cases h2; exact Al.prog (PR8.same Sb) (PK.same Sb) sm (by omega)
     | 1,h1,h2 =>
      cases h1
      cases h2
      refine .inr ⟨tl,p1,_,_,rfl,rfl,.inl ⟨Sb _ _ (S68 _ _ a1),Sb _ _ q4⟩,rfl,(show (1:Nat) ≤ 1000 by decide),fun i x y h1 h2=>?_⟩
      match i,h1,h2 with
      | 0,h1,h2 =>
       cases h1
       cases h2
       refine .inr ⟨t,p,_,_,rfl,rfl,.inr ⟨Sb _ _ (S68 _ _ a2),Sb _ _ q3⟩,rfl,(show (4:Nat) ≤ 1000 by decide),fun i x y h1 h2=>?_⟩
       match i,h1,h2 with
       | 0,h1,h2=>cases h1; cases h2; exact .inl ⟨rfl,rfl⟩
       | 1,h1,h2=>cases h1; cases h2; exact .inl ⟨rfl,rfl⟩
       | 2,h1,h2=>cases h1; cases h2; exact (Al.ints (Sb _ _ TA8.hl) (Sb _ _ q1) (by omega)).up.up
       | 3,h1,h2=>cases h1; cases h2; exact ziX (Sb _ _ TA8.hm) (Sb _ _ q2) (TA8.pr.same Sb) (by omega)
       | i + 4,h1,h2=>simp at h1
      | i + 1,h1,h2=>simp at h1
     | i + 2,h1,h2=>simp at h1
    rw [if_neg (by simp)]
    have S8c:=Sb.trans Sc
    intro e1 ne1 e2 ne2 e3 ne3 e4 ne4
    have Sd:=(((Same.laid ne1 (u:=.lst [])).step ne2 (u:=.lst [])).step ne3 (u:=.tup [V.int se,V.int at0,V.ref e1,V.ref e2])).step ne4 (u:=.lst [V.ref e3])
    refine ⟨pl,.ref e4,some (se,at0,[],[]),das,ds,rfl,(PR8.same S8c).same Sd,X,⟨e4,e3,e1,e2,[],rfl,zaa,zab zaa ne4,zab (zab (zab zaa ne2) ne3) ne4,zab (zab zaa ne3) ne4,.nil⟩,G.tf (fun h z=>by cases z) (fun h z=>by cases z) (by decide),G.ok [] [],fun He _=>fin He⟩
  generalize hF:tSeq (tFor _ _ _) _ = tailF
  simp! []
  refine ⟨r,ns,rfl,hS,fun b c cs H0 nb nc hb S0=>?_⟩
  refine ⟨b,c,cs,2,rfl,hb,by decide,by decide,fun se H1 se0 se1 hb1 k1=>?_⟩
  refine ⟨b,c,cs,7,rfl,hb1,by decide,by decide,fun m H2 m0 m7 hb2 k2=>?_⟩
  simp! [tBM]
  refine ⟨rfl,?_⟩
  refine zhJ (H1:=H2) m (fun Q2 h2=>by simp! []; exact h2) (by omega) (by omega) (fun D i ys H8=>∃ l:List Nat,l.length = i∧ys = (l.map fun c=>(⟨#[c]⟩:Str)).map V.str∧(∀ x ∈ l,NH x)∧H8 D = some (.lst ys)∧BagAt H8 b c cs∧Kp b H2 H8)
   (fun D hD=>⟨[],rfl,rfl,by simp,zaa,hb2.laid hD,Kp.refl.laid hD⟩) ?_ (by rw [sizeLine_eq]; omega) ?_ ?_
  ·rintro D hD i ys H8 hi ⟨l,l1,rfl,l2,hd,hb8,k8⟩
   exact ⟨hd,by rw [List.length_map,List.length_map]; omega⟩
  ·rintro D hD i ys H8 hi ⟨l,l1,rfl,l2,hd,hb8,k8⟩
   simp! [zaG,tTrue]
   refine ⟨b,c,cs,_,rfl,hb8,by omega,by omega,fun x H9 x0 x1 hb9 k9=>?_⟩
   obtain ⟨nD,nDc⟩:=hb2.apart hD
   have hd9:=k9 _ _ hd nD
   obtain ⟨xN,rfl⟩:=Int.eq_ofNat_of_zero_le x0
   obtain ⟨ch,hc1,hc2⟩:=hn_pick xN x1
   refine ⟨_,_,ch,rfl,rfl,by decide,hc1,hd9,l ++ [ch],by rw [List.length_append,l1]; rfl,by simp,fun y hy=>?_,hb9.other nD nDc,(k8.trans k9).new hD⟩
   rcases List.mem_append.mp hy with h | h
   ·exact l2 y h
   ·rw [List.mem_singleton.mp h]; exact hc2
  rintro D0 hD0 ys H3 ⟨lt,l1,rfl,l2,hd3,hb3,k3⟩
  refine ⟨_,D0,_,rfl,rfl,hd3,?_,?_⟩
  ·rw [show (Str.ofString "").length = 0 by decide,Nat.mul_zero,List.map_map]
   have e1:(lt.map ((fun x:Str=>x.length) ∘ fun c=>(⟨#[c]⟩:Str))) = lt.map fun _=>1:=rfl
   have e2:(lt.map fun _=>1).sum = lt.length:=by
    clear l1 l2 hd3 e1
    induction lt with
    | nil=>rfl
    | cons x r ih=>rw [List.map_cons,List.sum_cons,ih,List.length_cons]; omega
   rw [e1,e2]
   omega
  rw [zgn]
  have t6:(⟨lt.toArray⟩:Str).cps.size ≤ 6:=by show lt.toArray.size ≤ 6; rw [List.size_toArray]; omega
  have tn:∀ c ∈ (⟨lt.toArray⟩:Str).cps.toList,NH c:=l2
  have tsz:(⟨lt.toArray⟩:Str).cps.size ≤ 6:=t6
  generalize (⟨lt.toArray⟩:Str) = tk at t6 tn tsz ⊢
  intro p9 np9
  have hb4:=hb3.laid np9 (u:=.lst [V.int 9])
  have a9:upd H3 p9 (.lst [V.int 9]) p9 = some (.lst [V.int 9]):=zaa
  revert hb4 a9
  generalize upd H3 p9 (.lst [V.int 9]) = H4
  intro hb4 a9
  have p9b:p9 ≠ b:=hb4.nInts (ns:=[9]) a9
  refine comp2 (H1:=H4) 10 14 (fun Q2 h2=>by simp! []; exact h2) (by decide) (fun D i ys H8=>∃ l:List Int,l.length ≤ i∧ys = l.map V.int∧(∀ x ∈ l,0 ≤ x∧x < 14)∧H8 D = some (.lst ys)∧BagAt H8 b c cs∧Kp b H4 H8)
   (fun D hD=>⟨[],Nat.le_refl _,rfl,by simp,zaa,hb4.laid hD,Kp.refl.laid hD⟩) ?_ (by rw [sizeLine_eq]; decide) ?_ ?_
  ·rintro D hD i ys H8 hi ⟨l,l1,rfl,l2,hd,hb8,k8⟩
   exact ⟨hd,by rw [List.length_map]; omega⟩
  ·rintro D hD i ys H8 hi ⟨l,l1,rfl,l2,hd,hb8,k8⟩
   simp! [zaG,tTrue]
   refine ⟨b,c,cs,_,rfl,hb8,by omega,by omega,fun x H9 x0 x1 hb9 k9=>⟨rfl,?_⟩⟩
   obtain ⟨nD,nDc⟩:=hb4.apart hD
   have hd9:=k9 _ _ hd nD
   have ii:i < 4:=hi
   by_cases cx:x = 1
   ·subst cx
    rw [if_pos rfl]
    refine ⟨hd9,l ++ [10 + (i:Int)],by rw [List.length_append,List.length_singleton]; omega,by simp,fun y hy=>?_,hb9.other nD nDc,(k8.trans k9).new hD⟩
    rcases List.mem_append.mp hy with h | h
    ·exact l2 y h
    ·rw [List.mem_singleton.mp h]; omega
   ·rw [if_neg (fun z=>cx (V.int.inj z))]
    exact ⟨l,by omega,rfl,l2,hd9,hb9,k8.trans k9⟩
  rintro D4 hD4 ys H5 ⟨lh,lh1,rfl,lh2,hd5,hb5,k5⟩
  have lh4:lh.length ≤ 4:=lh1
  refine ⟨p9,D4,_,_,rfl,rfl,k5 _ _ a9 p9b,hd5,by rw [sizeLine_eq,List.length_map,List.length_singleton]; omega,fun hl nhl=>?_⟩
  have hb6:=hb5.laid nhl (u:=.lst ([V.int 9] ++ lh.map V.int))
  have h6:upd H5 hl (.lst ([V.int 9] ++ lh.map V.int)) hl = some (.lst ((9 :: lh).map V.int)):=zaa
  revert hb6 h6
  generalize upd H5 hl (.lst ([V.int 9] ++ lh.map V.int)) = H6
  intro hb6 h6
  have hs2:∀ h ∈ (9 :: lh),0 ≤ h∧h < 14:=fun h hh=>by
   rcases List.mem_cons.mp hh with rfl | hh
   ·decide
   ·exact lh2 h hh
  have hsl:(9 :: lh).length ≤ 5:=by rw [List.length_cons]; omega
  have hsn:(9 :: lh) ≠ []:=List.cons_ne_nil _ _
  generalize 9 :: lh = hs at h6 hs2 hsl hsn
  refine ⟨b,c,hl,cs,hs,rfl,hb6,h6,hsn,by omega,fun ml us ps H7 nml hb7 k7 hm7 PS7 pb pl6=>?_⟩
  have hlb:hl ≠ b:=hb6.nInts h6
  have mlb:ml ≠ b:=hb7.nPrs hm7 PS7
  have h7:=k7 _ _ h6 hlb
  have TA7:TabAt H7 hl ml us hs ps:=⟨h7,hm7,PS7⟩
  have pb2:∀ p ∈ ps,0 ≤ p.1∧p.1 < 14∧0 ≤ p.2:=fun p hp=>by
   obtain ⟨x1,x2,x3⟩:=pb p hp
   exact ⟨by omega,x2,(hs2 _ x3).1⟩
  intro q1 nq1 q2 nq2 q3 nq3
  have hb8:=((hb7.laid nq1 (u:=.tup [V.str (Str.ofString "put"),V.int 8,V.int 1])).laid nq2 (u:=.tup [V.str (Str.ofString "nil"),V.int 9])).laid nq3 (u:=.lst [V.ref q1,V.ref q2])
  have S78:=((Same.laid nq1 (u:=.tup [V.str (Str.ofString "put"),V.int 8,V.int 1])).step nq2 (u:=.tup [V.str (Str.ofString "nil"),V.int 9])).step nq3 (u:=.lst [V.ref q1,V.ref q2])
  have w1:=zab (u:=.lst [V.ref q1,V.ref q2]) (zab (u:=.tup [V.str (Str.ofString "nil"),V.int 9]) (zaa (H:=H7) (a:=q1) (o:=.tup [V.str (Str.ofString "put"),V.int 8,V.int 1])) nq2) nq3
  have w2:=zab (u:=.lst [V.ref q1,V.ref q2]) (zaa (H:=upd H7 q1 (.tup [V.str (Str.ofString "put"),V.int 8,V.int 1])) (a:=q2) (o:=.tup [V.str (Str.ofString "nil"),V.int 9])) nq3
  have w3:=zaa (H:=upd (upd H7 q1 (.tup [V.str (Str.ofString "put"),V.int 8,V.int 1])) q2 (.tup [V.str (Str.ofString "nil"),V.int 9])) (a:=q3) (o:=.lst [V.ref q1,V.ref q2])
  revert hb8 S78 w1 w2 w3
  generalize upd (upd (upd H7 q1 (.tup [V.str (Str.ofString "put"),V.int 8,V.int 1])) q2 (.tup [V.str (Str.ofString "nil"),V.int 9])) q3 (.lst [V.ref q1,V.ref q2]) = H8
  intro hb8 S78 w1 w2 w3
  have TA8:=TA7.same S78
  have R8:RowsOf H8 q3 [q1,q2] [putR 8 1,nilR 9]:=zhR w3 (za5 (is:=[8,1]) w1) (za5 (is:=[9]) w2)
  have q3b:q3 ≠ b:=hb8.nRefs (qs:=[q1,q2]) w3
  have P0:∀ r ∈ [putR 8 1,nilR 9],PutR r:=fun r hr=>by
   rcases List.mem_cons.mp hr with m | m
   ·rw [m]; exact ⟨fun _ _=>zeP (by decide) (by decide) (by decide) (by decide),by show ("put":Str) ∈ (["put","nil","into","copy"]:List Str); decide⟩
   ·rw [List.mem_singleton.mp m]; exact ⟨fun _ _=>zeV (by decide) (by decide),by show ("nil":Str) ∈ (["put","nil","into","copy"]:List Str); decide⟩
  subst hF
  generalize hL:tSeq (tAsg (tCB _ (zcp (zbJ _ (iStr _) _ _ _) _)) _) _ = tailL
  refine zg1 (Pre:=fun n H9=>0 ≤ n∧n < 9∧BagAt H9 b c cs∧Kp b H8 H9) (fun Q2 h2=>?_) ?_
  ·simp! []
   exact ⟨b,c,cs,9,rfl,hb8,by decide,by decide,fun x H9 x0 x1 hb9 k9=>h2 x H9 ⟨x0,x1,hb9,k9⟩⟩
  rintro n H9 ⟨n0,n9,hb9,k9⟩
  refine L2.for1 (H1:=H9) n (fun Q2 h2=>h2) (by omega) (by omega) (fun j σ Ha=>∃ (rl:Addr) (rs:List Addr) (pre:List Row) (v8:Option V),σ = [some (V.ref r),some (V.ref b),some (V.int se),some (V.int m),some (V.str tk),some (V.ref hl),some (V.ref ml),some (V.ref rl),v8,none,none,none,none,none,none]∧RowsOf Ha rl rs pre∧(∀ r ∈ pre,PutR r)∧pre.length = 2 + j∧BagAt Ha b c cs∧Kp b H8 Ha) ⟨q3,[q1,q2],[putR 8 1,nilR 9],none,rfl,R8.kp hb8 k9 q3b,P0,rfl,hb9,k9⟩ ?_ ?_
  ·rintro j σ Ha hj ⟨rl,rs,pre,v8,rfl,Ra,pp,pln,hba,ka⟩
   have topa:=Ra.top
   have rlb:rl ≠ b:=hba.nRefs topa
   have jn:j < n.toNat:=hj
   simp! []
   intro p np
   have hbp:=hba.laid np (u:=.lst [V.int 10,V.int 11,V.int 12,V.int 13,V.int 1,V.int 2,V.int 8])
   have kp:Kp b Ha (upd Ha p (.lst [V.int 10,V.int 11,V.int 12,V.int 13,V.int 1,V.int 2,V.int 8])):=Kp.refl.laid np
   have hp:upd Ha p (.lst [V.int 10,V.int 11,V.int 12,V.int 13,V.int 1,V.int 2,V.int 8]) p = some (.lst (([10,11,12,13,1,2,8]:List Int).map V.int)):=zaa
   revert hbp kp hp
   generalize upd Ha p (.lst [V.int 10,V.int 11,V.int 12,V.int 13,V.int 1,V.int 2,V.int 8]) = Hb
   intro hbp kp hp
   have pb:p ≠ b:=hbp.nInts hp
   refine ⟨b,c,cs,7,rfl,hbp,by decide,by decide,fun x Hc x0 x1 hbc kc=>?_⟩
   obtain ⟨xN,rfl⟩:=Int.eq_ofNat_of_zero_le x0
   have xl:xN < ([10,11,12,13,1,2,8]:List Int).length:=by show xN < 7; omega
   obtain ⟨y0,y1⟩:=pick7 _ (List.getElem_mem xl)
   refine ⟨_,rfl,_,by rw [kc _ _ hp pb]; rfl,_,zhc _ _ xl,?_⟩
   refine ⟨b,c,cs,_,rfl,hbc,y0,y1,fun l q r9 Hd hl Rq PT hbd kd=>?_⟩
   have kad:=(kp.trans kc).trans kd
   have Rd:=Ra.kp hba kad rlb
   refine ⟨rl,l,_,_,rfl,rfl,Rd.top,hl,by rw [sizeLine_eq,List.length_map,Ra.len,List.length_singleton]; omega,fun rl2 nrl2=>?_⟩
   refine ⟨rl2,rfl,rs ++ [q],pre ++ [r9],RowsOf.snoc (M:=fun _=>False) (.of_same (Same.laid nrl2)) Rd.row Rd.len zaa (Rq.same (Same.laid nrl2)),fun r hr=>?_,by rw [List.length_append,pln]; rfl,hbd.laid nrl2,(ka.trans kad).laid nrl2⟩
   rcases List.mem_append.mp hr with m | m
   ·exact pp r m
   ·rw [List.mem_singleton.mp m]; exact PT
  ·rintro σ Ha ⟨rl,rs,pre,v8,rfl,Ra,pp,pln,hba,ka⟩
   have topa:=Ra.top
   have rlb:rl ≠ b:=hba.nRefs topa
   have tasc:tk.cps.all (· < 128) = true:=by
    rw [← Array.all_toList,List.all_eq_true]
    intro c hc
    rcases tn c hc with h | h <;> rw [h] <;> decide
   subst hL
   simp! []
   refine compS (H1:=Ha) tk (fun Q2 h2=>by simp! []; exact h2) tasc (fun D i ys H9=>∃ l:List Int,l.length = i∧ys = l.map V.int∧(∀ x ∈ l,0 ≤ x∧x < 14)∧H9 D = some (.lst ys)∧BagAt H9 b c cs∧Kp b Ha H9)
    (fun D hD=>⟨[],rfl,rfl,by simp,zaa,hba.laid hD,Kp.refl.laid hD⟩) ?_ ?_ ?_ ?_
   ·rintro D hD i ys H9 hi ⟨l,l1,rfl,l2,hd,hb9,k9⟩
    exact ⟨hd,by rw [List.length_map]; omega⟩
   ·rw [sizeLine_eq]; omega
   ·rintro D hD i ch ys H9 hch ⟨l,l1,rfl,l2,hd,hb9,k9⟩
    obtain ⟨nD,nDc⟩:=hba.apart hD
    simp! [zaG,tTrue]
    intro p np
    have hbp:=hb9.laid np (u:=.lst [V.int 8,V.int 9,V.int 10,V.int 11,V.int 12,V.int 13,V.int 1,V.int 2])
    have kp:Kp b H9 (upd H9 p (.lst [V.int 8,V.int 9,V.int 10,V.int 11,V.int 12,V.int 13,V.int 1,V.int 2])):=Kp.refl.laid np
    have hp:upd H9 p (.lst [V.int 8,V.int 9,V.int 10,V.int 11,V.int 12,V.int 13,V.int 1,V.int 2]) p = some (.lst (([8,9,10,11,12,13,1,2]:List Int).map V.int)):=zaa
    revert hbp kp hp
    generalize upd H9 p (.lst [V.int 8,V.int 9,V.int 10,V.int 11,V.int 12,V.int 13,V.int 1,V.int 2]) = Hb
    intro hbp kp hp
    have pb:p ≠ b:=hbp.nInts hp
    refine ⟨b,c,cs,8,rfl,hbp,by decide,by decide,fun x Hc x0 x1 hbc kc=>?_⟩
    obtain ⟨xN,rfl⟩:=Int.eq_ofNat_of_zero_le x0
    have xl:xN < ([8,9,10,11,12,13,1,2]:List Int).length:=by show xN < 8; omega
    have yy:=pick8 _ (List.getElem_mem xl)
    have hd9:=(kp.trans kc) _ _ hd nD
    refine ⟨_,rfl,_,by rw [kc _ _ hp pb]; rfl,_,zhc _ _ xl,hd9,l ++ [_],by rw [List.length_append,l1]; rfl,by rw [List.map_append]; rfl,fun y hy=>?_,hbc.other nD nDc,((k9.trans kp).trans kc).new hD⟩
    rcases List.mem_append.mp hy with h | h
    ·exact l2 y h
    ·rw [List.mem_singleton.mp h]; exact yy
   rintro D9 hD9 ys Hb ⟨la,la1,rfl,la2,hdb,hbb,kb⟩
   have Rb:=Ra.kp hba kb rlb
   have TAb:=TA8
   refine ⟨D9,rfl,_,.inl ⟨.of hdb,fun ta nta=>?_⟩⟩
   have hbc:=hbb.laid nta (u:=.tup (la.map V.int))
   have Rc:=Rb.same (Same.laid nta (u:=.tup (la.map V.int)))
   have kc:Kp b H8 (upd Hb ta (.tup (la.map V.int))):=(ka.trans kb).laid nta
   have hta:upd Hb ta (.tup (la.map V.int)) ta = some (.tup (la.map V.int)):=zaa
   revert hbc Rc kc hta
   generalize upd Hb ta (.tup (la.map V.int)) = Hc
   intro hbc Rc kc hta
   have topc:=Rc.top
   refine ⟨_,by rw [topc]; rfl,fun t1 nt1=>?_⟩
   have hbd:=hbc.laid nt1 (u:=.tup [V.str (Str.ofString "call"),V.int 0,V.int 1,V.ref ta])
   have S1:=Same.laid nt1 (u:=.tup [V.str (Str.ofString "call"),V.int 0,V.int 1,V.ref ta])
   have ht1:upd Hc t1 (.tup [V.str (Str.ofString "call"),V.int 0,V.int 1,V.ref ta]) t1 = some (.tup [V.str (Str.ofString "call"),V.int 0,V.int 1,V.ref ta]):=zaa
   revert hbd S1 ht1
   generalize upd Hc t1 (.tup [V.str (Str.ofString "call"),V.int 0,V.int 1,V.ref ta]) = Hd
   intro hbd S1 ht1
   refine ⟨b,c,cs,6,rfl,hbd,by decide,by decide,fun xk He x0 x1 hbe ke=>⟨xk,rfl,fun t2 nt2 l3 nl3=>?_⟩⟩
   have kce:Kp b Hc He:=fun q o h n=>ke q o (S1 _ _ h) n
   have Re:=Rc.kp hbc kce rlb
   have ht1e:=ke _ _ ht1 (fun z=>by obtain ⟨o,ho⟩:=hbc.has; rw [z,ho] at nt1; cases nt1)
   have htae:=hbc.tup kce hta
   have hbf:=(hbe.laid nt2 (u:=.tup [V.str (Str.ofString "look"),V.int 1,V.int (8 + xk),V.int 9])).laid nl3 (u:=.lst [V.ref t1,V.ref t2])
   have Sf:=(Same.laid nt2 (u:=.tup [V.str (Str.ofString "look"),V.int 1,V.int (8 + xk),V.int 9])).step nl3 (u:=.lst [V.ref t1,V.ref t2])
   have ht2:=zab (u:=.lst [V.ref t1,V.ref t2]) (zaa (H:=He) (a:=t2) (o:=.tup [V.str (Str.ofString "look"),V.int 1,V.int (8 + xk),V.int 9])) nl3
   have hl3:=zaa (H:=upd He t2 (.tup [V.str (Str.ofString "look"),V.int 1,V.int (8 + xk),V.int 9])) (a:=l3) (o:=.lst [V.ref t1,V.ref t2])
   revert hbf Sf ht2 hl3
   generalize upd (upd He t2 (.tup [V.str (Str.ofString "look"),V.int 1,V.int (8 + xk),V.int 9])) l3 (.lst [V.ref t1,V.ref t2]) = Hf
   intro hbf Sf ht2 hl3
   have Rf:=Re.same Sf
   refine ⟨rl,l3,_,_,rfl,rfl,Rf.top,hl3,by rw [sizeLine_eq,List.length_map,Ra.len]; show pre.length + 2 ≤ _; omega,fun rl3 nrl3=>?_⟩
   have Rg0:RowsOf (upd Hf rl3 (.lst (rs.map V.ref ++ [V.ref t1,V.ref t2]))) rl3 (rs ++ [t1,t2]) (pre ++ [zdI la,ze8 (8 + xk)]):=by
    have Sg:=Same.laid nrl3 (u:=.lst (rs.map V.ref ++ [V.ref t1,V.ref t2]))
    refine ⟨by rw [zaa,List.map_append]; rfl,by rw [List.length_append,List.length_append,Ra.len]; rfl,fun i q r9 h1 h2=>?_⟩
    by_cases ck:i < pre.length
    ·rw [List.getElem?_append_left (by rw [Ra.len]; exact ck)] at h1
     rw [List.getElem?_append_left ck] at h2
     exact (Rf.row i q r9 h1 h2).same Sg
    ·rw [List.getElem?_append_right (by rw [Ra.len]; omega),Ra.len] at h1
     rw [List.getElem?_append_right (by omega)] at h2
     match i - pre.length,h1,h2 with
     | 0,h1,h2 =>
      cases h1
      cases h2
      refine ⟨[V.int 0,V.int 1,V.ref ta],Sg _ _ (Sf _ _ ht1e),rfl,fun i v p h1 h2=>?_⟩
      match i,h1,h2 with
      | 0,h1,h2=>cases h1; cases h2; rfl
      | 1,h1,h2=>cases h1; cases h2; rfl
      | 2,h1,h2=>cases h1; cases h2; exact ⟨ta,rfl,Sg _ _ (Sf _ _ htae)⟩
      | i + 3,h1,h2=>simp at h1
     | 1,h1,h2=>cases h1; cases h2; exact za5 (is:=[1,8 + xk,9]) (Sg _ _ ht2)
     | i + 2,h1,h2=>simp at h1
   have hbg:=hbf.laid nrl3 (u:=.lst (rs.map V.ref ++ [V.ref t1,V.ref t2]))
   have nrl3c:Hc rl3 = none:=by
    cases e:Hc rl3 with
    | none=>rfl
    | some o =>
     by_cases eb:rl3 = b
     ·obtain ⟨o',h'⟩:=hbf.has
      rw [← eb,nrl3] at h'; cases h'
     ·have:=Sf _ _ (kce _ _ e eb)
      rw [nrl3] at this; cases this
   have kcg:Kp b Hc (upd Hf rl3 (.lst (rs.map V.ref ++ [V.ref t1,V.ref t2]))):=(Kp.trans kce (Same.kp_ Sf)).laid nrl3
   revert Rg0 hbg kcg
   generalize upd Hf rl3 (.lst (rs.map V.ref ++ [V.ref t1,V.ref t2])) = Hg
   intro Rg0 hbg kcg
   have rl3b:rl3 ≠ b:=hbg.nRefs Rg0.top
   simp! [tBM]
   refine ⟨.inl ⟨rfl,_,.of Rg0.top⟩,fun p np=>?_⟩
   have hbp:=hbg.laid np (u:=.lst [V.int 0,V.int 1,V.int 8,V.int 9])
   have kp:Kp b Hg (upd Hg p (.lst [V.int 0,V.int 1,V.int 8,V.int 9])):=Kp.refl.laid np
   have hp:upd Hg p (.lst [V.int 0,V.int 1,V.int 8,V.int 9]) p = some (.lst (([0,1,8,9]:List Int).map V.int)):=zaa
   revert hbp kp hp
   generalize upd Hg p (.lst [V.int 0,V.int 1,V.int 8,V.int 9]) = Hh
   intro hbp kp hp
   have pb:p ≠ b:=hbp.nInts hp
   refine ⟨b,c,cs,4,rfl,hbp,by decide,by decide,fun x Hi x0 x1 hbi ki=>?_⟩
   obtain ⟨xN,rfl⟩:=Int.eq_ofNat_of_zero_le x0
   have xl:xN < ([0,1,8,9]:List Int).length:=by show xN < 4; omega
   have yy:=pick4 _ (List.getElem_mem xl)
   refine ⟨_,rfl,_,by rw [ki _ _ hp pb]; rfl,_,zhc _ _ xl,fun t5 nt5=>?_⟩
   generalize ([0,1,8,9]:List Int)[xN] = yb at yy nt5 ⊢
   have kgi:=kp.trans ki
   have Ri:=Rg0.kp hbg kgi rl3b
   have hbj:=hbi.laid nt5 (u:=.tup [V.str (Str.ofString "back"),V.int yb])
   have Rj:=Ri.same (Same.laid nt5 (u:=.tup [V.str (Str.ofString "back"),V.int yb]))
   have kj:Kp b Hc (upd Hi t5 (.tup [V.str (Str.ofString "back"),V.int yb])):=(kcg.trans kgi).laid nt5
   have ht5:upd Hi t5 (.tup [V.str (Str.ofString "back"),V.int yb]) t5 = some (.tup [V.str (Str.ofString "back"),V.int yb]):=zaa
   revert hbj Rj kj ht5
   generalize upd Hi t5 (.tup [V.str (Str.ofString "back"),V.int yb]) = Hj
   intro hbj Rj kj ht5
   have pl12:pre.length ≤ 10:=by rw [pln]; omega
   refine ⟨rl3,_,_,rfl,rfl,Rj.top,by rw [sizeLine_eq,List.length_map,Rj.len,List.length_append]; show pre.length + 2 < _; omega,?_⟩
   have Fj:Fr (· = rl3) Hj (upd Hj rl3 (.lst ((rs ++ [t1,t2]).map V.ref ++ [V.ref t5]))):=⟨fun q o e n=>by rw [zaj n]; exact e,fun q xs e=>by rw [zaj (fun z=>by rw [z,Rj.top] at e; cases e)]; exact e⟩
   have Rk:RowsOf (upd Hj rl3 (.lst ((rs ++ [t1,t2]).map V.ref ++ [V.ref t5]))) rl3 (rs ++ [t1,t2] ++ [t5]) (pre ++ [zdI la,ze8 (8 + xk)] ++ [zbL yb]):=RowsOf.snoc Fj Rj.row Rj.len zaa (za5 (is:=[yb]) (Fj.tups _ _ ht5))
   have hbk:=hbj.other (u:=.lst ((rs ++ [t1,t2]).map V.ref ++ [V.ref t5])) rl3b (hbc.apart nrl3c).2
   have kk:Kp b H8 (upd Hj rl3 (.lst ((rs ++ [t1,t2]).map V.ref ++ [V.ref t5]))):=(kc.trans kj).new (zfh kc rl3b nrl3c)
   revert Rk hbk kk
   generalize upd Hj rl3 (.lst ((rs ++ [t1,t2]).map V.ref ++ [V.ref t5])) = Hk
   intro Rk hbk kk
   intro t6 nt6 t7 nt7 l8 nl8
   have S1:=((Same.laid nt6 (u:=.tup [V.str (Str.ofString "put"),V.int 0,V.int 3])).step nt7 (u:=.tup [V.str (Str.ofString "back"),V.int 0])).step nl8 (u:=.lst [V.ref t6,V.ref t7])
   have ht6:=zab (u:=.lst [V.ref t6,V.ref t7]) (zab (u:=.tup [V.str (Str.ofString "back"),V.int 0]) (zaa (H:=Hk) (a:=t6) (o:=.tup [V.str (Str.ofString "put"),V.int 0,V.int 3])) nt7) nl8
   have ht7:=zab (u:=.lst [V.ref t6,V.ref t7]) (zaa (H:=upd Hk t6 (.tup [V.str (Str.ofString "put"),V.int 0,V.int 3])) (a:=t7) (o:=.tup [V.str (Str.ofString "back"),V.int 0])) nl8
   have hl8:=zaa (H:=upd (upd Hk t6 (.tup [V.str (Str.ofString "put"),V.int 0,V.int 3])) t7 (.tup [V.str (Str.ofString "back"),V.int 0])) (a:=l8) (o:=.lst [V.ref t6,V.ref t7])
   have TAk:TabAt Hk hl ml us hs ps:=⟨kk _ _ TA8.hl hlb,kk _ _ TA8.hm mlb,TA8.pr.kp hb8 kk⟩
   have hbm:=hbk.keep S1
   revert S1 ht6 ht7 hl8 hbm
   generalize upd (upd (upd Hk t6 (.tup [V.str (Str.ofString "put"),V.int 0,V.int 3])) t7 (.tup [V.str (Str.ofString "back"),V.int 0])) l8 (.lst [V.ref t6,V.ref t7]) = Hm
   intro S1 ht6 ht7 hl8 hbm
   have Rm:=Rk.same S1
   have TAm:=TAk.same S1
   have BD:Body (pre ++ [zdI la,ze8 (8 + xk)] ++ [zbL yb]) pre.length la:=⟨⟨pre,8 + xk,yb,rfl,pp,rfl,by omega,by omega,yy.1,yy.2⟩,by omega,la2⟩
   revert BD Rm
   generalize pre ++ [zdI la,ze8 (8 + xk)] ++ [zbL yb] = rws
   generalize rs ++ [t1,t2] ++ [t5] = rss
   intro Rm BD
   have RP:RowsOf Hm l8 [t6,t7] [putR 0 3,zbL 0]:=zhR hl8 (za5 (is:=[0,3]) ht6) (za5 (is:=[0]) ht7)
   rw [List.length_map,Ra.len]
   obtain ⟨seN,rfl⟩:=Int.eq_ofNat_of_zero_le se0
   have hl6:hs.length + ps.length ≤ 100:=by omega
   subst hI
   by_cases c1:seN = 1
   ·subst c1
    simp! []
    rw [if_pos (show ((1:Nat):Int) = 1 from rfl)]
    intro d0 nd0 d1 nd1 pl npl
    have S2:=((Same.laid nd0 (u:=.tup [V.str (Str.ofString ""),V.str (Str.ofString "n"),V.int 0,V.ref l8])).step nd1 (u:=.tup [V.str tk,V.str (Str.ofString "h"),V.int 6,V.ref rl3])).step npl (u:=.lst [V.ref d0,V.ref d1])
    exact endk _ pl hl ml _ _ 1 pre.length hs us ps _ _ _ _ _ _ _ _ _ _ (ProgAt.two zaa (zab (zab zaa nd1) npl) (RP.same S2) (zab zaa npl) (Rm.same S2)) (Gd.one BD tsz tn la1) (TAm.same S2) hs2 pb2 hl6
   ·have c0:seN = 0:=by omega
    subst c0
    simp! []
    rw [if_neg (by decide)]
    intro d0 nd0 e1 ne1 e2 ne2
    have S2:=((Same.laid nd0 (u:=.tup [V.str (Str.ofString ""),V.str (Str.ofString "n"),V.int 6,V.ref rl3])).step ne1 (u:=.tup [V.str (Str.ofString "nil"),V.int 8])).step ne2 (u:=.lst [V.int 0,V.int 8])
    have hd0:=zab (u:=.lst [V.int 0,V.int 8]) (zab (u:=.tup [V.str (Str.ofString "nil"),V.int 8]) (zaa (H:=Hm) (a:=d0) (o:=.tup [V.str (Str.ofString ""),V.str (Str.ofString "n"),V.int 6,V.ref rl3])) ne1) ne2
    have he1:=zab (u:=.lst [V.int 0,V.int 8]) (zaa (H:=upd Hm d0 (.tup [V.str (Str.ofString ""),V.str (Str.ofString "n"),V.int 6,V.ref rl3])) (a:=e1) (o:=.tup [V.str (Str.ofString "nil"),V.int 8])) ne2
    have he2:upd (upd (upd Hm d0 (.tup [V.str (Str.ofString ""),V.str (Str.ofString "n"),V.int 6,V.ref rl3])) e1 (.tup [V.str (Str.ofString "nil"),V.int 8])) e2 (.lst [V.int 0,V.int 8]) e2 = some (.lst (([0,8]:List Int).map V.int)):=zaa
    have hbn:=hbm.keep S2
    revert S2 hd0 he1 he2 hbn
    generalize upd (upd (upd Hm d0 (.tup [V.str (Str.ofString ""),V.str (Str.ofString "n"),V.int 6,V.ref rl3])) e1 (.tup [V.str (Str.ofString "nil"),V.int 8])) e2 (.lst [V.int 0,V.int 8]) = Hn
    intro S2 hd0 he1 he2 hbn
    have e2b:e2 ≠ b:=hbn.nInts he2
    refine ⟨b,c,cs,2,rfl,hbn,by decide,by decide,fun x Ho x0 x1 hbo ko=>?_⟩
    obtain ⟨xN,rfl⟩:=Int.eq_ofNat_of_zero_le x0
    have xl:xN < ([0,8]:List Int).length:=by show xN < 2; omega
    have yy2:=pick2 _ (List.getElem_mem xl)
    refine ⟨_,rfl,_,by rw [ko _ _ he2 e2b]; rfl,_,zhc _ _ xl,fun e3 ne3 e4 ne4 d1 nd1 pl npl=>?_⟩
    generalize ([0,8]:List Int)[xN] = y2 at yy2 ne3 ne4 nd1 npl ⊢
    have S3:=(((Same.laid ne3 (u:=.tup [V.str (Str.ofString "back"),V.int y2])).step ne4 (u:=.lst [V.ref e1,V.ref e3])).step nd1 (u:=.tup [V.str tk,V.str (Str.ofString "n"),V.int 1,V.ref e4])).step npl (u:=.lst [V.ref d0,V.ref d1])
    have hd0o:=hbn.tup ko hd0
    have he1o:=hbn.tup ko he1
    have Ro:=(Rm.same S2).kp hbn ko rl3b
    have TAo:TabAt Ho hl ml us hs ps:=⟨ko _ _ (TAm.same S2).hl hlb,ko _ _ (TAm.same S2).hm mlb,(TAm.same S2).pr.kp hbn ko⟩
    have he3:=zab (u:=.lst [V.ref d0,V.ref d1]) (zab (u:=.tup [V.str tk,V.str (Str.ofString "n"),V.int 1,V.ref e4]) (zab (u:=.lst [V.ref e1,V.ref e3]) (zaa (H:=Ho) (a:=e3) (o:=.tup [V.str (Str.ofString "back"),V.int y2])) ne4) nd1) npl
    have he4:=zab (u:=.lst [V.ref d0,V.ref d1]) (zab (u:=.tup [V.str tk,V.str (Str.ofString "n"),V.int 1,V.ref e4]) (zaa (H:=upd Ho e3 (.tup [V.str (Str.ofString "back"),V.int y2])) (a:=e4) (o:=.lst [V.ref e1,V.ref e3])) nd1) npl
    have hd1:=zab (u:=.lst [V.ref d0,V.ref d1]) (zaa (H:=upd (upd Ho e3 (.tup [V.str (Str.ofString "back"),V.int y2])) e4 (.lst [V.ref e1,V.ref e3])) (a:=d1) (o:=.tup [V.str tk,V.str (Str.ofString "n"),V.int 1,V.ref e4])) npl
    have hpl:=zaa (H:=upd (upd (upd Ho e3 (.tup [V.str (Str.ofString "back"),V.int y2])) e4 (.lst [V.ref e1,V.ref e3])) d1 (.tup [V.str tk,V.str (Str.ofString "n"),V.int 1,V.ref e4])) (a:=pl) (o:=.lst [V.ref d0,V.ref d1])
    revert S3 he3 he4 hd1 hpl
    generalize upd (upd (upd (upd Ho e3 (.tup [V.str (Str.ofString "back"),V.int y2])) e4 (.lst [V.ref e1,V.ref e3])) d1 (.tup [V.str tk,V.str (Str.ofString "n"),V.int 1,V.ref e4])) pl (.lst [V.ref d0,V.ref d1]) = Hp_
    intro S3 he3 he4 hd1 hpl
    have RQ:RowsOf Hp_ e4 [e1,e3] [nilR 8,zbL y2]:=zhR he4 (za5 (is:=[8]) (S3 _ _ he1o)) (za5 (is:=[y2]) he3)
    exact endk Hp_ pl hl ml _ _ 0 pre.length hs us ps _ _ _ _ _ _ _ _ _ _ (ProgAt.two hpl (S3 _ _ hd0o) (Ro.same S3) hd1 RQ) (Gd.zero BD tsz tn la1 yy2.1 yy2.2) (TAo.same S3) hs2 pb2 hl6
end
set_option maxHeartbeats 4000000 in
theorem all_mk {l:PySem.W.OpenLaw} {w:World} {K:PySem.W.Frag} {h:Heap} {mg:Str->Option Value} {fa:Addr} {f0 f1 f2 f3 f4 f5 f6 f7 f8 f9 f10 f11 f12 f13 f14 f15 f16 f17 f18 f19 f20 f21 f22 f23 f24 f25 f26 f27 f28 f29 f30 f31 f32 f33 f34 f35 f36:Addr} {tk_BOXES:Nat} {gK_GAINS:Addr} {gK_USES:Addr} {gK_WRITERS:Addr}
  (X:K.In h) (G:h.Ns mainGlobals mg) (hfa:mg "law" = some (.ref fa))
  (a0:PySem.W.nsIn K mainGlobals "nexts" = some (some (.ref f0)))
  (F0:∃ fd,Fun K "nexts" "nexts" s_nexts f0 fd)
  (a1:PySem.W.nsIn K mainGlobals "uses" = some (some (.ref f1)))
  (F1:∃ fd,Fun K "uses" "uses" s_uses f1 fd)
  (a2:PySem.W.nsIn K mainGlobals "writes" = some (some (.ref f2)))
  (F2:∃ fd,Fun K "writes" "writes" s_writes f2 fd)
  (a3:PySem.W.nsIn K mainGlobals "is_stop" = some (some (.ref f3)))
  (F3:∃ fd,Fun K "is_stop" "is_stop" s_is_stop f3 fd)
  (a4:PySem.W.nsIn K mainGlobals "places_of" = some (some (.ref f4)))
  (F4:∃ fd,Fun K "places_of" "places_of" s_places_of f4 fd)
  (a5:PySem.W.nsIn K mainGlobals "reached" = some (some (.ref f5)))
  (F5:∃ fd,Fun K "reached" "reached" s_reached f5 fd)
  (a6:PySem.W.nsIn K mainGlobals "is_spot" = some (some (.ref f6)))
  (F6:∃ fd,Fun K "is_spot" "is_spot" s_is_spot f6 fd)
  (a7:PySem.W.nsIn K mainGlobals "tables_of" = some (some (.ref f7)))
  (F7:∃ fd,Fun K "tables_of" "tables_of" s_tables_of f7 fd)
  (a8:PySem.W.nsIn K mainGlobals "first_kinds" = some (some (.ref f8)))
  (F8:∃ fd,Fun K "first_kinds" "first_kinds" s_first_kinds f8 fd)
  (a9:PySem.W.nsIn K mainGlobals "is_lost_at_call" = some (some (.ref f9)))
  (F9:∃ fd,Fun K "is_lost_at_call" "is_lost_at_call" s_is_lost_at_call f9 fd)
  (a10:PySem.W.nsIn K mainGlobals "is_lost_at_table" = some (some (.ref f10)))
  (F10:∃ fd,Fun K "is_lost_at_table" "is_lost_at_table" s_is_lost_at_table f10 fd)
  (a11:PySem.W.nsIn K mainGlobals "gained" = some (some (.ref f11)))
  (F11:∃ fd,Fun K "gained" "gained" s_gained f11 fd)
  (a12:PySem.W.nsIn K mainGlobals "behind" = some (some (.ref f12)))
  (F12:∃ fd,Fun K "behind" "behind" s_behind f12 fd)
  (a13:PySem.W.nsIn K mainGlobals "shared" = some (some (.ref f13)))
  (F13:∃ fd,Fun K "shared" "shared" s_shared f13 fd)
  (a14:PySem.W.nsIn K mainGlobals "kinds_of" = some (some (.ref f14)))
  (F14:∃ fd,Fun K "kinds_of" "kinds_of" s_kinds_of f14 fd)
  (a15:PySem.W.nsIn K mainGlobals "dues_at" = some (some (.ref f15)))
  (F15:∃ fd,Fun K "dues_at" "dues_at" s_dues_at f15 fd)
  (a16:PySem.W.nsIn K mainGlobals "meets_more" = some (some (.ref f16)))
  (F16:∃ fd,Fun K "meets_more" "meets_more" s_meets_more f16 fd)
  (a17:PySem.W.nsIn K mainGlobals "spoiling_way" = some (some (.ref f17)))
  (F17:∃ fd,Fun K "spoiling_way" "spoiling_way" s_spoiling_way f17 fd)
  (a18:PySem.W.nsIn K mainGlobals "fault_of" = some (some (.ref f18)))
  (F18:∃ fd,Fun K "fault_of" "fault_of" s_fault_of f18 fd)
  (a19:PySem.W.nsIn K mainGlobals "fault" = some (some (.ref f19)))
  (F19:∃ fd,Fun K "fault" "fault" s_fault f19 fd)
  (a20:PySem.W.nsIn K mainGlobals "_law_bag" = some (some (.ref f20)))
  (F20:∃ fd,Fun K "_law_bag" "_law_bag" s_law_bag f20 fd)
  (a21:PySem.W.nsIn K mainGlobals "_law_draw" = some (some (.ref f21)))
  (F21:∃ fd,Fun K "_law_draw" "_law_draw" s_law_draw f21 fd)
  (a22:PySem.W.nsIn K mainGlobals "_law_nexts" = some (some (.ref f22)))
  (F22:∃ fd,Fun K "_law_nexts" "_law_nexts" s_law_nexts f22 fd)
  (a23:PySem.W.nsIn K mainGlobals "_law_writes" = some (some (.ref f23)))
  (F23:∃ fd,Fun K "_law_writes" "_law_writes" s_law_writes f23 fd)
  (a24:PySem.W.nsIn K mainGlobals "_law_uses" = some (some (.ref f24)))
  (F24:∃ fd,Fun K "_law_uses" "_law_uses" s_law_uses f24 fd)
  (a25:PySem.W.nsIn K mainGlobals "_law_first" = some (some (.ref f25)))
  (F25:∃ fd,Fun K "_law_first" "_law_first" s_law_first f25 fd)
  (a26:PySem.W.nsIn K mainGlobals "_law_lost" = some (some (.ref f26)))
  (F26:∃ fd,Fun K "_law_lost" "_law_lost" s_law_lost f26 fd)
  (a27:PySem.W.nsIn K mainGlobals "_law_behind" = some (some (.ref f27)))
  (F27:∃ fd,Fun K "_law_behind" "_law_behind" s_law_behind f27 fd)
  (a28:PySem.W.nsIn K mainGlobals "_law_table" = some (some (.ref f28)))
  (F28:∃ fd,Fun K "_law_table" "_law_table" s_law_table f28 fd)
  (a29:PySem.W.nsIn K mainGlobals "_law_kinds" = some (some (.ref f29)))
  (F29:∃ fd,Fun K "_law_kinds" "_law_kinds" s_law_kinds f29 fd)
  (a30:PySem.W.nsIn K mainGlobals "_law_alike" = some (some (.ref f30)))
  (F30:∃ fd,Fun K "_law_alike" "_law_alike" s_law_alike f30 fd)
  (a31:PySem.W.nsIn K mainGlobals "_law_due" = some (some (.ref f31)))
  (F31:∃ fd,Fun K "_law_due" "_law_due" s_law_due f31 fd)
  (a32:PySem.W.nsIn K mainGlobals "_law_shown" = some (some (.ref f32)))
  (F32:∃ fd,Fun K "_law_shown" "_law_shown" s_law_shown f32 fd)
  (a33:PySem.W.nsIn K mainGlobals "_law_judged" = some (some (.ref f33)))
  (F33:∃ fd,Fun K "_law_judged" "_law_judged" s_law_judged f33 fd)
  (a34:PySem.W.nsIn K mainGlobals "_law_put" = some (some (.ref f34)))
  (F34:∃ fd,Fun K "_law_put" "_law_put" s_law_put f34 fd)
  (a35:PySem.W.nsIn K mainGlobals "_law_some_halves" = some (some (.ref f35)))
  (F35:∃ fd,Fun K "_law_some_halves" "_law_some_halves" s_law_some_halves f35 fd)
  (a36:PySem.W.nsIn K mainGlobals "law" = some (some (.ref f36)))
  (F36:∃ fd,Fun K "law" "law" s_law f36 fd)
  (z_abs:PySem.W.nsIn K mainGlobals "abs" = some none)
  (z_all:PySem.W.nsIn K mainGlobals "all" = some none)
  (z_bool:PySem.W.nsIn K mainGlobals "bool" = some none)
  (z_enumerate:PySem.W.nsIn K mainGlobals "enumerate" = some none)
  (z_int:PySem.W.nsIn K mainGlobals "int" = some none)
  (z_isinstance:PySem.W.nsIn K mainGlobals "isinstance" = some none)
  (z_len:PySem.W.nsIn K mainGlobals "len" = some none)
  (z_list:PySem.W.nsIn K mainGlobals "list" = some none)
  (z_range:PySem.W.nsIn K mainGlobals "range" = some none)
  (z_set:PySem.W.nsIn K mainGlobals "set" = some none)
  (z_sorted:PySem.W.nsIn K mainGlobals "sorted" = some none)
  (z_str:PySem.W.nsIn K mainGlobals "str" = some none)
  (z_tuple:PySem.W.nsIn K mainGlobals "tuple" = some none)
  (z_zip:PySem.W.nsIn K mainGlobals "zip" = some none)
  (aK_BOXES:PySem.W.nsIn K mainGlobals "BOXES" = some (some (.int (8) tk_BOXES)))
  (aK_GAINS:PySem.W.nsIn K mainGlobals "GAINS" = some (some (.ref gK_GAINS))) (kK_GAINS:rdK K 6 (.ref gK_GAINS) = some kd_GAINS)
  (aK_USES:PySem.W.nsIn K mainGlobals "USES" = some (some (.ref gK_USES))) (kK_USES:rdK K 6 (.ref gK_USES) = some kd_USES)
  (aK_WRITERS:PySem.W.nsIn K mainGlobals "WRITERS" = some (some (.ref gK_WRITERS))) (kK_WRITERS:rdK K 6 (.ref gK_WRITERS) = some kd_WRITERS) :
  ∃ fd:FuncData,(∀ (s:Shared) (v:Value),BindsTo s fd ⟨[v],[]⟩ [("script",v)])∧∀ base:Heap,K.In base->base.Ns mainGlobals mg->FnOk l.prog w K mg base CX0 10 fa fd ["script"] (spLaw K):=by
 have e:=hfa.symm.trans (PySem.W.mg_of X G a36)
 cases e
 obtain ⟨_,F0⟩:=F0
 have b0:=F0.binds (ps:=["rows","at"]) fun _ _ _ _ _ _ us hl=>by obtain ⟨_,_,rfl⟩:=lq2 us hl; rfl
 obtain ⟨_,F1⟩:=F1
 have b1:=F1.binds (ps:=["program","f","row"]) fun _ _ _ _ _ _ us hl=>by obtain ⟨_,_,_,rfl⟩:=lq3 us hl; rfl
 obtain ⟨_,F2⟩:=F2
 have b2:=F2.binds (ps:=["row"]) fun _ _ _ _ _ _ us hl=>by obtain ⟨_,rfl⟩:=lq1 us hl; rfl
 obtain ⟨_,F3⟩:=F3
 have b3:=F3.binds (ps:=["row"]) fun _ _ _ _ _ _ us hl=>by obtain ⟨_,rfl⟩:=lq1 us hl; rfl
 obtain ⟨_,F4⟩:=F4
 have b4:=F4.binds (ps:=["program","f"]) fun _ _ _ _ _ _ us hl=>by obtain ⟨_,_,rfl⟩:=lq2 us hl; rfl
 obtain ⟨_,F5⟩:=F5
 have b5:=F5.binds (ps:=["rows"]) fun _ _ _ _ _ _ us hl=>by obtain ⟨_,rfl⟩:=lq1 us hl; rfl
 obtain ⟨_,F6⟩:=F6
 have b6:=F6.binds (ps:=["kind"]) fun _ _ _ _ _ _ us hl=>by obtain ⟨_,rfl⟩:=lq1 us hl; rfl
 obtain ⟨_,F7⟩:=F7
 have b7:=F7.binds (ps:=["f","tables"]) fun _ _ _ _ _ _ us hl=>by obtain ⟨_,_,rfl⟩:=lq2 us hl; rfl
 obtain ⟨_,F8⟩:=F8
 have b8:=F8.binds (ps:=["program","f"]) fun _ _ _ _ _ _ us hl=>by obtain ⟨_,_,rfl⟩:=lq2 us hl; rfl
 obtain ⟨_,F9⟩:=F9
 have b9:=F9.binds (ps:=["p","kind"]) fun _ _ _ _ _ _ us hl=>by obtain ⟨_,_,rfl⟩:=lq2 us hl; rfl
 obtain ⟨_,F10⟩:=F10
 have b10:=F10.binds (ps:=["p","kind","table"]) fun _ _ _ _ _ _ us hl=>by obtain ⟨_,_,_,rfl⟩:=lq3 us hl; rfl
 obtain ⟨_,F11⟩:=F11
 have b11:=F11.binds (ps:=["program","row","kinds"]) fun _ _ _ _ _ _ us hl=>by obtain ⟨_,_,_,rfl⟩:=lq3 us hl; rfl
 obtain ⟨_,F12⟩:=F12
 have b12:=F12.binds (ps:=["program","f","at","kinds","table"]) fun _ _ _ _ _ _ us hl=>by obtain ⟨_,_,_,_,_,rfl⟩:=lq5 us hl; rfl
 obtain ⟨_,F13⟩:=F13
 have b13:=F13.binds (ps:=["kinds","others"]) fun _ _ _ _ _ _ us hl=>by obtain ⟨_,_,rfl⟩:=lq2 us hl; rfl
 obtain ⟨_,F14⟩:=F14
 have b14:=F14.binds (ps:=["program","f","tables"]) fun _ _ _ _ _ _ us hl=>by obtain ⟨_,_,_,rfl⟩:=lq3 us hl; rfl
 obtain ⟨_,F15⟩:=F15
 have b15:=F15.binds (ps:=["program","f","at","table"]) fun _ _ _ _ _ _ us hl=>by obtain ⟨_,_,_,_,rfl⟩:=lq4 us hl; rfl
 obtain ⟨_,F16⟩:=F16
 have b16:=F16.binds (ps:=["met","at","kinds","due"]) fun _ _ _ _ _ _ us hl=>by obtain ⟨_,_,_,_,rfl⟩:=lq4 us hl; rfl
 obtain ⟨_,F17⟩:=F17
 have b17:=F17.binds (ps:=["program","f","told","at","p","due"]) fun _ _ _ _ _ _ us hl=>by obtain ⟨_,_,_,_,_,_,rfl⟩:=lq6 us hl; rfl
 obtain ⟨_,F18⟩:=F18
 have b18:=F18.binds (ps:=["program","f","tables"]) fun _ _ _ _ _ _ us hl=>by obtain ⟨_,_,_,rfl⟩:=lq3 us hl; rfl
 obtain ⟨_,F19⟩:=F19
 have b19:=F19.binds (ps:=["program","tables"]) fun _ _ _ _ _ _ us hl=>by obtain ⟨_,_,rfl⟩:=lq2 us hl; rfl
 obtain ⟨_,F20⟩:=F20
 have b20:=F20.binds (ps:=["script"]) fun _ _ _ _ _ _ us hl=>by obtain ⟨_,rfl⟩:=lq1 us hl; rfl
 obtain ⟨_,F21⟩:=F21
 have b21:=F21.binds (ps:=["bag","many"]) fun _ _ _ _ _ _ us hl=>by obtain ⟨_,_,rfl⟩:=lq2 us hl; rfl
 obtain ⟨_,F22⟩:=F22
 have b22:=F22.binds (ps:=["rows","at"]) fun _ _ _ _ _ _ us hl=>by obtain ⟨_,_,rfl⟩:=lq2 us hl; rfl
 obtain ⟨_,F23⟩:=F23
 have b23:=F23.binds (ps:=["row"]) fun _ _ _ _ _ _ us hl=>by obtain ⟨_,rfl⟩:=lq1 us hl; rfl
 obtain ⟨_,F24⟩:=F24
 have b24:=F24.binds (ps:=["program","f","row"]) fun _ _ _ _ _ _ us hl=>by obtain ⟨_,_,_,rfl⟩:=lq3 us hl; rfl
 obtain ⟨_,F25⟩:=F25
 have b25:=F25.binds (ps:=["program","f"]) fun _ _ _ _ _ _ us hl=>by obtain ⟨_,_,rfl⟩:=lq2 us hl; rfl
 obtain ⟨_,F26⟩:=F26
 have b26:=F26.binds (ps:=["row","kinds","table"]) fun _ _ _ _ _ _ us hl=>by obtain ⟨_,_,_,rfl⟩:=lq3 us hl; rfl
 obtain ⟨_,F27⟩:=F27
 have b27:=F27.binds (ps:=["program","row","kinds","table"]) fun _ _ _ _ _ _ us hl=>by obtain ⟨_,_,_,_,rfl⟩:=lq4 us hl; rfl
 obtain ⟨_,F28⟩:=F28
 have b28:=F28.binds (ps:=["tables","f","at"]) fun _ _ _ _ _ _ us hl=>by obtain ⟨_,_,_,rfl⟩:=lq3 us hl; rfl
 obtain ⟨_,F29⟩:=F29
 have b29:=F29.binds (ps:=["program","f","tables"]) fun _ _ _ _ _ _ us hl=>by obtain ⟨_,_,_,rfl⟩:=lq3 us hl; rfl
 obtain ⟨_,F30⟩:=F30
 have b30:=F30.binds (ps:=["found","due"]) fun _ _ _ _ _ _ us hl=>by obtain ⟨_,_,rfl⟩:=lq2 us hl; rfl
 obtain ⟨_,F31⟩:=F31
 have b31:=F31.binds (ps:=["program","tables"]) fun _ _ _ _ _ _ us hl=>by obtain ⟨_,_,rfl⟩:=lq2 us hl; rfl
 obtain ⟨_,F32⟩:=F32
 have b32:=F32.binds (ps:=["program","tables","due","way"]) fun _ _ _ _ _ _ us hl=>by obtain ⟨_,_,_,_,rfl⟩:=lq4 us hl; rfl
 obtain ⟨_,F33⟩:=F33
 have b33:=F33.binds (ps:=["program","tables"]) fun _ _ _ _ _ _ us hl=>by obtain ⟨_,_,rfl⟩:=lq2 us hl; rfl
 obtain ⟨_,F34⟩:=F34
 have b34:=F34.binds (ps:=["bag","p"]) fun _ _ _ _ _ _ us hl=>by obtain ⟨_,_,rfl⟩:=lq2 us hl; rfl
 obtain ⟨_,F35⟩:=F35
 have b35:=F35.binds (ps:=["bag","holds"]) fun _ _ _ _ _ _ us hl=>by obtain ⟨_,_,rfl⟩:=lq2 us hl; rfl
 obtain ⟨_,F36⟩:=F36
 obtain ⟨_,_,_,_,_,_,_,_,_,e_,_,_⟩:=F36.ex
 subst e_
 have b36:=F36.binds (ps:=["script"]) fun _ _ _ _ _ _ us hl=>by obtain ⟨_,rfl⟩:=lq1 us hl; rfl
 have T:Txt K mg ⟨_,_,_,_,_,_,_,_,_,_,_,_,_,_,_,_,_,_,_,_,_,_,_,_,_,_,_,_,_,_,_,_,_,_,_,_,_,_,_,_,_,_,_,_,_,_,_,_,_,_,_,_,_,_,_,_,_,_,_,_,_,_,_,_,_,_,_,_,_,_,_,_,_,_,_,_,_,_⟩:=⟨F0,b0,PySem.W.mg_of X G a0,F1,b1,PySem.W.mg_of X G a1,F2,b2,PySem.W.mg_of X G a2,F3,b3,PySem.W.mg_of X G a3,F4,b4,PySem.W.mg_of X G a4,F5,b5,PySem.W.mg_of X G a5,F6,b6,PySem.W.mg_of X G a6,F7,b7,PySem.W.mg_of X G a7,F8,b8,PySem.W.mg_of X G a8,F9,b9,PySem.W.mg_of X G a9,F10,b10,PySem.W.mg_of X G a10,F11,b11,PySem.W.mg_of X G a11,F12,b12,PySem.W.mg_of X G a12,F13,b13,PySem.W.mg_of X G a13,F14,b14,PySem.W.mg_of X G a14,F15,b15,PySem.W.mg_of X G a15,F16,b16,PySem.W.mg_of X G a16,F17,b17,PySem.W.mg_of X G a17,F18,b18,PySem.W.mg_of X G a18,F19,b19,PySem.W.mg_of X G a19,F20,b20,PySem.W.mg_of X G a20,F21,b21,PySem.W.mg_of X G a21,F22,b22,PySem.W.mg_of X G a22,F23,b23,PySem.W.mg_of X G a23,F24,b24,PySem.W.mg_of X G a24,F25,b25,PySem.W.mg_of X G a25,F26,b26,PySem.W.mg_of X G a26,F27,b27,PySem.W.mg_of X G a27,F28,b28,PySem.W.mg_of X G a28,F29,b29,PySem.W.mg_of X G a29,F30,b30,PySem.W.mg_of X G a30,F31,b31,PySem.W.mg_of X G a31,F32,b32,PySem.W.mg_of X G a32,F33,b33,PySem.W.mg_of X G a33,F34,b34,PySem.W.mg_of X G a34,F35,b35,PySem.W.mg_of X G a35,F36,b36,PySem.W.mg_of X G a36,PySem.W.mg_none_of X G z_abs,PySem.W.mg_none_of X G z_all,PySem.W.mg_none_of X G z_bool,PySem.W.mg_none_of X G z_enumerate,PySem.W.mg_none_of X G z_int,PySem.W.mg_none_of X G z_isinstance,PySem.W.mg_none_of X G z_len,PySem.W.mg_none_of X G z_list,PySem.W.mg_none_of X G z_range,PySem.W.mg_none_of X G z_set,PySem.W.mg_none_of X G z_sorted,PySem.W.mg_none_of X G z_str,PySem.W.mg_none_of X G z_tuple,PySem.W.mg_none_of X G z_zip,PySem.W.mg_of X G aK_BOXES,PySem.W.mg_of X G aK_GAINS,kK_GAINS,PySem.W.mg_of X G aK_USES,kK_USES,PySem.W.mg_of X G aK_WRITERS,kK_WRITERS⟩
 exact ⟨_,fun s v=>.of_eq rfl,fun base _ _=>zii T⟩
theorem walk {l:PySem.W.OpenLaw} {q:Program} {loose:List Str} {XP:(Str->Option Value)->Heap->Prop} {YP:World->Heap->Prop} {d:DefRec} {K:Params->PySem.W.Frag} (hn:l.most = some 63) (hdf:d.params.defaults = [])
  (hY:∀ (w:World) (h:Heap),YP w h->(K w.params).In h)
  (F:∀ (w:World) (mg:Str->Option Value) (fa:Addr) (h:Heap),(K w.params).In h->h.Ns mainGlobals mg->mg d.name = some (.ref fa) ->
   ∃ fd:FuncData,(∀ (s:Shared) (u:Value),BindsTo s fd ⟨[u],[]⟩ [("script",u)])∧∀ base:Heap,(K w.params).In base->base.Ns mainGlobals mg->FnOk l.prog w (K w.params) mg base CX0 10 fa fd ["script"] (spLaw (K w.params))) :
  PySem.W.WalkO q loose XP YP l.row.toRowW d [] (fun f vs=>PySem.call f vs) :=
 L2.walk_of (n:=63) (k:=10) (x:="script") (CX:=fun w=>CX0) (sp:=fun w=>spLaw (K w.params)) hn (by decide) hdf ⟨rfl,by decide,by decide⟩ hY F (fun _ _ a ns hl _ hS=>⟨a,ns,rfl,hS,hl,fun _=>rfl⟩) fun _ _ _ _ _ z=>z
end Law
open PySem PySem.W PyProof.Rows
namespace PySem.W.Fast
theorem tw2159746237180613720 :True:=⟨⟩
theorem tw6904869082785077822 :True:=⟨⟩
theorem tw14294375145336533333 :True:=⟨⟩
theorem tw2655326223059873242 :True:=⟨⟩
theorem tw11917313550237478464 :True:=⟨⟩
theorem tw5610201431333498798 :True:=⟨⟩
theorem tw5327608322011584503 :True:=⟨⟩
theorem tw13818638734881964853 :True:=⟨⟩
theorem tw13642155838191697232 :True:=⟨⟩
theorem tw1878609834377187711 :True:=⟨⟩
theorem tw6661043128649072826 :True:=⟨⟩
theorem tw12410476810803267995 :True:=⟨⟩
theorem tw15159663458748539176 :True:=⟨⟩
theorem tw14447969806412103106 :True:=⟨⟩
theorem tw10720130133085311508 :True:=⟨⟩
theorem tw12845551481981429386 :True:=⟨⟩
theorem tw18081915040552782332 :True:=⟨⟩
theorem tw8892475421611358965 :True:=⟨⟩
theorem tw5098673064772641825 :True:=⟨⟩
theorem tw8356506691190051799 :True:=⟨⟩
theorem tw4220557563537482584 :True:=⟨⟩
theorem tw11644258233485645770 :True:=⟨⟩
theorem tw9009749427800713517 :True:=⟨⟩
theorem tw11392276959088488323 :True:=⟨⟩
theorem tw6857636836270634997 :True:=⟨⟩
theorem tw11385049414952182388 :True:=⟨⟩
theorem tw13119934957903798110 :True:=⟨⟩
theorem tw7762850875379722666 :True:=⟨⟩
theorem tw6585221113109507705 :True:=⟨⟩
theorem tw11772112580266260892 :True:=⟨⟩
theorem tw17958943796587199602 :True:=⟨⟩
theorem tw2311232105592544098 :True:=⟨⟩
theorem tw3430725809955729272 :True:=⟨⟩
theorem tw3660640746163354408 :True:=⟨⟩
theorem tw9888573386581730022 :True:=⟨⟩
theorem tw1145107380489883901 :True:=⟨⟩
theorem tw17641175860126410166 :True:=⟨⟩
theorem tw9333525636917223805 :True:=⟨⟩
theorem tw13100969395594582742 :True:=⟨⟩
theorem tw5963593623058114263 :True:=⟨⟩
theorem tw16242079315380171223 :True:=⟨⟩
theorem tw5178261105350930481 :True:=⟨⟩
theorem tw6246379281123330712 :True:=⟨⟩
theorem tw15307867808411878830 :True:=⟨⟩
theorem tw13064115445737325631 :True:=⟨⟩
theorem tw4926063403361266508 :True:=⟨⟩
theorem tw16441137444599167256 :True:=⟨⟩
theorem tw5688921360863075901 :True:=⟨⟩
theorem tw15681089253826394341 :True:=⟨⟩
theorem tw6690596458536784857 :True:=⟨⟩
theorem tw12577615376034453302 :True:=⟨⟩
theorem tw2766213115363456294 :True:=⟨⟩
theorem tw14083083922986870819 :True:=⟨⟩
theorem tw4773138410405465935 :True:=⟨⟩
theorem tw6673135206729109048 :True:=⟨⟩
theorem tw13937106685067735778 :True:=⟨⟩
theorem tw8834790089008598722 :True:=⟨⟩
theorem tw9531917046381988980 :True:=⟨⟩
theorem tw3042521217861730380 :True:=⟨⟩
theorem tw5384332729214479696 :True:=⟨⟩
theorem tw5209761804261255134 :True:=⟨⟩
theorem tw10793653928146076364 :True:=⟨⟩
theorem tw3096823897758303403 :True:=⟨⟩
theorem tw11084637530831530394 :True:=⟨⟩
theorem tw2213584838399895696 :True:=⟨⟩
theorem tw4035727302487408816 :True:=⟨⟩
theorem tw7890941226579823158 :True:=⟨⟩
theorem tw7239393290333788771 :True:=⟨⟩
theorem tw9178667774872795 :True:=⟨⟩
theorem tw9822808854323758329 :True:=⟨⟩
theorem tw16550695351332415805 :True:=⟨⟩
theorem tw17776668965351391480 :True:=⟨⟩
theorem tw6512739923753994820 :True:=⟨⟩
theorem tw11720776847046373008 :True:=⟨⟩
theorem tw16754274881860450065 :True:=⟨⟩
theorem tw12042429391100746837 :True:=⟨⟩
theorem tw9967215408487514163 :True:=⟨⟩
theorem tw13339917314246341297 :True:=⟨⟩
theorem tw1680777409996770715 :True:=⟨⟩
theorem tw2465406682119775860 :True:=⟨⟩
theorem tw18249247742843192638 :True:=⟨⟩
theorem tw9883384409293270266 :True:=⟨⟩
theorem tw10988855937825885680 :True:=⟨⟩
theorem tw8957225904452873341 :True:=⟨⟩
theorem tw11937429665339909882 :True:=⟨⟩
theorem tw16010274286302593483 :True:=⟨⟩
theorem tw9393829527507961197 :True:=⟨⟩
theorem tw18267154877724543298 :True:=⟨⟩
theorem tw12184976238680761493 :True:=⟨⟩
theorem tw13339773304222217691 :True:=⟨⟩
theorem tw8887949734199698537 :True:=⟨⟩
theorem tw10172893050878663811 :True:=⟨⟩
theorem tw10724637100989168240 :True:=⟨⟩
theorem tw3504515509403802670 :True:=⟨⟩
theorem tw2684465463829982954 :True:=⟨⟩
theorem tw3568104016279752330 :True:=⟨⟩
theorem tw15391174674402948984 :True:=⟨⟩
theorem tw12532940200916453973 :True:=⟨⟩
theorem tw14889890456265082477 :True:=⟨⟩
theorem tw14678552720697018577 :True:=⟨⟩
theorem tw16803996971005810345 :True:=⟨⟩
theorem tw5917933758672758380 :True:=⟨⟩
theorem tw8975031419193827693 :True:=⟨⟩
theorem tw15662866696124495719 :True:=⟨⟩
theorem tw11171079543768362510 :True:=⟨⟩
theorem tw16224624647098846187 :True:=⟨⟩
theorem tw11713989338517045299 :True:=⟨⟩
theorem tw15650046443629162902 :True:=⟨⟩
theorem tw18121981771007138109 :True:=⟨⟩
theorem tw10251216925118882493 :True:=⟨⟩
theorem tw2053774171018052 :True:=⟨⟩
theorem tw17758750225927058518 :True:=⟨⟩
theorem tw6036267692898796425 :True:=⟨⟩
theorem tw11613742551092136062 :True:=⟨⟩
theorem tw2773954480142997247 :True:=⟨⟩
theorem tw8539213487258756919 :True:=⟨⟩
theorem tw13295917609505186893 :True:=⟨⟩
theorem tw8852430986339931526 :True:=⟨⟩
theorem tw17467861463784244376 :True:=⟨⟩
theorem tw12942013187020305334 :True:=⟨⟩
theorem tw4829835792854694744 :True:=⟨⟩
theorem tw8520818321154611635 :True:=⟨⟩
theorem tw14256712916899755922 :True:=⟨⟩
theorem tw10873469288920081783 :True:=⟨⟩
theorem tw14550833339088479356 :True:=⟨⟩
theorem tw10486155434093811347 :True:=⟨⟩
theorem tw12000096206627006170 :True:=⟨⟩
theorem tw5220715453693816330 :True:=⟨⟩
theorem tw360503871459545929 :True:=⟨⟩
theorem tw11469274727906159385 :True:=⟨⟩
theorem tw6074165208170973660 :True:=⟨⟩
theorem tw1806656947932516854 :True:=⟨⟩
theorem tw97746489258362672 :True:=⟨⟩
theorem tw927733615053667730 :True:=⟨⟩
theorem tw5602683173534539943 :True:=⟨⟩
theorem tw7071456719190098904 :True:=⟨⟩
theorem tw3516580721213217528 :True:=⟨⟩
theorem tw11869136567629533762 :True:=⟨⟩
theorem tw18333270227152000080 :True:=⟨⟩
theorem tw5462741392776168555 :True:=⟨⟩
theorem tw2569484148206624891 :True:=⟨⟩
theorem tw16907275743055743659 :True:=⟨⟩
theorem tw5973357248329187612 :True:=⟨⟩
theorem tw9865634579985642175 :True:=⟨⟩
theorem tw15073635612670114219 :True:=⟨⟩
theorem tw3456610855293768893 :True:=⟨⟩
theorem tw1148832101838328785 :True:=⟨⟩
theorem tw18028955186115331345 :True:=⟨⟩
theorem tw621704197815552829 :True:=⟨⟩
theorem tw10729577281654447203 :True:=⟨⟩
theorem tw16660172346615101106 :True:=⟨⟩
theorem tw5898607227589112228 :True:=⟨⟩
theorem tw4057785236835451563 :True:=⟨⟩
theorem tw2647761706050265042 :True:=⟨⟩
theorem tw17760422218544121336 :True:=⟨⟩
theorem tw15179081603848969547 :True:=⟨⟩
theorem tw14319269141495834064 :True:=⟨⟩
theorem tw6058378606030256997 :True:=⟨⟩
theorem tw3813951238558750414 :True:=⟨⟩
theorem tw13182419493353768593 :True:=⟨⟩
theorem tw11730598813487187140 :True:=⟨⟩
theorem tw5761980494729938944 :True:=⟨⟩
theorem tw8601532891267512156 :True:=⟨⟩
theorem tw8476046132780624625 :True:=⟨⟩
theorem tw17080577048166116658 :True:=⟨⟩
theorem tw10199759607252216811 :True:=⟨⟩
theorem tw4984957646901505771 :True:=⟨⟩
theorem tw16958880593336606035 :True:=⟨⟩
theorem tw18193530468901659357 :True:=⟨⟩
theorem tw7139278742317489215 :True:=⟨⟩
theorem tw753974795042661806 :True:=⟨⟩
theorem tw15593899271520834372 :True:=⟨⟩
theorem tw2546044506850870472 :True:=⟨⟩
theorem tw6202665842106483779 :True:=⟨⟩
theorem tw3702727952666173789 :True:=⟨⟩
theorem tw5345232247597431991 :True:=⟨⟩
theorem tw15887091973516344355 :True:=⟨⟩
theorem tw7801349685469310297 :True:=⟨⟩
theorem tw17709049713516130701 :True:=⟨⟩
theorem tw4552693336824541128 :True:=⟨⟩
theorem tw13122425253617201073 :True:=⟨⟩
theorem tw5813714802281034586 :True:=⟨⟩
theorem tw1479303034259519016 :True:=⟨⟩
theorem tw11919252525209356757 :True:=⟨⟩
theorem tw13822292706693096468 :True:=⟨⟩
theorem tw15716364804568896641 :True:=⟨⟩
theorem tw8165673252009303200 :True:=⟨⟩
theorem tw3495322450189852176 :True:=⟨⟩
theorem tw5347792772164559075 :True:=⟨⟩
theorem tw14443656738052304331 :True:=⟨⟩
theorem tw14265014216843325667 :True:=⟨⟩
theorem tw10322560045184575213 :True:=⟨⟩
theorem tw14829035864592705019 :True:=⟨⟩
theorem tw15528997972233492686 :True:=⟨⟩
theorem tw12375783605106973664 :True:=⟨⟩
theorem tw2344370147374323307 :True:=⟨⟩
theorem tw3560108393706111957 :True:=⟨⟩
theorem tw13021461089701220834 :True:=⟨⟩
theorem tw8261918462414104319 :True:=⟨⟩
theorem tw3909294885545971061 :True:=⟨⟩
theorem tw2799294782733267827 :True:=⟨⟩
theorem tw15853798781279086721 :True:=⟨⟩
theorem tw11814476537713216299 :True:=⟨⟩
theorem tw563599543790103885 :True:=⟨⟩
theorem tw13516355148713620997 :True:=⟨⟩
theorem tw10701256330168143435 :True:=⟨⟩
theorem tw12353230241276180998 :True:=⟨⟩
theorem tw14655983987026064341 :True:=⟨⟩
theorem tw10581511277931780759 :True:=⟨⟩
theorem tw4848133582973324774 :True:=⟨⟩
theorem tw12659126390452326287 :True:=⟨⟩
theorem tw14626196563907689670 :True:=⟨⟩
theorem tw7034228878467293949 :True:=⟨⟩
theorem tw8682094533070709687 :True:=⟨⟩
theorem tw15033010020672362345 :True:=⟨⟩
theorem tw12029229633668285348 :True:=⟨⟩
theorem tw2085238288209225489 :True:=⟨⟩
theorem tw9953054155318010190 :True:=⟨⟩
theorem tw6740971526006664006 :True:=⟨⟩
theorem tw6260410234782822995 :True:=⟨⟩
theorem tw7934775066394382407 :True:=⟨⟩
theorem tw2197691282762844600 :True:=⟨⟩
theorem tw17647974806202900532 :True:=⟨⟩
theorem tw12479292386919605758 :True:=⟨⟩
theorem tw15892825186730219896 :True:=⟨⟩
theorem tw17945341900015309131 :True:=⟨⟩
theorem tw9654506204505361142 :True:=⟨⟩
theorem tw2917794780124738152 :True:=⟨⟩
theorem tw2517872987876708650 :True:=⟨⟩
theorem tw9559357052263408634 :True:=⟨⟩
theorem tw1302065315784646274 :True:=⟨⟩
theorem tw10552113555013809155 :True:=⟨⟩
theorem tw8179185353366444009 :True:=⟨⟩
theorem tw4294579236760699031 :True:=⟨⟩
theorem tw10093452235856500553 :True:=⟨⟩
theorem tw17845365441608195458 :True:=⟨⟩
theorem tw3726374685482375674 :True:=⟨⟩
theorem tw16746807393100605003 :True:=⟨⟩
theorem tw11396926175372669066 :True:=⟨⟩
theorem tw13900975529926089509 :True:=⟨⟩
theorem tw338474242675249149 :True:=⟨⟩
theorem tw10244479418309151439 :True:=⟨⟩
theorem tw9590265290023847210 :True:=⟨⟩
theorem tw17615849509608069605 :True:=⟨⟩
theorem tw3611772073620918836 :True:=⟨⟩
theorem tw11636655196912718897 :True:=⟨⟩
theorem tw11501976813779137089 :True:=⟨⟩
theorem tw18417984867192824682 :True:=⟨⟩
theorem tw3422010863051873963 :True:=⟨⟩
theorem tw8695066384063307767 :True:=⟨⟩
theorem tw7863381615513234186 :True:=⟨⟩
theorem tw2452210361704738146 :True:=⟨⟩
theorem tw6660274325059028969 :True:=⟨⟩
theorem tw2781465764086475110 :True:=⟨⟩
end PySem.W.Fast
set_option maxRecDepth 100000 in
set_option maxHeartbeats 0 in
theorem PySem.Challenge.cw_knownholds_k36_the_first_fault_holds : PySem.Challenge.rw_knownholds_k36_the_first_fault.Holds := by
 w_on; o_law; k_head; (case hw=>w_witness2)
 k_fill
 refine Law.walk (l := PySem.Challenge.rw_knownholds_k36_the_first_fault) rfl rfl (fun w h Y => PySem.W.kIn_of Y) ?F
 case F =>
  intro w mg fa h KX G hmg
  refine' Law.all_mk KX G hmg ?a0 ?F0 ?a1 ?F1 ?a2 ?F2 ?a3 ?F3 ?a4 ?F4 ?a5 ?F5 ?a6 ?F6 ?a7 ?F7 ?a8 ?F8 ?a9 ?F9 ?a10 ?F10 ?a11 ?F11 ?a12 ?F12 ?a13 ?F13 ?a14 ?F14 ?a15 ?F15 ?a16 ?F16 ?a17 ?F17 ?a18 ?F18 ?a19 ?F19 ?a20 ?F20 ?a21 ?F21 ?a22 ?F22 ?a23 ?F23 ?a24 ?F24 ?a25 ?F25 ?a26 ?F26 ?a27 ?F27 ?a28 ?F28 ?a29 ?F29 ?a30 ?F30 ?a31 ?F31 ?a32 ?F32 ?a33 ?F33 ?a34 ?F34 ?a35 ?F35 ?a36 ?F36 ?z_abs ?z_all ?z_bool ?z_enumerate ?z_int ?z_isinstance ?z_len ?z_list ?z_range ?z_set ?z_sorted ?z_str ?z_tuple ?z_zip ?aK_BOXES ?aK_GAINS ?kK_GAINS ?aK_USES ?kK_USES ?aK_WRITERS ?kK_WRITERS
  (case a0=>k_is)
  (case F0=>exact ⟨_,L2.fun_mk (by k_is) (by k_is) (by k_is)⟩)
  (case a1=>k_is)
  (case F1=>exact ⟨_,L2.fun_mk (by k_is) (by k_is) (by k_is)⟩)
  (case a2=>k_is)
  (case F2=>exact ⟨_,L2.fun_mk (by k_is) (by k_is) (by k_is)⟩)
  (case a3=>k_is)
  (case F3=>exact ⟨_,L2.fun_mk (by k_is) (by k_is) (by k_is)⟩)
  (case a4=>k_is)
  (case F4=>exact ⟨_,L2.fun_mk (by k_is) (by k_is) (by k_is)⟩)
  (case a5=>k_is)
  (case F5=>exact ⟨_,L2.fun_mk (by k_is) (by k_is) (by k_is)⟩)
  (case a6=>k_is)
  (case F6=>exact ⟨_,L2.fun_mk (by k_is) (by k_is) (by k_is)⟩)
  (case a7=>k_is)
  (case F7=>exact ⟨_,L2.fun_mk (by k_is) (by k_is) (by k_is)⟩)
  (case a8=>k_is)
  (case F8=>exact ⟨_,L2.fun_mk (by k_is) (by k_is) (by k_is)⟩)
  (case a9=>k_is)
  (case F9=>exact ⟨_,L2.fun_mk (by k_is) (by k_is) (by k_is)⟩)
  (case a10=>k_is)
  (case F10=>exact ⟨_,L2.fun_mk (by k_is) (by k_is) (by k_is)⟩)
  (case a11=>k_is)
  (case F11=>exact ⟨_,L2.fun_mk (by k_is) (by k_is) (by k_is)⟩)
  (case a12=>k_is)
  (case F12=>exact ⟨_,L2.fun_mk (by k_is) (by k_is) (by k_is)⟩)
  (case a13=>k_is)
  (case F13=>exact ⟨_,L2.fun_mk (by k_is) (by k_is) (by k_is)⟩)
  (case a14=>k_is)
  (case F14=>exact ⟨_,L2.fun_mk (by k_is) (by k_is) (by k_is)⟩)
  (case a15=>k_is)
  (case F15=>exact ⟨_,L2.fun_mk (by k_is) (by k_is) (by k_is)⟩)
  (case a16=>k_is)
  (case F16=>exact ⟨_,L2.fun_mk (by k_is) (by k_is) (by k_is)⟩)
  (case a17=>k_is)
  (case F17=>exact ⟨_,L2.fun_mk (by k_is) (by k_is) (by k_is)⟩)
  (case a18=>k_is)
  (case F18=>exact ⟨_,L2.fun_mk (by k_is) (by k_is) (by k_is)⟩)
  (case a19=>k_is)
  (case F19=>exact ⟨_,L2.fun_mk (by k_is) (by k_is) (by k_is)⟩)
  (case a20=>k_is)
  (case F20=>exact ⟨_,L2.fun_mk (by k_is) (by k_is) (by k_is)⟩)
  (case a21=>k_is)
  (case F21=>exact ⟨_,L2.fun_mk (by k_is) (by k_is) (by k_is)⟩)
  (case a22=>k_is)
  (case F22=>exact ⟨_,L2.fun_mk (by k_is) (by k_is) (by k_is)⟩)
  (case a23=>k_is)
  (case F23=>exact ⟨_,L2.fun_mk (by k_is) (by k_is) (by k_is)⟩)
  (case a24=>k_is)
  (case F24=>exact ⟨_,L2.fun_mk (by k_is) (by k_is) (by k_is)⟩)
  (case a25=>k_is)
  (case F25=>exact ⟨_,L2.fun_mk (by k_is) (by k_is) (by k_is)⟩)
  (case a26=>k_is)
  (case F26=>exact ⟨_,L2.fun_mk (by k_is) (by k_is) (by k_is)⟩)
  (case a27=>k_is)
  (case F27=>exact ⟨_,L2.fun_mk (by k_is) (by k_is) (by k_is)⟩)
  (case a28=>k_is)
  (case F28=>exact ⟨_,L2.fun_mk (by k_is) (by k_is) (by k_is)⟩)
  (case a29=>k_is)
  (case F29=>exact ⟨_,L2.fun_mk (by k_is) (by k_is) (by k_is)⟩)
  (case a30=>k_is)
  (case F30=>exact ⟨_,L2.fun_mk (by k_is) (by k_is) (by k_is)⟩)
  (case a31=>k_is)
  (case F31=>exact ⟨_,L2.fun_mk (by k_is) (by k_is) (by k_is)⟩)
  (case a32=>k_is)
  (case F32=>exact ⟨_,L2.fun_mk (by k_is) (by k_is) (by k_is)⟩)
  (case a33=>k_is)
  (case F33=>exact ⟨_,L2.fun_mk (by k_is) (by k_is) (by k_is)⟩)
  (case a34=>k_is)
  (case F34=>exact ⟨_,L2.fun_mk (by k_is) (by k_is) (by k_is)⟩)
  (case a35=>k_is)
  (case F35=>exact ⟨_,L2.fun_mk (by k_is) (by k_is) (by k_is)⟩)
  (case a36=>k_is)
  (case F36=>exact ⟨_,L2.fun_mk (by k_is) (by k_is) (by k_is)⟩)
  (case z_abs=>k_is)
  (case z_all=>k_is)
  (case z_bool=>k_is)
  (case z_enumerate=>k_is)
  (case z_int=>k_is)
  (case z_isinstance=>k_is)
  (case z_len=>k_is)
  (case z_list=>k_is)
  (case z_range=>k_is)
  (case z_set=>k_is)
  (case z_sorted=>k_is)
  (case z_str=>k_is)
  (case z_tuple=>k_is)
  (case z_zip=>k_is)
  (case aK_BOXES=>k_is)
  (case aK_GAINS=>k_is)
  (case kK_GAINS=>kernel_rfl)
  (case aK_USES=>k_is)
  (case kK_USES=>kernel_rfl)
  (case aK_WRITERS=>k_is)
  (case kK_WRITERS=>kernel_rfl)
