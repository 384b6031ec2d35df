import PyProof.Rows.All
import Wide.All
import OpenK.AllK
import Wide.FinOn
import PyProof.EqAt
import PyProof.EqKinds
import PyProof.TupleCall
import KE.BitLaws
import Open.SpecLaws
import KE.OsHead
import KE.OsGo
import PySem.Challenge.RW_costhedge_s01_answers
set_option Elab.async false
set_option linter.all false
set_option maxRecDepth 100000
set_option maxHeartbeats 2000000
namespace L2
open PySem PySem.Spec PyProof.Rows
abbrev Key := Sum Int Str
def keyIs : Key -> Value -> Bool
 | .inl k,v => Value.isInt k v
 | .inr x,v => Value.isStrOf x v
def keyH (w : World) : Key -> Int
 | .inl k => hashInt k
 | .inr x => hashStr w x
theorem keyIs_shape : ∀ {k : Key} {v : Value},keyIs k v = true -> (∃ i t,k = Sum.inl i /\ v = Value.int i t) \/ (∃ x t,k = Sum.inr x /\ v = Value.str x t)
 | .inl i,v,h => by
  obtain ⟨t,e⟩ := Value.isInt_shape (k := i) (v := v) h
  exact .inl ⟨i,t,rfl,e⟩
 | .inr x,v,h => by
  obtain ⟨t,e⟩ := Value.isStrOf_shape (x := x) (v := v) h
  exact .inr ⟨x,t,rfl,e⟩
theorem key_ll (a b : Int) : decide ((Sum.inl a : Key) = Sum.inl b) = (a == b) := by
 by_cases e : a = b
 ·subst e; simp
 ·have h : ¬ (Sum.inl a : Key) = Sum.inl b := fun q => e (Sum.inl.inj q)
  rw [decide_eq_false h]
  exact (beq_eq_false_iff_ne.mpr e).symm
theorem key_rr (a b : Str) : decide ((Sum.inr a : Key) = Sum.inr b) = decide (a = b) := by
 by_cases e : a = b
 ·subst e; simp
 ·have h : ¬ (Sum.inr a : Key) = Sum.inr b := fun q => e (Sum.inr.inj q)
  rw [decide_eq_false h,decide_eq_false e]
theorem key_lr (a : Int) (b : Str) : decide ((Sum.inl a : Key) = Sum.inr b) = false := decide_eq_false (fun q => nomatch q)
theorem key_rl (a : Str) (b : Int) : decide ((Sum.inr a : Key) = Sum.inl b) = false := decide_eq_false (fun q => nomatch q)
def mixKind (prog : Program) (w : World) : PySem.KeyKind prog w Key where
 is := keyIs
 hash := keyH w
 inj := fun v a b ha hb => by
  rcases keyIs_shape ha with ⟨i,t,rfl,rfl⟩ | ⟨x,t,rfl,rfl⟩
  ·rcases keyIs_shape hb with ⟨j,u,rfl,e⟩ | ⟨y,u,rfl,e⟩
   ·injection e with e1 _; rw [e1]
   ·exact nomatch e
  ·rcases keyIs_shape hb with ⟨j,u,rfl,e⟩ | ⟨y,u,rfl,e⟩
   ·exact nomatch e
   ·injection e with e1 _; rw [e1]
 byValue := fun k v h => by
  rcases keyIs_shape h with ⟨i,t,rfl,rfl⟩ | ⟨x,t,rfl,rfl⟩ <;> rfl
 pyHash := fun hv h => by
  rcases keyIs_shape hv with ⟨i,t,rfl,rfl⟩ | ⟨x,t,rfl,rfl⟩
  ·exact wpAny_pyHash_int h
  ·exact wpAny_pyHash_str h
 eqBool := fun hu hv h => by
  rcases keyIs_shape hu with ⟨i,t,rfl,rfl⟩ | ⟨x,t,rfl,rfl⟩
  ·rcases keyIs_shape hv with ⟨j,u,rfl,rfl⟩ | ⟨y,u,rfl,rfl⟩
   ·rw [key_ll] at h; exact wpAny_eqBool_int h
   ·rw [key_lr] at h; exact SeqAt.EqAt.int_str i t y u _ _ _ _ h
  ·rcases keyIs_shape hv with ⟨j,u,rfl,rfl⟩ | ⟨y,u,rfl,rfl⟩
   ·rw [key_rl] at h; exact SeqAt.EqAt.str_int x t j u _ _ _ _ h
   ·rw [key_rr] at h; exact wpAny_eqBool_str h
 «strs» := fun k x t v h => by
  rcases keyIs_shape h with ⟨i,u,rfl,e⟩ | ⟨y,u,rfl,e⟩
  ·exact nomatch e
  ·injection e with e1 _
   subst e1
   cases v <;> rfl
end L2
namespace L2
open PySem PySem.Spec PyProof.Rows
inductive V where
 | non | bl (b : Bool) | int (i : Int) | str (x : Str) | byt (b : Array UInt8) | flt (b : UInt64) | ref (a : Addr) | ty (n : String)
 deriving DecidableEq
def RelV : V -> Value -> Prop
 | .non,u => u = Value.none
 | .bl b,u => u = Value.bool b
 | .int i,u => ∃ t,u = Value.int i t
 | .str x,u => ∃ t,u = Value.str x t
 | .byt b,u => ∃ t,u = Value.bytes b t
 | .flt b,u => ∃ t,u = Value.float b t
 | .ref a,u => u = Value.ref a
 | .ty n,u => u = Value.type n
abbrev Vals : List V -> List Value -> Prop := Paired RelV
theorem Vals.length {xs : List V} {us : List Value} (r : Vals xs us) : xs.length = us.length := Paired.length r
theorem Vals.get : ∀ {xs : List V} {us : List Value} {i : Nat} {x : V},Vals xs us -> xs[i]? = some x -> ∃ u,us[i]? = some u /\ RelV x u
 | _,_,_,_,.nil,e => by simp at e
 | _,_,0,_,.cons r _,e => by simp at e; subst e; exact ⟨_,rfl,r⟩
 | _,_,i + 1,x,.cons _ t,e => by
  obtain ⟨u,h1,h2⟩ := Vals.get (i := i) (x := x) t (by simpa using e)
  exact ⟨u,by simpa using h1,h2⟩
theorem Vals.set {x : V} {u : Value} (r : RelV x u) : ∀ {xs : List V} {us : List Value} (i : Nat),Vals xs us -> Vals (xs.set i x) (us.set i u)
 | _,_,_,.nil => .nil
 | _,_,0,.cons _ t => .cons r t
 | _,_,i + 1,.cons q t => .cons q (Vals.set r i t)
theorem Vals.append : ∀ {xs ys : List V} {us ws : List Value},Vals xs us -> Vals ys ws -> Vals (xs ++ ys) (us ++ ws)
 | _,_,_,_,.nil,s => s
 | _,_,_,_,.cons r t,s => .cons r (Vals.append t s)
theorem Vals.take : ∀ {xs : List V} {us : List Value} (n : Nat),Vals xs us -> Vals (xs.take n) (us.take n)
 | _,_,0,_ => .nil
 | _,_,_ + 1,.nil => .nil
 | _,_,n + 1,.cons r t => .cons r (Vals.take n t)
theorem Vals.drop : ∀ {xs : List V} {us : List Value} (n : Nat),Vals xs us -> Vals (xs.drop n) (us.drop n)
 | _,_,0,r => r
 | _,_,_ + 1,.nil => .nil
 | _,_,n + 1,.cons _ t => Vals.drop n t
def RelO : Option V -> Option Value -> Prop
 | some v,some u => RelV v u
 | none,none => True
 | _,_ => False
def KV {κ : Type} : List (κ × V) -> List (κ × Value) -> Prop := Paired fun (p : κ × V) (q : κ × Value) => p.1 = q.1 /\ RelV p.2 q.2
def kV : Key -> V
 | .inl i => .int i
 | .inr x => .str x
inductive HO where
 | lst (xs : List V)
 | tup (xs : List V)
 | dK (kvs : List (Key × V)) | dT (kvs : List (List Key × V))
 | set (S : Int -> Bool) (n : Nat)
 | ins (C dx : Addr) (fs : List (Str × V))
 | own (x : Addr)
 | xd (fs : List (Str × V))
 | met (f x : Addr)
 | rng (lo hi : Int)
 | frz (o : Obj) (u : HO)
 | tbl (ps : Array Value)
 | ext (φ : Heap -> Prop)
abbrev Hp := Addr -> Option HO
def upd (H : Hp) (a : Addr) (o : HO) : Hp := fun b => if b = a then some o else H b
theorem upd_same {H : Hp} {a : Addr} {o : HO} : upd H a o a = some o := by unfold upd; rw [if_pos rfl]
theorem upd_ne {H : Hp} {a b : Addr} {o : HO} (h : b ≠ a) : upd H a o b = H b := by unfold upd; rw [if_neg h]
theorem upd_upd {H : Hp} {a : Addr} {o u : HO} : upd (upd H a o) a u = upd H a u := by
 funext b; unfold upd; split <;> rfl
theorem ne_of {H : Hp} {a b : Addr} {o u : HO} (h : H a = some o) (h' : H b = some u) (d : o ≠ u) : a ≠ b := by
 intro e; subst e; rw [h] at h'; exact d (Option.some.inj h')
theorem ne_of_none {H : Hp} {a b : Addr} {o : HO} (h : H a = some o) (h' : H b = none) : a ≠ b := by
 intro e; subst e; rw [h] at h'; cases h'
section
variable (P : Program) (w : World)
def ObjOk (H : Hp) (h : Heap) (a : Addr) : HO -> Prop
 | .lst xs => xs.length <= sizeLine /\ ∃ (its : List Value) (n : Nat),Vals xs its /\ h.get? a = some { cls := .type "list",data := .seq its.toArray n }
 | .tup xs => xs.length <= sizeLine /\ ∃ its : List Value,Vals xs its /\ IsTup h a its.toArray
 | .dK kvs => kvs.length <= sizeLine /\ (a == sysModules) = false /\ ∃ vs,KV kvs vs /\ h.DictOf (mixKind P w) a vs
 | .dT kvs => kvs.length <= sizeLine /\ (a == sysModules) = false /\ ∃ xs : List (List Key × Addr × Value),
   Paired (fun (p : List Key × V) (q : List Key × Addr × Value) => p.1 = q.1 /\ H q.2.1 = some (.tup (p.1.map kV)) /\ RelV p.2 q.2.2) kvs xs /\
   ∃ o es ep,h.get? a = some o /\ o.ExactDict /\ o.data = .dict es ep /\ es.toList = xs.map (entryOfKey (tupleKind (mixKind P w))) /\ (xs.map (·.1)).Nodup
 | .set S n => h.SetOf (intKind P w) a S n
 | .ins C dx fs => H dx = some (.own a) /\ fs.length <= 1000 /\ dx ≠ a /\ h.get? a = some (PySem.W.instObj C dx) /\
   ∃ mA,h.Ns1 dx mA /\ (∀ f,RelO (fs.lookup f) (mA f)) /\ PySem.Within mA (fs.map (·.1))
 | .own _ => ∃ o,h.get? a = some o
 | .xd fs => ∃ mA,h.Ns1 a mA /\ ∀ f,RelO (fs.lookup f) (mA f)
 | .rng lo hi => ∃ t u v,h.get? a = some { cls := .type "range",data := .fields #[.int lo t,.int hi u,.int 1 v] }
 | .frz o u => h.get? a = some o /\ ObjOk H h a u
 | .tbl ps => h.get? a = some { cls := .none,data := .fields ps }
 | .met f x => h.get? a = some (PySem.W.methodObj (.ref f) (.ref x))
 | .ext φ => φ h /\ (∃ o,h.get? a = some o) /\ ∀ h1 h2 : Heap,φ h1 -> (∀ o,h1.get? a = some o -> h2.get? a = some o) -> φ h2
def HOk (H : Hp) (h : Heap) : Prop := ∀ a o,H a = some o -> ObjOk P w H h a o
end
section
variable {P : Program} {w : World} {H H' : Hp} {h h' : Heap} {a : Addr} {o : HO}
theorem ObjOk.lt (x : ObjOk P w H h a o) : a < h.objs.size := by
 cases o with
 | lst xs => obtain ⟨_,_,_,_,e⟩ := x; exact Heap.lt_size e
 | tup xs => obtain ⟨_,_,_,p⟩ := x; exact p.lt
 | dK kvs => obtain ⟨_,_,_,_,o,_,_,e,_⟩ := x; exact Heap.lt_size e
 | dT kvs => obtain ⟨_,_,_,_,o,_,_,e,_⟩ := x; exact Heap.lt_size e
 | set S n => obtain ⟨o,_,_,_,e,_⟩ := x; exact Heap.lt_size e
 | ins C dx fs => obtain ⟨_,_,_,e,_⟩ := x; exact Heap.lt_size e
 | own y => obtain ⟨_,e⟩ := x; exact Heap.lt_size e
 | xd fs => obtain ⟨_,⟨_,_,_,e,_⟩,_⟩ := x; exact Heap.lt_size e
 | rng lo hi => obtain ⟨_,_,_,e⟩ := x; exact Heap.lt_size e
 | frz ob u => obtain ⟨e,_⟩ := x; exact Heap.lt_size e
 | tbl ps => exact Heap.lt_size (show h.get? a = some _ from x)
 | met f y => exact Heap.lt_size (show h.get? a = some _ from x)
 | ext φ => obtain ⟨_,⟨_,e⟩,_⟩ := x; exact Heap.lt_size e
theorem Paired.mapP {α β : Type} {F G : α -> β -> Prop} : ∀ {l₁ : List α} {l₂ : List β},Paired F l₁ l₂ -> (∀ a b,F a b -> G a b) -> Paired G l₁ l₂
 | _,_,.nil,_ => .nil
 | _,_,.cons r t,f => .cons (f _ _ r) (Paired.mapP t f)
theorem ObjOk.stay (x : ObjOk P w H h a o) (k : ∀ b u,(b = a \/ H b = some (.own a)) -> h.get? b = some u -> h'.get? b = some u)
  (ho : ∀ b,H b = some (.own a) -> H' b = some (.own a)) (ht : ∀ b xs,H b = some (.tup xs) -> H' b = some (.tup xs)) : ObjOk P w H' h' a o := by
 induction o with
 | lst xs => obtain ⟨z,its,n,r,e⟩ := x; exact ⟨z,its,n,r,k _ _ (.inl rfl) e⟩
 | tup xs => obtain ⟨z,its,r,ob,e,c⟩ := x; exact ⟨z,its,r,ob,k _ _ (.inl rfl) e,c⟩
 | dK kvs => obtain ⟨z,y,vs,r,ob,es,ep,e,c⟩ := x; exact ⟨z,y,vs,r,ob,es,ep,k _ _ (.inl rfl) e,c⟩
 | dT kvs =>
  obtain ⟨z,y,xs,r,ob,es,ep,e,c⟩ := x
  exact ⟨z,y,xs,Paired.mapP r fun p q z => ⟨z.1,ht _ _ z.2.1,z.2.2⟩,ob,es,ep,k _ _ (.inl rfl) e,c⟩
 | set S n => obtain ⟨ob,es,ep,t,e,c⟩ := x; exact ⟨ob,es,ep,t,k _ _ (.inl rfl) e,c⟩
 | ins C dx fs =>
  obtain ⟨d,z,ne,e,mA,⟨od,es,ep,e2,c⟩,r⟩ := x
  exact ⟨ho _ d,z,ne,k _ _ (.inl rfl) e,mA,⟨od,es,ep,k _ _ (.inr d) e2,c⟩,r⟩
 | own y => obtain ⟨ob,e⟩ := x; exact ⟨ob,k _ _ (.inl rfl) e⟩
 | xd fs => obtain ⟨mA,⟨od,es,ep,e,c⟩,r⟩ := x; exact ⟨mA,⟨od,es,ep,k _ _ (.inl rfl) e,c⟩,r⟩
 | rng lo hi => obtain ⟨t,u,v,e⟩ := x; exact ⟨t,u,v,k _ _ (.inl rfl) e⟩
 | frz ob u ih => obtain ⟨e,q⟩ := x; exact ⟨k _ _ (.inl rfl) e,ih q⟩
 | tbl ps =>
  have e : h.get? a = some { cls := .none,data := .fields ps } := x
  show h'.get? a = some { cls := .none,data := .fields ps }
  exact k a _ (.inl rfl) e
 | met f y =>
  have e : h.get? a = some (PySem.W.methodObj (.ref f) (.ref y)) := x
  show h'.get? a = some (PySem.W.methodObj (.ref f) (.ref y))
  exact k a _ (.inl rfl) e
 | ext φ => obtain ⟨p,⟨o,e⟩,st⟩ := x; exact ⟨st _ _ p fun o q => k _ _ (.inl rfl) q,⟨o,k _ _ (.inl rfl) e⟩,st⟩
theorem HOk.lt (x : HOk P w H h) (e : H a = some o) : a < h.objs.size := (x a o e).lt
theorem HOk.fresh (x : HOk P w H h) (e : h.objs.size <= a) : H a = none := by
 cases q : H a with
 | none => rfl
 | some u => exact absurd (Nat.lt_of_lt_of_le (x.lt q) e) (Nat.lt_irrefl _)
theorem HOk.kept (x : HOk P w H h) (k : ∀ b u,h.get? b = some u -> h'.get? b = some u) : HOk P w H h' := fun a o e =>
 (x a o e).stay (fun b u _ q => k b u q) (fun _ q => q) fun _ _ q => q
theorem HOk.laid (x : HOk P w H h) (k : ∀ b u,h.get? b = some u -> h'.get? b = some u) (hp : h.objs.size <= a) (new : ObjOk P w (upd H a o) h' a o) : HOk P w (upd H a o) h' := fun b u e => by
 have hn := x.fresh hp
 by_cases hb : b = a
 ·subst hb; rw [upd_same] at e; cases e; exact new
 ·rw [upd_ne hb] at e
  exact (x b u e).stay (fun c v _ q => k c v q) (fun c q => by rw [upd_ne (ne_of_none q hn)]; exact q) fun c xs q => by rw [upd_ne (ne_of_none q hn)]; exact q
end
def Rd (H : Hp) (a : Addr) (u : HO) : Prop := H a = some u \/ ∃ o,H a = some (.frz o u)
theorem Rd.ok {P : Program} {w : World} {H : Hp} {h : Heap} {a : Addr} {u : HO} (r : Rd H a u) (x : HOk P w H h) : ObjOk P w H h a u := by
 rcases r with r | ⟨o,r⟩
 ·exact x a u r
 ·obtain ⟨_,q⟩ := x a _ r
  exact q
def Mut : Option HO -> Prop
 | some (.lst _) => True
 | some (.dK _) => True
 | some (.dT _) => True
 | some (.set _ _) => True
 | some (.ins _ _ _) => True
 | some (.ext _) => True
 | _ => False
section
variable {P : Program} {w : World} {H : Hp} {h h' : Heap} {x e : Addr} {o' : HO}
theorem HOk.write (ok : HOk P w H h) (mu : Mut (H x)) (he : e = x \/ H e = some (.own x)) (k : ∀ b u,b ≠ e -> h.get? b = some u -> h'.get? b = some u) (heo : ∃ u,h'.get? e = some u)
  (new : ObjOk P w (upd H x o') h' x o') : HOk P w (upd H x o') h' := fun b u q => by
 have nown : ∀ c y,H c = some (.own y) -> c ≠ x := fun c y r z => by subst z; rw [r] at mu; exact mu
 have ntup : ∀ c xs,H c = some (.tup xs) -> c ≠ x := fun c xs r z => by subst z; rw [r] at mu; exact mu
 by_cases hb : b = x
 ·subst hb; rw [upd_same] at q; cases q; exact new
 ·rw [upd_ne hb] at q
  by_cases hbe : b = e
  ·have q' : H b = some (.own x) := by
    rcases he with z | z
    ·exact absurd (hbe.trans z) hb
    ·rw [hbe]; exact z
   rw [q] at q'; cases q'
   obtain ⟨v,hv⟩ := heo
   exact ⟨v,by rw [hbe]; exact hv⟩
  ·refine (ok b u q).stay (fun c v hc r => k c v ?_ r) (fun c r => by rw [upd_ne (nown c b r)]; exact r) fun c xs r => by rw [upd_ne (ntup c xs r)]; exact r
   rcases hc with rfl | hc
   ·exact hbe
   ·rintro rfl
    rcases he with z | z
    ·exact nown c b hc z
    ·rw [hc] at z; cases z; exact hb rfl
end
structure Un (fs ex : List Addr) (H H' : Hp) (h h' : Heap) : Prop where
 keep : ∀ b o,h.get? b = some o -> H b = none -> b ∉ fs -> b ∉ ex -> h'.get? b = some o
 slot : ∀ b o,h.get? b = some o -> H b = none -> b ∈ fs -> b ∉ ex -> ∃ sl,h'.get? b = some { o with slots := sl }
 free : ∀ b o,h.get? b = some o -> H b = none -> b ∉ ex -> H' b = none
 there : ∀ b o,h.get? b = some o -> b ∉ ex -> ∃ o',h'.get? b = some o'
 tups : ∀ b xs,H b = some (.tup xs) -> H' b = some (.tup xs)
 frzs : ∀ b o u,H b = some (.frz o u) -> H' b = some (.frz o u)
 tbls : ∀ b ps,H b = some (.tbl ps) -> ∃ more,H' b = some (.tbl (ps ++ more))
section
variable {fs fs' ex ex' : List Addr} {H H1 H2 : Hp} {h h1 h2 h' : Heap} {a x e : Addr} {o : HO}
theorem Un.any (u : Un fs ex H H1 h h1) {b : Addr} {ob : Obj} (q : h.get? b = some ob) (n : H b = none) (hx : b ∉ ex) : ∃ sl,h1.get? b = some { ob with slots := sl } := by
 by_cases hb : b ∈ fs
 ·exact u.slot b ob q n hb hx
 ·exact ⟨ob.slots,u.keep b ob q n hb hx⟩
theorem Un.kept (k : ∀ b u,h.get? b = some u -> h'.get? b = some u) : Un fs ex H H h h' :=
 ⟨fun b ob q _ _ _ => k b ob q,fun b ob q _ _ _ => ⟨ob.slots,k b ob q⟩,fun _ _ _ n _ => n,fun b ob q _ => ⟨ob,k b ob q⟩,fun _ _ q => q,fun _ _ _ q => q,fun _ ps q => ⟨#[],by rw [q]; simp⟩⟩
theorem Un.refl : Un fs ex H H h h := Un.kept fun _ _ q => q
theorem Un.laid (k : ∀ b u,h.get? b = some u -> h'.get? b = some u) (hp : h.objs.size <= a) (hn : H a = none) : Un fs ex H (upd H a o) h h' where
 keep := fun b u q _ _ _ => k b u q
 slot := fun b u q _ _ _ => ⟨u.slots,k b u q⟩
 free := fun b u q n _ => by rw [upd_ne (Nat.ne_of_lt (Nat.lt_of_lt_of_le (Heap.lt_size q) hp))]; exact n
 there := fun b u q _ => ⟨u,k b u q⟩
 tups := fun b xs q => by rw [upd_ne (ne_of_none q hn)]; exact q
 frzs := fun b u xs q => by rw [upd_ne (ne_of_none q hn)]; exact q
 tbls := fun b ps q => ⟨#[],by rw [upd_ne (ne_of_none q hn),q]; simp⟩
theorem Un.write (mu : Mut (H x)) (he : e = x \/ H e = some (.own x)) (k : ∀ b u,b ≠ e -> h.get? b = some u -> h'.get? b = some u) (heo : ∃ u,h'.get? e = some u) : Un fs ex H (upd H x o) h h' := by
 have hx : ∀ b,H b = none -> b ≠ x := fun b n z => by subst z; rw [n] at mu; exact mu
 have hb : ∀ b,H b = none -> b ≠ e := fun b n z => by
  subst z
  rcases he with r | r
  ·exact hx b n r
  ·rw [n] at r; cases r
 have hm : ∀ b u,H b = some u -> ¬ Mut (some u) -> b ≠ x := fun b u q nm z => by subst z; rw [q] at mu; exact nm mu
 refine ⟨fun b u q n _ _ => k b u (hb b n) q,fun b u q n _ _ => ⟨u.slots,k b u (hb b n) q⟩,fun b u q n _ => by rw [upd_ne (hx b n)]; exact n,fun b u q _ => ?_,
  fun b xs q => by rw [upd_ne (hm b _ q fun z => z)]; exact q,fun b u xs q => by rw [upd_ne (hm b _ q fun z => z)]; exact q,fun b ps q => ⟨#[],by rw [upd_ne (hm b _ q fun z => z),q]; simp⟩⟩
 by_cases hbe : b = e
 ·subst hbe; exact heo
 ·exact ⟨u,k b u hbe q⟩
end
def trk (h : Heap) (H : Hp) : List Addr := (List.range h.objs.size).filter fun a => (H a).isSome
def hidT (h : Heap) (H : Hp) : Heap := PySem.W.hideAll h (trk h H)
theorem hidT_size (h : Heap) (H : Hp) : (hidT h H).objs.size = h.objs.size := PySem.W.hideAll_size _ _
theorem hidT_get {h : Heap} {H : Hp} {b : Addr} {o : Obj} (e : h.get? b = some o) (n : H b = none) : (hidT h H).get? b = some o :=
 PySem.W.hideAll_get _ e fun hm => by
  have q : (H b).isSome = true := (List.mem_filter.mp hm).2
  rw [n] at q; simp at q
theorem of_hidT {h : Heap} {H : Hp} {b : Addr} {o : Obj} (e : (hidT h H).get? b = some o) : h.get? b = some o /\ H b = none := by
 have e' : h.get? b = some o := PySem.W.of_hideAll (trk h H) e
 refine ⟨e',?_⟩
 cases q : H b with
 | none => rfl
 | some x =>
  have hm : b ∈ trk h H := List.mem_filter.mpr ⟨List.mem_range.mpr (Heap.lt_size e'),by simp [q]⟩
  have z : (hidT h H).get? b = none := PySem.W.hideAll_none (trk h H) hm
  rw [z] at e; cases e
end L2
namespace L2
open PySem PySem.Spec PyProof.Rows
structure Mod (K : PySem.W.Frag) (mg : Str -> Option Value) (base : Heap) : Prop where
 kin : K.In base
 glob : base.Ns mainGlobals mg
 blt : ∃ mb,base.Ns builtinsNs mb /\ ∀ x : Str,x ≠ "__name__" -> mb x = bootBuiltins x
 nolimit : base.NoLimit
 nodigits : base.NoDigits
structure Cx where
 prog : Program
 w : World
 K : PySem.W.Frag
 mg : Str -> Option Value
 base : Heap
 A : Around
 N : List Str
 s_0 : Shared
 H_0 : Hp
 env : Env
 outer : List Env
 stack : List Env
 ex : List Addr
 fn : Str -> Bool
 calm : Bool
 pn : List (Addr × Obj)
 xe : Value -> Shared -> Prop
def frs (l : List Env) : List Addr := l.filterMap (·.frame)
abbrev Cx.fs (X : Cx) : List Addr := frs X.outer
def Vis (sc : Scope) (x : Str) : Prop := sc.names.lookup x = some .local \/ sc.names.lookup x = some .cell \/ sc.names.lookup x = some .free
def Loc (sc : Scope) (x : Str) : Prop := sc.names.lookup x = some .local \/ sc.names.lookup x = some .cell
def Look (env : Env) (h : Heap) (m : Str -> Option Value) (x : Str) (u : Value) : Prop :=
 (env.kindOf x = some .local /\ m x = some u) \/ ((env.kindOf x = some .cell \/ env.kindOf x = some .free) /\ ∃ c,env.cells.lookup x = some c /\ h.IsCell c (some u))
structure Cx.Ok (X : Cx) : Prop where
 mod : Mod X.K X.mg X.base
 kind : X.env.scope.kind = .function
 glob : X.env.globals = mainGlobals
 blt : X.env.builtins = builtinsNs
 above : X.s_0.heap.objs.size <= X.env.locals
 inj : ∀ x y c,X.env.cells.lookup x = some c -> X.env.cells.lookup y = some c -> x = y
 has : ∀ x,(X.env.kindOf x = some .cell \/ X.env.kindOf x = some .free) -> ∃ c,X.env.cells.lookup x = some c
 cab : ∀ x c,X.fn x = true -> X.env.cells.lookup x = some c -> X.s_0.heap.objs.size <= c
 hd : X.calm = true -> X.A.handled = none
 frames : X.A.frames = some X.stack
 stk : X.stack = X.outer \/ (X.stack = X.env :: X.outer /\ X.env.frame = some X.env.locals)
 exf : ∀ b ∈ X.ex,b ≠ X.env.locals /\ ∀ x c,X.env.cells.lookup x = some c -> c ≠ b
 bs : ∀ b o,X.base.get? b = some o -> X.s_0.heap.get? b = some o /\ X.H_0 b = none
 bsz : X.base.objs.size <= X.s_0.heap.objs.size
 noex : ∀ b o,X.base.get? b = some o -> b ∉ X.ex
 exfs : ∀ b ∈ X.ex,b ∉ X.fs
 funs : X.s_0.heap.FunFrames X.base X.outer
 frf : ∀ b ∈ X.fs,X.H_0 b = none
structure Inv (X : Cx) (pins : List (Addr × Obj)) (σ : List (Option V)) (H : Hp) (s : Shared) : Prop where
 ok : X.Ok
 os : s.os = X.s_0.os
 bare : AllBare s.gens
 base : Un X.fs X.ex X.H_0 H X.s_0.heap s.heap
 loc : ∃ m,s.heap.Ns X.env.locals m /\ ∀ (i : Nat) (x : Str) (v : V),X.N[i]? = some x -> σ[i]? = some (some v) -> Vis X.env.scope x -> ∃ u,RelV v u /\ Look X.env s.heap m x u
 cell : ∀ x c,X.env.cells.lookup x = some c -> ∃ v,s.heap.IsCell c v
 free : H X.env.locals = none
 freeC : ∀ x c,X.env.cells.lookup x = some c -> H c = none
 pin : ∀ p ∈ X.pn ++ pins,s.heap.get? p.1 = some p.2 /\ H p.1 = none /\ p.1 ≠ X.env.locals /\ p.1 ∉ X.fs /\ ∀ v,p.2.data ≠ .cell v
 hok : HOk X.prog X.w H s.heap
 len : σ.length = X.N.length
section
variable {X : Cx} {pins : List (Addr × Obj)} {σ : List (Option V)} {H H' : Hp} {s : Shared} {h' : Heap}
theorem Cx.Ok.nofr (ok : X.Ok) {b : Addr} {o : Obj} (e : X.base.get? b = some o) : b ∉ X.fs := fun hb => by
 have := (ok.funs.mem hb).1
 rw [e] at this; cases this
theorem Inv.bs (I : Inv X pins σ H s) : ∀ b o,X.base.get? b = some o -> s.heap.get? b = some o /\ H b = none := fun b o e =>
 ⟨I.base.keep b o (I.ok.bs b o e).1 (I.ok.bs b o e).2 (I.ok.nofr e) (I.ok.noex b o e),I.base.free b o (I.ok.bs b o e).1 (I.ok.bs b o e).2 (I.ok.noex b o e)⟩
theorem Inv.bk (I : Inv X pins σ H s) : ∀ b o,X.base.get? b = some o -> s.heap.get? b = some o := fun b o e => (I.bs b o e).1
theorem Inv.mod (I : Inv X pins σ H s) : Mod X.K X.mg X.base := I.ok.mod
theorem Inv.kIn (I : Inv X pins σ H s) : X.K.In s.heap := I.ok.mod.kin.keeps I.bk
theorem Inv.nodigits (I : Inv X pins σ H s) : s.heap.NoDigits := I.ok.mod.nodigits.keeps I.bk
theorem Inv.lt (I : Inv X pins σ H s) : X.env.locals < s.heap.objs.size := let ⟨_,hn,_⟩ := I.loc; hn.lt
theorem Inv.sz (I : Inv X pins σ H s) : X.s_0.heap.objs.size <= s.heap.objs.size := Nat.le_trans I.ok.above (Nat.le_of_lt I.lt)
theorem Inv.nofs (I : Inv X pins σ H s) {a : Addr} (h : s.heap.objs.size <= a) : a ∉ X.fs := fun hb => by
 obtain ⟨_,o,ho,_⟩ := I.ok.funs.mem hb
 exact absurd (Nat.lt_of_lt_of_le (Heap.lt_size ho) (Nat.le_trans I.sz h)) (Nat.lt_irrefl _)
theorem Inv.cne (I : Inv X pins σ H s) : ∀ x c,X.env.cells.lookup x = some c -> c ≠ X.env.locals := fun x c e z => by
 obtain ⟨v,o,ho,hd⟩ := I.cell x c e
 obtain ⟨m,⟨o',es,ep,ho',hd',_⟩,_⟩ := I.loc
 rw [z,ho'] at ho; cases ho; rw [hd'] at hd; cases hd
theorem Inv.funs (I : Inv X pins σ H s) : s.heap.FunFrames X.base X.outer := by
 have all : ∀ (l : List Env),(∀ b ∈ frs l,b ∈ X.fs) -> X.s_0.heap.FunFrames X.base l -> s.heap.FunFrames X.base l := by
  intro l
  induction l with
  | nil => intro _ _; trivial
  | cons env r ih =>
   intro hs hl
   obtain ⟨hk,⟨L,o,hf,hn,ho,hd⟩,hr⟩ := hl
   have hL : L ∈ X.fs := hs L (by unfold frs; rw [List.filterMap_cons,hf]; exact List.mem_cons_self)
   obtain ⟨sl,e⟩ := I.base.slot L o ho (I.ok.frf L hL) hL fun z => I.ok.exfs L z hL
   exact ⟨hk,⟨L,_,hf,hn,e,hd⟩,ih (fun b hb => hs b (by unfold frs; rw [List.filterMap_cons,hf]; exact List.mem_cons_of_mem _ hb)) hr⟩
 exact all X.outer (fun _ hb => hb) I.ok.funs
theorem Inv.stack (I : Inv X pins σ H s) : s.heap.FunFrames X.base X.stack := by
 rcases I.ok.stk with e | ⟨e,hf⟩
 ·rw [e]; exact I.funs
 ·rw [e]
  obtain ⟨m,hn,_⟩ := I.loc
  refine .cons (by rw [I.ok.kind]; decide) hf hn ?_ I.funs
  exact Heap.get?_none_of_le (Nat.le_trans I.ok.bsz I.ok.above)
theorem Inv.stkSub (I : Inv X pins σ H s) : ∀ b ∈ frs X.stack,b ∈ X.env.locals :: X.fs := fun b hb => by
 rcases I.ok.stk with e | ⟨e,hf⟩
 ·rw [e] at hb; exact List.mem_cons_of_mem _ hb
 ·rw [e] at hb
  unfold frs at hb
  rw [List.filterMap_cons,hf] at hb
  exact hb
theorem Inv.stkFree (I : Inv X pins σ H s) : ∀ b ∈ frs X.stack,H b = none := fun b hb => by
 rcases List.mem_cons.mp (I.stkSub b hb) with e | hb
 ·rw [e]; exact I.free
 ·obtain ⟨_,o,ho,_⟩ := I.ok.funs.mem hb
  exact I.base.free b o ho (I.ok.frf b hb) fun z => I.ok.exfs b z hb
theorem Inv.step {g' : Array GenState} {t' : Nat} {d' : Drawn} {ch : List Addr} (I : Inv X pins σ H s)
  (hch : ∀ b ∈ ch,(b ∈ X.ex \/ X.s_0.heap.objs.size <= b) /\ b ≠ X.env.locals /\ (∀ x c,X.env.cells.lookup x = some c -> c ≠ b) /\ ∀ p ∈ X.pn ++ pins,p.1 ≠ b)
  (keep : ∀ b o,b ≠ X.env.locals -> b ∉ X.fs -> b ∉ ch -> s.heap.get? b = some o -> H b = none -> h'.get? b = some o)
  (slot : ∀ b o,b ≠ X.env.locals -> b ∈ X.fs -> b ∉ ch -> s.heap.get? b = some o -> H b = none -> ∃ sl,h'.get? b = some { o with slots := sl }) (free : ∀ b o,b ∉ ch -> s.heap.get? b = some o -> H b = none -> H' b = none)
  (there : ∀ b o,b ∉ ch -> s.heap.get? b = some o -> ∃ o',h'.get? b = some o')
  (tups : ∀ b xs,H b = some (.tup xs) -> H' b = some (.tup xs)) (frzs : ∀ b o u,H b = some (.frz o u) -> H' b = some (.frz o u)) (tbls : ∀ b ps,H b = some (.tbl ps) -> ∃ more,H' b = some (.tbl (ps ++ more)))
  (ns : ∀ m,s.heap.Ns X.env.locals m -> h'.Ns X.env.locals m) (hok : HOk X.prog X.w H' h') (hg : AllBare g') :
  Inv X pins σ H' { s with heap := h',gens := g',drawn := d',toks := t' } := by
 have neL : ∀ b o,X.s_0.heap.get? b = some o -> b ≠ X.env.locals := fun b o e => Nat.ne_of_lt (Nat.lt_of_lt_of_le (Heap.lt_size e) I.ok.above)
 have neC : ∀ b o,X.s_0.heap.get? b = some o -> b ∉ X.ex -> b ∉ ch := fun b o e hx hb => by
  rcases (hch b hb).1 with z | z
  ·exact hx z
  ·exact absurd (Nat.lt_of_lt_of_le (Heap.lt_size e) z) (Nat.lt_irrefl _)
 have cellK : ∀ x c,X.env.cells.lookup x = some c -> ∀ v,s.heap.IsCell c v -> h'.IsCell c v := fun x c e v ⟨o,ho,hd⟩ => by
  have nch : c ∉ ch := fun z => (hch c z).2.2.1 x c e rfl
  by_cases hc : c ∈ X.fs
  ·obtain ⟨sl,q⟩ := slot c o (I.cne x c e) hc nch ho (I.freeC x c e)
   exact ⟨_,q,hd⟩
  ·exact ⟨o,keep c o (I.cne x c e) hc nch ho (I.freeC x c e),hd⟩
 refine ⟨I.ok,I.os,hg,⟨fun b o e n hb hx => ?_,fun b o e n hb hx => ?_,fun b o e n hx => ?_,fun b o e hx => ?_,fun b xs e => tups b xs (I.base.tups b xs e),fun b o xs e => frzs b o xs (I.base.frzs b o xs e),fun b ps e => ?_⟩,?_,fun x c e => ?_,?_,fun x c e => ?_,fun p hp => ?_,hok,I.len⟩
 ·exact keep b o (neL b o e) hb (neC b o e hx) (I.base.keep b o e n hb hx) (I.base.free b o e n hx)
 ·obtain ⟨sl,e1⟩ := I.base.slot b o e n hb hx
  obtain ⟨sl',e2⟩ := slot b _ (neL b o e) hb (neC b o e hx) e1 (I.base.free b o e n hx)
  exact ⟨sl',e2⟩
 ·obtain ⟨o',e1⟩ := I.base.there b o e hx
  exact free b o' (neC b o e hx) e1 (I.base.free b o e n hx)
 ·obtain ⟨o',e1⟩ := I.base.there b o e hx
  exact there b o' (neC b o e hx) e1
 ·obtain ⟨m1,e1⟩ := I.base.tbls b ps e
  obtain ⟨m2,e2⟩ := tbls b _ e1
  exact ⟨m1 ++ m2,by rw [e2,Array.append_assoc]⟩
 ·obtain ⟨m,hn,hl⟩ := I.loc
  refine ⟨m,ns m hn,fun i x v e1 e2 e3 => ?_⟩
  obtain ⟨u,r,l⟩ := hl i x v e1 e2 e3
  refine ⟨u,r,?_⟩
  rcases l with l | ⟨k,c,e,z⟩
  ·exact .inl l
  ·exact .inr ⟨k,c,e,cellK x c e _ z⟩
 ·obtain ⟨v,z⟩ := I.cell x c e
  exact ⟨v,cellK x c e v z⟩
 ·obtain ⟨m,⟨o,_,_,ho,_⟩,_⟩ := I.loc
  exact free _ o (fun z => (hch _ z).2.1 rfl) ho I.free
 ·obtain ⟨v,o,ho,hd⟩ := I.cell x c e
  exact free c o (fun z => (hch c z).2.2.1 x c e rfl) ho (I.freeC x c e)
 ·obtain ⟨e,n,ne,nf,d⟩ := I.pin p hp
  have nch : p.1 ∉ ch := fun z => (hch p.1 z).2.2.2 p hp rfl
  exact ⟨keep p.1 p.2 ne nf nch e n,free p.1 p.2 nch e n,ne,nf,d⟩
theorem Inv.un {t' : Nat} (I : Inv X pins σ H s) (u : Un X.fs [] H H' s.heap h') (hok : HOk X.prog X.w H' h') : Inv X pins σ H' { s with heap := h',toks := t' } := by
 obtain ⟨m,⟨o,es,ep,ho,r⟩,_⟩ := id I.loc
 obtain ⟨sl,hL⟩ := u.any ho I.free (by simp)
 exact I.step (g' := s.gens) (d' := s.drawn) (ch := []) (fun _ z => nomatch z) (fun b o _ hb _ e n => u.keep b o e n hb (by simp)) (fun b o _ hb _ e n => u.slot b o e n hb (by simp)) (fun b o _ e n => u.free b o e n (by simp)) (fun b o _ e => u.there b o e (by simp)) u.tups u.frzs u.tbls (fun m' hm => by
  obtain ⟨o',es',ep',ho',r'⟩ := hm
  rw [ho] at ho'; cases ho'
  exact ⟨_,es',ep',hL,r'⟩) hok I.bare
theorem Inv.call {g' : Array GenState} {t' : Nat} {d' : Drawn} {ch : List Addr} (I : Inv X pins σ H s) (u : Un (frs X.stack) ch H H' s.heap h') (hok : HOk X.prog X.w H' h') (hg : AllBare g')
  (hch : ∀ b ∈ ch,(b ∈ X.ex \/ X.s_0.heap.objs.size <= b) /\ b ≠ X.env.locals /\ (∀ x c,X.env.cells.lookup x = some c -> c ≠ b) /\ ∀ p ∈ X.pn ++ pins,p.1 ≠ b) :
  Inv X pins σ H' { s with heap := h',gens := g',drawn := d',toks := t' } := by
 obtain ⟨m,⟨o,es,ep,ho,r⟩,_⟩ := id I.loc
 obtain ⟨sl,hL⟩ := u.any ho I.free fun z => (hch _ z).2.1 rfl
 exact I.step (ch := ch) hch (fun b o hL hb hc e n => u.keep b o e n (fun z => (List.mem_cons.mp (I.stkSub b z)).elim hL hb) hc) (fun b o _ _ hc e n => u.any e n hc) (fun b o hc e n => u.free b o e n hc) (fun b o hc e => u.there b o e hc) u.tups u.frzs u.tbls (fun m' hm => by
  obtain ⟨o',es',ep',ho',r'⟩ := hm
  rw [ho] at ho'; cases ho'
  exact ⟨_,es',ep',hL,r'⟩) hok hg
theorem Inv.turned {t' : Nat} {it : Addr} (I : Inv X pins σ H s) (k : ∀ b o,b ≠ it -> s.heap.get? b = some o -> h'.get? b = some o) (hn : H it = none) (hL : it ≠ X.env.locals)
  (h1 : it ∈ X.ex \/ X.s_0.heap.objs.size <= it) (h2 : ∀ x c,X.env.cells.lookup x = some c -> c ≠ it) (h3 : ∀ p ∈ X.pn ++ pins,p.1 ≠ it) : Inv X pins σ H { s with heap := h',toks := t' } := by
 have nit : ∀ b u,H b = some u -> b ≠ it := fun b u e z => by rw [z,hn] at e; cases e
 refine I.step (g' := s.gens) (d' := s.drawn) (ch := [it]) (fun b hb => ?_) (fun b o _ _ hc e _ => k b o (fun z => hc (by simp [z])) e) (fun b o _ _ hc e _ => ⟨o.slots,k b o (fun z => hc (by simp [z])) e⟩) (fun _ _ _ _ n => n)
  (fun b o hc e => ⟨o,k b o (fun z => hc (by simp [z])) e⟩) (fun _ _ e => e) (fun _ _ _ e => e) (fun b ps e => ⟨#[],by rw [e]; simp⟩) (fun m hm => ?_) (fun b u e => ?_) I.bare
 ·have e : b = it := by simpa using hb
  subst e
  exact ⟨h1,hL,h2,h3⟩
 ·obtain ⟨o,es,ep,ho,r⟩ := hm
  exact ⟨o,es,ep,k _ o (Ne.symm hL) ho,r⟩
 ·refine (I.hok b u e).stay (fun c v hc q => k c v ?_ q) (fun _ q => q) fun _ _ q => q
  rcases hc with z | z
  ·rw [z]; exact nit b u e
  ·exact nit c _ z
theorem Inv.tok (I : Inv X pins σ H s) (t : Nat) : Inv X pins σ H { s with toks := t } := I.un (h' := s.heap) (t' := t) Un.refl I.hok
theorem Inv.kept {t' : Nat} (I : Inv X pins σ H s) (k : ∀ b u,s.heap.get? b = some u -> h'.get? b = some u) : Inv X pins σ H { s with heap := h',toks := t' } := I.un (Un.kept k) (I.hok.kept k)
theorem Inv.laid {a : Addr} {o : HO} {t' : Nat} (I : Inv X pins σ H s) (k : ∀ b u,s.heap.get? b = some u -> h'.get? b = some u) (hp : s.heap.objs.size <= a) (new : ObjOk X.prog X.w (upd H a o) h' a o) :
  Inv X pins σ (upd H a o) { s with heap := h',toks := t' } := I.un (Un.laid k hp (I.hok.fresh hp)) (I.hok.laid k hp new)
theorem Inv.write {x e : Addr} {o : HO} {t' : Nat} (I : Inv X pins σ H s) (mu : Mut (H x)) (he : e = x \/ H e = some (.own x)) (k : ∀ b u,b ≠ e -> s.heap.get? b = some u -> h'.get? b = some u) (heo : ∃ u,h'.get? e = some u)
  (new : ObjOk X.prog X.w (upd H x o) h' x o) : Inv X pins σ (upd H x o) { s with heap := h',toks := t' } := I.un (Un.write mu he k heo) (I.hok.write mu he k heo new)
theorem Inv.weak {σ' : List (Option V)} (I : Inv X pins σ H s) (hl : σ'.length = σ.length) (w : ∀ (i : Nat) v,σ'[i]? = some (some v) -> σ[i]? = some (some v)) : Inv X pins σ' H s :=
 ⟨I.ok,I.os,I.bare,I.base,let ⟨m,hn,hl'⟩ := I.loc; ⟨m,hn,fun i x v e1 e2 e3 => hl' i x v e1 (w i v e2) e3⟩,I.cell,I.free,I.freeC,I.pin,I.hok,hl.trans I.len⟩
theorem Inv.pins_of {pins' : List (Addr × Obj)} (I : Inv X pins σ H s) (h : ∀ p ∈ pins',s.heap.get? p.1 = some p.2 /\ H p.1 = none /\ p.1 ≠ X.env.locals /\ p.1 ∉ X.fs /\ ∀ v,p.2.data ≠ .cell v) : Inv X pins' σ H s :=
 ⟨I.ok,I.os,I.bare,I.base,I.loc,I.cell,I.free,I.freeC,fun p hp => (List.mem_append.mp hp).elim (fun z => I.pin p (List.mem_append_left _ z)) (h p),I.hok,I.len⟩
theorem nodup_ix {N : List Str} (hN : N.Nodup) {i j : Nat} {x : Str} (a : N[i]? = some x) (b : N[j]? = some x) : i = j := by
 obtain ⟨h1,e1⟩ := List.getElem?_eq_some_iff.mp a
 obtain ⟨h2,e2⟩ := List.getElem?_eq_some_iff.mp b
 exact (List.getElem_inj hN).mp (e1.trans e2.symm)
theorem store_ok2 {M : Model} {A : Around} {E : Value -> Shared -> Prop} {i : Nat} {x : Str} {v : V} {u : Value} {Q : Unit -> Shared -> Prop} (I : Inv X pins σ H s) (hN : X.N.Nodup) (hi : X.N[i]? = some x) (hx : Loc X.env.scope x) (r : RelV v u)
  (h : ∀ s',Inv X pins (σ.set i (some v)) H s' -> (∃ a,Heap.SameBut a s.heap s'.heap /\ (a = X.env.locals \/ X.env.cells.lookup x = some a)) -> Q () s') (hf : X.fn x = true \/ X.env.scope.names.lookup x = some .local := by first | exact .inl rfl | exact .inr rfl | assumption) : wpAny M A (storeName X.env x u) Q E s := by
 obtain ⟨m,hn,hl⟩ := id I.loc
 have hcls : (X.env.scope.kind == .class || (X.env.scope.kind == .module && X.env.locals != X.env.globals)) = false := by rw [I.ok.kind]; rfl
 have hiσ : i < σ.length := by rw [I.len]; exact (List.getElem?_eq_some_iff.mp hi).1
 have cne := I.cne
 have tracked : ∀ {a : Addr} {h' : Heap},(∃ o,s.heap.get? a = some o /\ H a = none) -> Heap.SameBut a s.heap h' -> HOk X.prog X.w H h' := fun {a h'} ha hs b ob e => by
  obtain ⟨_,_,hfree⟩ := ha
  refine (I.hok b ob e).stay (fun c w' hc q => (hs.2 c ?_).trans q) (fun _ q => q) fun _ _ q => q
  rintro rfl
  rcases hc with rfl | hc
  ·rw [hfree] at e; cases e
  ·rw [hfree] at hc; cases hc
 rcases hx with hk | hk
 ·refine wpAny_storeName_local hk hn (fun h' hn' hs => ?_) hcls
  obtain ⟨oL,_,_,hoL,_⟩ := id hn
  refine h _ ⟨I.ok,I.os,I.bare,⟨fun b o e n hb hx => ?_,fun b o e n hb hx => ?_,I.base.free,fun b o e hx => ?_,I.base.tups,I.base.frzs,I.base.tbls⟩,⟨_,hn',fun j y v' e1 e2 e3 => ?_⟩,fun y c e => ?_,I.free,I.freeC,fun p hp => ?_,tracked ⟨oL,hoL,I.free⟩ hs,by simpa using I.len⟩ ⟨_,hs,.inl rfl⟩
  ·exact (hs.2 b (Nat.ne_of_lt (Nat.lt_of_lt_of_le (Heap.lt_size e) I.ok.above))).trans (I.base.keep b o e n hb hx)
  ·obtain ⟨sl,e1⟩ := I.base.slot b o e n hb hx
   exact ⟨sl,(hs.2 b (Nat.ne_of_lt (Nat.lt_of_lt_of_le (Heap.lt_size e) I.ok.above))).trans e1⟩
  ·obtain ⟨o',e1⟩ := I.base.there b o e hx
   exact ⟨o',(hs.2 b (Nat.ne_of_lt (Nat.lt_of_lt_of_le (Heap.lt_size e) I.ok.above))).trans e1⟩
  ·by_cases hj : j = i
   ·subst hj
    rw [hi] at e1; cases e1
    rw [List.getElem?_set_self hiσ] at e2
    cases e2
    exact ⟨u,r,.inl ⟨hk,by simp⟩⟩
   ·rw [List.getElem?_set_ne (Ne.symm hj)] at e2
    obtain ⟨u',r',q⟩ := hl j y v' e1 e2 e3
    refine ⟨u',r',?_⟩
    rcases q with ⟨k,e⟩ | ⟨k,c,e,z⟩
    ·refine .inl ⟨k,?_⟩
     have : y ≠ x := fun e => hj (nodup_ix hN e1 (e ▸ hi))
     simp [this,e]
    ·exact .inr ⟨k,c,e,z.sameBut hs (cne y c e)⟩
  ·obtain ⟨w',z⟩ := I.cell y c e
   exact ⟨w',z.sameBut hs (cne y c e)⟩
  ·obtain ⟨e,n,ne,nf,d⟩ := I.pin p hp
   exact ⟨(hs.2 p.1 ne).trans e,n,ne,nf,d⟩
 ·have hfn : X.fn x = true := by
   rcases hf with z | z
   ·exact z
   ·rw [z] at hk; cases hk
  obtain ⟨c,hc⟩ := I.ok.has x (.inl hk)
  obtain ⟨w',z⟩ := I.cell x c hc
  refine wpAny_storeName_cell I.ok.kind hk hc z (fun h' hc' hs => ?_)
  obtain ⟨oc,hoc,hocd⟩ := id z
  refine h { s with heap := h' } ⟨I.ok,I.os,I.bare,⟨fun b o e n hb hx => ?_,fun b o e n hb hx => ?_,I.base.free,fun b o e hx => ?_,I.base.tups,I.base.frzs,I.base.tbls⟩,⟨m,hn.sameBut hs (Ne.symm (cne x c hc)),fun j y v' e1 e2 e3 => ?_⟩,fun y c' e => ?_,I.free,I.freeC,fun p hp => ?_,tracked ⟨oc,hoc,I.freeC x c hc⟩ hs,by simpa using I.len⟩ ⟨c,hs,.inr hc⟩
  ·exact (hs.2 b (Nat.ne_of_lt (Nat.lt_of_lt_of_le (Heap.lt_size e) (I.ok.cab x c hfn hc)))).trans (I.base.keep b o e n hb hx)
  ·obtain ⟨sl,e1⟩ := I.base.slot b o e n hb hx
   exact ⟨sl,(hs.2 b (Nat.ne_of_lt (Nat.lt_of_lt_of_le (Heap.lt_size e) (I.ok.cab x c hfn hc)))).trans e1⟩
  ·obtain ⟨o',e1⟩ := I.base.there b o e hx
   exact ⟨o',(hs.2 b (Nat.ne_of_lt (Nat.lt_of_lt_of_le (Heap.lt_size e) (I.ok.cab x c hfn hc)))).trans e1⟩
  ·by_cases hj : j = i
   ·subst hj
    rw [hi] at e1; cases e1
    rw [List.getElem?_set_self hiσ] at e2
    cases e2
    exact ⟨u,r,.inr ⟨.inl hk,c,hc,hc'⟩⟩
   ·rw [List.getElem?_set_ne (Ne.symm hj)] at e2
    obtain ⟨u',r',q⟩ := hl j y v' e1 e2 e3
    refine ⟨u',r',?_⟩
    rcases q with q | ⟨k,c',e,z'⟩
    ·exact .inl q
    ·refine .inr ⟨k,c',e,z'.sameBut hs ?_⟩
     rintro rfl
     exact hj (nodup_ix hN e1 (I.ok.inj _ _ _ e hc ▸ hi))
  ·by_cases hcc : c' = c
   ·subst hcc; exact ⟨_,hc'⟩
   ·obtain ⟨w2,z2⟩ := I.cell y c' e
    exact ⟨w2,z2.sameBut hs hcc⟩
  ·obtain ⟨e,n,ne,nf,d⟩ := I.pin p hp
   refine ⟨(hs.2 p.1 ?_).trans e,n,ne,nf,d⟩
   intro q
   rw [q,hoc] at e
   have q' : oc = p.2 := Option.some.inj e
   exact d w' (by rw [<- q']; exact hocd)
theorem store_ok {M : Model} {A : Around} {E : Value -> Shared -> Prop} {i : Nat} {x : Str} {v : V} {u : Value} {Q : Unit -> Shared -> Prop} (I : Inv X pins σ H s) (hN : X.N.Nodup) (hi : X.N[i]? = some x) (hx : Loc X.env.scope x) (r : RelV v u)
  (h : ∀ s',Inv X pins (σ.set i (some v)) H s' -> Q () s') (hf : X.fn x = true \/ X.env.scope.names.lookup x = some .local := by first | exact .inl rfl | exact .inr rfl | assumption) : wpAny M A (storeName X.env x u) Q E s :=
 store_ok2 I hN hi hx r (fun s' I' _ => h s' I') hf
theorem Inv.call' {s' : Shared} {ch : List Addr} (I : Inv X pins σ H s) (ho : s'.os = s.os) (u : Un (frs X.stack) ch H H' s.heap s'.heap) (hok : HOk X.prog X.w H' s'.heap) (hg : AllBare s'.gens)
  (hch : ∀ b ∈ ch,(b ∈ X.ex \/ X.s_0.heap.objs.size <= b) /\ b ≠ X.env.locals /\ (∀ x c,X.env.cells.lookup x = some c -> c ≠ b) /\ ∀ p ∈ X.pn ++ pins,p.1 ≠ b) : Inv X pins σ H' s' := by
 obtain ⟨h',g',d',t',o'⟩ := s'
 have e : o' = s.os := ho
 subst e
 exact I.call (g' := g') (t' := t') (d' := d') u hok hg hch
end
abbrev XK := Value -> Option Addr -> Hp -> Prop
abbrev St := List (Option V)
abbrev VK := V -> Hp -> Prop
abbrev TE := St -> Hp -> VK -> Prop
abbrev TT := St -> Hp -> (Bool -> Hp -> Prop) -> Prop
abbrev TA := St -> Hp -> (List V -> Hp -> Prop) -> Prop
structure Ends where
 nx : St -> Hp -> Prop
 rt : VK
 bk : St -> Hp -> Prop := fun _ _ => False
 ct : St -> Hp -> Prop := fun _ _ => False
abbrev TS := Ends -> St -> Hp -> Prop
def EP (X : Cx) (pins : List (Addr × Obj)) (σ : St) (Q : VK) (u : Value) (s' : Shared) : Prop := ∃ v H',Inv X pins σ H' s' /\ RelV v u /\ Q v H'
def TP (X : Cx) (pins : List (Addr × Obj)) (σ : St) (Q : Bool -> Hp -> Prop) (b : Bool) (s' : Shared) : Prop := ∃ H',Inv X pins σ H' s' /\ Q b H'
def AP (X : Cx) (pins : List (Addr × Obj)) (σ : St) (Q : List V -> Hp -> Prop) (us : List Value) (s' : Shared) : Prop := ∃ vs H',Inv X pins σ H' s' /\ Vals vs us /\ Q vs H'
def SP (X : Cx) (pins : List (Addr × Obj)) (D : Ends) (f : Flow) (s' : Shared) : Prop :=
 match f with
 | .next => ∃ σ' H',Inv X pins σ' H' s' /\ D.nx σ' H'
 | .brk => ∃ σ' H',Inv X pins σ' H' s' /\ D.bk σ' H'
 | .cont => ∃ σ' H',Inv X pins σ' H' s' /\ D.ct σ' H'
 | .ret u => ∃ v σ' H',Inv X pins σ' H' s' /\ RelV v u /\ D.rt v H'
def PE (X : Cx) (e : Expr) (t : TE) : Prop :=
 ∀ (pins : List (Addr × Obj)) (s : Shared) (σ : St) (H : Hp) (Q : VK),Inv X pins σ H s -> t σ H Q -> wpAny (model X.prog X.w) X.A (eval e X.env) (EP X pins σ Q) X.xe s
def PT (X : Cx) (e : Expr) (t : TT) : Prop :=
 ∀ (pins : List (Addr × Obj)) (s : Shared) (σ : St) (H : Hp) (Q : Bool -> Hp -> Prop),Inv X pins σ H s -> t σ H Q -> wpAny (model X.prog X.w) X.A (isTrue e X.env (eval e X.env)) (TP X pins σ Q) X.xe s
def PW (X : Cx) (e : Expr) (t : TT) : Prop :=
 ∀ (whole : Sem Value) (pins : List (Addr × Obj)) (s : Shared) (σ : St) (H : Hp) (Q : Bool -> Hp -> Prop),Inv X pins σ H s -> t σ H Q -> wpAny (model X.prog X.w) X.A (isTrue e X.env whole) (TP X pins σ Q) X.xe s
theorem PW.pt {X : Cx} {e : Expr} {t : TT} (h : PW X e t) : PT X e t := h _
def PA (X : Cx) (es : List Expr) (t : TA) : Prop :=
 ∀ (pos : Pos) (pins : List (Addr × Obj)) (s : Shared) (σ : St) (H : Hp) (Q : List V -> Hp -> Prop),Inv X pins σ H s -> t σ H Q -> wpAny (model X.prog X.w) X.A (spliced (backTo pos (starEach es X.env))) (AP X pins σ Q) X.xe s
def PS (X : Cx) (st : Stmt) (t : TS) : Prop :=
 ∀ (pins : List (Addr × Obj)) (s : Shared) (σ : St) (H : Hp) (D : Ends),Inv X pins σ H s -> t D σ H -> wpAny (model X.prog X.w) X.A (exec st X.env) (SP X pins D) X.xe s
def PSs (X : Cx) (st : List Stmt) (t : TS) : Prop :=
 ∀ (pins : List (Addr × Obj)) (s : Shared) (σ : St) (H : Hp) (D : Ends),Inv X pins σ H s -> t D σ H -> wpAny (model X.prog X.w) X.A (execs st X.env) (SP X pins D) X.xe s
theorem thn {α : Type} {t : Sem α} {Q Q' : α -> Shared -> Prop} {M : Model} {A : Around} {E : Value -> Shared -> Prop} {s : Shared} (h : wpAny M A t Q E s) (hQ : ∀ a s,Q a s -> Q' a s) : wpAny M A t Q' E s := wpAny_mono h hQ fun _ _ x => x
end L2
namespace L2
open PySem PySem.Spec PyProof.Rows
section
variable {X : Cx}
def tVar (i : Nat) : TE := fun σ H Q => ∃ v,σ[i]? = some (some v) /\ Q v H
def tC (v : V) : TE := fun _ H Q => Q v H
theorem pe_var {i : Nat} {x : Str} {pos : Pos} (hN : X.N[i]? = some x) (hv : Vis X.env.scope x) (hd : (x == ("__debug__" : Str)) = false := by decide) (hcd : (x == ("__classdict__" : Str)) = false := by decide) : PE X (.Name x pos) (tVar i) := by
 intro pins s σ H Q I h
 obtain ⟨v,e,h⟩ := h
 obtain ⟨m,hn,hl⟩ := I.loc
 obtain ⟨u,r,l⟩ := hl i x v hN e hv
 have fin : EP X pins σ Q u s := ⟨v,H,I,r,h⟩
 rcases l with ⟨hk,hm⟩ | ⟨hk,c,hc,hcell⟩
 ·exact wpAny_Name (wpAny_loadName_local I.ok.kind hk hn hm fin) hd
 ·rcases hk with hk | hk
  ·exact wpAny_Name (wpAny_loadName_cell I.ok.kind hk hc hcell fin) hd
  ·exact wpAny_Name (wpAny_loadName_free I.ok.kind hk hc hcell fin hcd) hd
theorem pe_int {i j pos} : PE X (.Constant (.int i) j pos) (tC (.int i)) := fun _ _ _ H _ I h => wpAny_Constant_int ⟨.int i,H,I.tok _,⟨_,rfl⟩,h⟩
theorem pe_bl {b j pos} : PE X (.Constant (.bool b) j pos) (tC (.bl b)) := fun _ _ _ H _ I h => Constant_bool ⟨.bl b,H,I,rfl,h⟩
theorem pe_non {j pos} : PE X (.Constant .none j pos) (tC .non) := fun _ _ _ H _ I h => Constant_none ⟨.non,H,I,rfl,h⟩
def Gl (X : Cx) (x : Str) : Prop := X.env.kindOf x = some .globalImplicit
theorem ld_glob {E : Value -> Shared -> Prop} {pins : List (Addr × Obj)} {s : Shared} {σ : St} {H : Hp} {x : Str} {u : Value} {pos : Pos} {Q : Value -> Shared -> Prop} (I : Inv X pins σ H s) (hg : Gl X x) (hm : X.mg x = some u) (h : Q u s)
  (hd : (x == ("__debug__" : Str)) = false := by decide) : wpAny (model X.prog X.w) X.A (eval (.Name x pos) X.env) Q E s :=
 Calls.Name_function_global I.ok.kind hg (Calls.loadGlobal_global (by rw [I.ok.glob]; exact I.mod.glob.keeps I.bk) hm h) hd
theorem ld_blt {E : Value -> Shared -> Prop} {pins : List (Addr × Obj)} {s : Shared} {σ : St} {H : Hp} {x : Str} {u : Value} {pos : Pos} {Q : Value -> Shared -> Prop} (I : Inv X pins σ H s) (hg : Gl X x) (hm : X.mg x = none) (hv : bootBuiltins x = some u) (h : Q u s)
  (hn : x ≠ "__name__" := by decide) (hd : (x == ("__debug__" : Str)) = false := by decide) : wpAny (model X.prog X.w) X.A (eval (.Name x pos) X.env) Q E s := by
 obtain ⟨mb,h1,h2⟩ := I.mod.blt
 exact Calls.Name_function_global I.ok.kind hg (Calls.loadGlobal_builtin (by rw [I.ok.glob]; exact I.mod.glob.keeps I.bk) hm (by rw [I.ok.blt]; exact h1.keeps I.bk) ((h2 x hn).trans hv) h) hd
theorem pe_glob {x : Str} {v : V} {u : Value} {pos : Pos} (hg : Gl X x) (hm : X.mg x = some u) (r : RelV v u) (hd : (x == ("__debug__" : Str)) = false := by decide) : PE X (.Name x pos) (tC v) :=
 fun _ _ _ H _ I h => ld_glob I hg hm ⟨v,H,I,r,h⟩ hd
variable {a b : Expr} {ta tb : TE} {pos : Pos}
def tB (t : TE) : TT := fun σ H Q => t σ H fun x H1 => ∃ c,x = .bl c /\ Q c H1
theorem pt_val {e : Expr} {t : TE} (h : PE X e t) (he : ∀ whole,isTrue e X.env whole = (do let v <- whole; standAt e.pos; holding [v] (truthy v)) := by intro _; rfl) : PT X e (tB t) := by
 intro pins s σ H Q I hw
 refine isTrue_plain (thn (h pins s σ H _ I hw) fun v s1 ⟨x,H1,I1,r1,q1⟩ => ?_) (he _)
 obtain ⟨d,rfl,q⟩ := q1
 cases r1
 exact wpAny_truthy_bool ⟨H1,I1,q⟩
variable {tA tB' : TT} {rest : List Expr}
def tAnd (t u : TT) : TT := fun σ H Q => t σ H fun c H1 => if c = true then u σ H1 Q else Q false H1
def tOr (t u : TT) : TT := fun σ H Q => t σ H fun c H1 => if c = true then Q true H1 else u σ H1 Q
def tNot (t : TT) : TT := fun σ H Q => t σ H fun c H1 => Q (!c) H1
theorem pw_and1 (ha : PT X a tA) : PW X (.BoolOp .And [a] pos) tA := by
 intro wh pins s σ H Q I h
 refine isTrue_and (thn (ha pins s σ H Q I h) fun c s1 e => ?_)
 cases c with
 | true => exact isTrue_and_nil e
 | false => exact e
theorem pw_or1 (ha : PT X a tA) : PW X (.BoolOp .Or [a] pos) tA := by
 intro wh pins s σ H Q I h
 refine isTrue_or (thn (ha pins s σ H Q I h) fun c s1 e => ?_)
 cases c with
 | false => exact isTrue_or_nil e
 | true => exact e
theorem pw_and (ha : PT X a tA) (hb : PW X (.BoolOp .And (b :: rest) pos) tB') : PW X (.BoolOp .And (a :: b :: rest) pos) (tAnd tA tB') := by
 intro wh pins s σ H Q I h
 refine isTrue_and (thn (ha pins s σ H _ I h) fun c s1 ⟨H1,I1,q1⟩ => ?_)
 cases c with
 | true => exact hb wh pins s1 σ H1 Q I1 q1
 | false => exact ⟨H1,I1,q1⟩
theorem pw_or (ha : PT X a tA) (hb : PW X (.BoolOp .Or (b :: rest) pos) tB') : PW X (.BoolOp .Or (a :: b :: rest) pos) (tOr tA tB') := by
 intro wh pins s σ H Q I h
 refine isTrue_or (thn (ha pins s σ H _ I h) fun c s1 ⟨H1,I1,q1⟩ => ?_)
 cases c with
 | true => exact ⟨H1,I1,q1⟩
 | false => exact hb wh pins s1 σ H1 Q I1 q1
theorem pt_not (ha : PT X a tA) : PT X (.UnaryOp .Not a pos) (tNot tA) := by
 intro pins s σ H Q I h
 exact isTrue_not (ha pins s σ H (fun c H1 => Q (!c) H1) I h)
def tAndV (ta tb : TE) : TE := fun σ H Q => ta σ H fun x H1 => ∃ c,x = .bl c /\ if c = true then tb σ H1 Q else Q (.bl false) H1
theorem pe_one {op} {t : TE} (h : PE X a t) : PE X (.BoolOp op [a] pos) t := fun pins s σ H Q I hw => BoolOp_one (h pins s σ H Q I hw)
theorem pe_and (ha : PE X a ta) (hb : PE X (.BoolOp .And (b :: rest) pos) tb) : PE X (.BoolOp .And (a :: b :: rest) pos) (tAndV ta tb) := by
 intro pins s σ H Q I h
 refine BoolOp_and (thn (ha pins s σ H _ I h) fun v s1 ⟨x,H1,I1,r1,q1⟩ => ?_)
 obtain ⟨c,rfl,q1⟩ := q1
 cases r1
 refine wpAny_truthy_bool ?_
 cases c with
 | true => exact hb pins s1 σ H1 Q I1 q1
 | false => exact ⟨.bl false,H1,I1,rfl,q1⟩
def tIf (t : TT) (ta tb : TE) : TE := fun σ H Q => t σ H fun c H1 => if c = true then ta σ H1 Q else tb σ H1 Q
theorem pe_ifExp {c : Expr} (hc : PT X c tA) (ha : PE X a ta) (hb : PE X b tb) : PE X (.IfExp c a b pos) (tIf tA ta tb) := by
 intro pins s σ H Q I h
 refine wpAny_IfExp (thn (hc pins s σ H _ I h) fun d s1 ⟨H1,I1,q1⟩ => ?_)
 cases d with
 | true => exact ha pins s1 σ H1 Q I1 q1
 | false => exact hb pins s1 σ H1 Q I1 q1
end
end L2
namespace L2
open PySem PySem.Spec PyProof.Rows
def SqL (K : PySem.W.Frag) (H : Hp) (a : Addr) (xs : List V) : Prop :=
 Rd H a (.lst xs) \/
  ∃ (o : Obj) (its : Array Value) (n : Nat),K.lookup a = some o /\ o.cls = .type "list" /\ o.dict = none /\ o.data = .seq its n /\ its.size <= sizeLine /\ Vals xs its.toList
def SqT (K : PySem.W.Frag) (H : Hp) (a : Addr) (xs : List V) : Prop :=
 Rd H a (.tup xs) \/
  ∃ (o : Obj) (its : Array Value) (n : Nat),K.lookup a = some o /\ o.cls = .type "tuple" /\ o.data = .seq its n /\ its.size <= sizeLine /\ Vals xs its.toList
def absV : Value -> Option V
 | .none => some .non
 | .bool b => some (.bl b)
 | .int i _ => some (.int i)
 | .str x _ => some (.str x)
 | .bytes b _ => some (.byt b)
 | .float b _ => some (.flt b)
 | .ref a => some (.ref a)
 | .type n => some (.ty n)
 | _ => none
theorem RelV.abs {x : V} {u : Value} (r : RelV x u) : absV u = some x := by
 cases x with
 | non => cases r; rfl
 | bl _ => cases r; rfl
 | int _ => obtain ⟨t,rfl⟩ := r; rfl
 | str _ => obtain ⟨t,rfl⟩ := r; rfl
 | byt _ => obtain ⟨t,rfl⟩ := r; rfl
 | flt _ => obtain ⟨t,rfl⟩ := r; rfl
 | ref _ => cases r; rfl
 | ty _ => cases r; rfl
theorem RelV.inj {x y : V} {u : Value} (r : RelV x u) (q : RelV y u) : x = y := Option.some.inj (r.abs.symm.trans q.abs)
theorem Vals.inj : ∀ {xs ys : List V} {us : List Value},Vals xs us -> Vals ys us -> xs = ys
 | _,_,_,.nil,.nil => rfl
 | _,_,_,.cons r t,.cons r' t' => by rw [r.inj r',Vals.inj t t']
section
variable {X : Cx} {pins : List (Addr × Obj)} {σ : St} {H : Hp} {s : Shared} {a : Addr} {xs ys : List V}
theorem SqL.of {K : PySem.W.Frag} (h : H a = some (.lst xs)) : SqL K H a xs := .inl (.inl h)
theorem SqT.of {K : PySem.W.Frag} (h : H a = some (.tup xs)) : SqT K H a xs := .inl (.inl h)
theorem Inv.list (I : Inv X pins σ H s) (h : SqL X.K H a xs) : ∃ its : List Value,Vals xs its /\ PlainL s.heap a its.toArray /\ xs.length <= sizeLine := by
 rcases h with h | ⟨o,its,n,hk,hc,hd,hs,hz,r⟩
 ·obtain ⟨z,its,n,r,e⟩ := h.ok I.hok
  exact ⟨its,r,⟨_,n,e,rfl,rfl,rfl⟩,z⟩
 ·refine ⟨its.toList,r,⟨o,n,I.kIn a o hk,hc,hd,by simpa using hs⟩,?_⟩
  have e := r.length
  simp only [Array.length_toList] at e
  omega
theorem Inv.tuple (I : Inv X pins σ H s) (h : SqT X.K H a xs) : ∃ its : List Value,Vals xs its /\ IsTup s.heap a its.toArray /\ xs.length <= sizeLine := by
 rcases h with h | ⟨o,its,n,hk,hc,hs,hz,r⟩
 ·obtain ⟨z,its,r,p⟩ := h.ok I.hok
  exact ⟨its,r,p,z⟩
 ·refine ⟨its.toList,r,⟨o,I.kIn a o hk,hc,n,by simpa using hs⟩,?_⟩
  have e := r.length
  simp only [Array.length_toList] at e
  omega
theorem Inv.list_inj (I : Inv X pins σ H s) (h : SqL X.K H a xs) (h' : SqL X.K H a ys) : xs = ys := by
 obtain ⟨its,r,⟨o,n,e,_,_,d⟩,_⟩ := I.list h
 obtain ⟨its',r',⟨o',n',e',_,_,d'⟩,_⟩ := I.list h'
 rw [e] at e'; cases e'
 rw [d] at d'
 injection d' with d1 _
 have : its = its' := by simpa using congrArg Array.toList d1
 subst this
 exact r.inj r'
end
abbrev Cx.wish (X : Cx) (E : Value -> Shared -> Prop) : Cx := { X with xe := E }
abbrev Cx.nox (X : Cx) : Cx := X.wish fun _ _ => False
theorem Cx.Ok.wish {X : Cx} (ok : X.Ok) (E : Value -> Shared -> Prop) : (X.wish E).Ok :=
 ⟨ok.mod,ok.kind,ok.glob,ok.blt,ok.above,ok.inj,ok.has,ok.cab,ok.hd,ok.frames,ok.stk,ok.exf,ok.bs,ok.bsz,ok.noex,ok.exfs,ok.funs,ok.frf⟩
theorem Cx.Ok.unwish {X : Cx} {E : Value -> Shared -> Prop} (ok : (X.wish E).Ok) : X.Ok :=
 ⟨ok.mod,ok.kind,ok.glob,ok.blt,ok.above,ok.inj,ok.has,ok.cab,ok.hd,ok.frames,ok.stk,ok.exf,ok.bs,ok.bsz,ok.noex,ok.exfs,ok.funs,ok.frf⟩
section
variable {X : Cx} {pins : List (Addr × Obj)} {σ : St} {H : Hp} {s : Shared} {E : Value -> Shared -> Prop}
theorem Inv.wish (I : Inv X pins σ H s) (E : Value -> Shared -> Prop) : Inv (X.wish E) pins σ H s := ⟨I.ok.wish E,I.os,I.bare,I.base,I.loc,I.cell,I.free,I.freeC,I.pin,I.hok,I.len⟩
theorem Inv.unwish (I : Inv (X.wish E) pins σ H s) : Inv X pins σ H s := ⟨I.ok.unwish,I.os,I.bare,I.base,I.loc,I.cell,I.free,I.freeC,I.pin,I.hok,I.len⟩
theorem SP.unwish {D : Ends} {f : Flow} {s' : Shared} (h : SP (X.wish E) pins D f s') : SP X pins D f s' := by
 cases f with
 | next => obtain ⟨σ',H',I,q⟩ := h; exact ⟨σ',H',I.unwish,q⟩
 | brk => obtain ⟨σ',H',I,q⟩ := h; exact ⟨σ',H',I.unwish,q⟩
 | cont => obtain ⟨σ',H',I,q⟩ := h; exact ⟨σ',H',I.unwish,q⟩
 | ret u => obtain ⟨v,σ',H',I,r,q⟩ := h; exact ⟨v,σ',H',I.unwish,r,q⟩
theorem PSs.nox {st : List Stmt} {t : TS} (h : PSs X.nox st t) : PSs X st t := fun pins s σ H D I hw =>
 wpAny_mono (h pins s σ H D (I.wish _) hw) (fun _ _ q => q.unwish) fun _ _ z => False.elim z
end
section
variable {X : Cx} {st : Stmt} {rest : List Stmt} {t u : TS} {e : Expr} {te : TE} {pos : Pos}
def tNext : TS := fun D σ H => D.nx σ H
def tSeq (t u : TS) : TS := fun D σ H => t { D with nx := u D } σ H
theorem pss_nil : PSs X [] tNext := fun _ _ σ H _ I h => wpAny_execs_nil ⟨σ,H,I,h⟩
theorem pss_cons (h1 : PS X st t) (h2 : PSs X rest u) : PSs X (st :: rest) (tSeq t u) := by
 intro pins s σ H D I h
 refine wpAny_execs_cons (thn (h1 pins s σ H { D with nx := u D } I h) fun f s1 q => ?_)
 cases f with
 | next =>
  obtain ⟨σ',H',I',q⟩ := q
  exact h2 pins s1 σ' H' D I' q
 | ret v => exact q
 | brk => exact q
 | cont => exact q
theorem pss_one (h1 : PS X st t) : PSs X [st] t := by
 intro pins s σ H D I h
 refine wpAny_execs_cons (thn (h1 pins s σ H D I h) fun f s1 q => ?_)
 cases f with
 | next => exact wpAny_execs_nil q
 | ret v => exact q
 | brk => exact q
 | cont => exact q
theorem Inv.quiet {pins : List (Addr × Obj)} {σ : St} {H : Hp} {s : Shared} (I : Inv X pins σ H s) : interactive X.env = false := by simp [interactive,I.ok.kind]
def tDrop (te : TE) : TS := fun D σ H => te σ H fun _ H1 => D.nx σ H1
theorem ps_expr (he : PE X e te) (hs : swapsWith e none pos.line X.env = pure false := by rfl) : PS X (.Expr e pos) (tDrop te) := by
 intro pins s σ H D I h
 exact wpAny_Expr_any (thn (he pins s σ H _ I h) fun v s1 ⟨x,H1,I1,r1,q1⟩ => ⟨σ,H1,I1,q1⟩) I.quiet hs
def tRet (te : TE) : TS := fun D σ H => te σ H D.rt
theorem ps_ret (he : PE X e te) : PS X (.Return (some e) pos) (tRet te) := by
 intro pins s σ H D I h
 exact wpAny_Return_some (thn (he pins s σ H _ I h) fun v s1 ⟨x,H1,I1,r1,q1⟩ => ⟨x,σ,H1,I1,r1,q1⟩)
def tIfS (c : TT) (t u : TS) : TS := fun D σ H => c σ H fun b H1 => if b = true then t D σ H1 else u D σ H1
theorem ps_if {c : Expr} {a b : List Stmt} {tc : TT} (hc : PT X c tc) (ha : PSs X a t) (hb : PSs X b u) : PS X (.If c a b pos) (tIfS tc t u) := by
 intro pins s σ H D I h
 refine wpAny_If (thn (hc pins s σ H _ I h) fun d s1 ⟨H1,I1,q1⟩ => ?_)
 cases d with
 | true => exact ha pins s1 σ H1 D I1 q1
 | false => exact hb pins s1 σ H1 D I1 q1
end
abbrev TG := V -> St -> Hp -> (St -> Hp -> Prop) -> Prop
abbrev TGs := List V -> St -> Hp -> (St -> Hp -> Prop) -> Prop
def PG (X : Cx) (target : Expr) (t : TG) : Prop :=
 ∀ (pins : List (Addr × Obj)) (s : Shared) (σ : St) (H : Hp) (v : V) (u : Value) (Q : St -> Hp -> Prop),Inv X pins σ H s -> RelV v u -> t v σ H Q ->
  wpAny (model X.prog X.w) X.A (assign target X.env u) (fun _ s' => ∃ σ' H',Inv X pins σ' H' s' /\ Q σ' H') X.xe s
def PGs (X : Cx) (ts : List Expr) (t : TGs) : Prop :=
 ∀ (pins : List (Addr × Obj)) (s : Shared) (σ : St) (H : Hp) (vs : List V) (us : List Value) (Q : St -> Hp -> Prop),Inv X pins σ H s -> Vals vs us -> t vs σ H Q ->
  wpAny (model X.prog X.w) X.A (assignInOrder ((assignEach ts X.env).map (·.2)) us) (fun _ s' => ∃ σ' H',Inv X pins σ' H' s' /\ Q σ' H') X.xe s
abbrev TSet := V -> V -> V -> Hp -> (Hp -> Prop) -> Prop
def PSet (X : Cx) (t : TSet) : Prop :=
 ∀ (pins : List (Addr × Obj)) (s : Shared) (σ : St) (H : Hp) (o i v : V) (ov iv u : Value) (Q : Hp -> Prop),Inv X pins σ H s -> RelV o ov -> RelV i iv -> RelV v u -> t o i v H Q ->
  wpAny (model X.prog X.w) X.A (setItem ov iv u) (fun _ s' => ∃ H',Inv X pins σ H' s' /\ Q H') X.xe s
abbrev TIp := V -> V -> Hp -> VK -> Prop
def PIp (X : Cx) (op : Operator) (t : TIp) : Prop :=
 ∀ (pins : List (Addr × Obj)) (s : Shared) (σ : St) (H : Hp) (x y : V) (v u : Value) (Q : VK),Inv X pins σ H s -> RelV x v -> RelV y u -> t x y H Q ->
  wpAny (model X.prog X.w) X.A (inplaceOp op v u) (EP X pins σ Q) X.xe s
section
variable {X : Cx} {pos : Pos}
def gName (i : Nat) : TG := fun v σ H Q => Q (σ.set i (some v)) H
theorem pg_name {i : Nat} {x : Str} (hN : X.N.Nodup) (hi : X.N[i]? = some x) (hx : Loc X.env.scope x) (hf : X.fn x = true \/ X.env.scope.names.lookup x = some .local := by first | exact .inl rfl | exact .inr rfl | assumption) : PG X (.Name x pos) (gName i) := by
 intro pins s σ H v u Q I r h
 exact wpAny_assign_Name (store_ok I hN hi hx r (fun s' I' => ⟨_,H,I',h⟩) hf)
def gNil : TGs := fun vs σ H Q => vs = [] /\ Q σ H
def gCons (t : TG) (u : TGs) : TGs := fun vs σ H Q => ∃ v r,vs = v :: r /\ t v σ H fun σ' H' => u r σ' H' Q
theorem pgs_nil : PGs X [] gNil := by
 intro pins s σ H vs us Q I r h
 obtain ⟨e,h⟩ := h
 subst e
 cases r
 exact assignInOrder_nil ⟨σ,H,I,h⟩
theorem pgs_cons {e : Expr} {es : List Expr} {t : TG} {u : TGs} (h1 : PG X e t) (h2 : PGs X es u)
  (hs : (assignEach (e :: es) X.env).map (·.2) = assign e X.env :: (assignEach es X.env).map (·.2) := by rfl) : PGs X (e :: es) (gCons t u) := by
 intro pins s σ H vs us Q I r h
 obtain ⟨v,vr,e1,h⟩ := h
 subst e1
 cases r with
 | cons r rr =>
  rw [hs]
  refine assignInOrder_cons (thn (h1 pins s σ H _ _ _ I r h) fun _ s1 ⟨σ1,H1,I1,q1⟩ => ?_)
  exact h2 pins s1 σ1 H1 _ _ Q I1 rr q1
def gTup (K : PySem.W.Frag) (n : Nat) (t : TGs) : TG := fun v σ H Q => ∃ a xs,v = .ref a /\ SqT K H a xs /\ xs.length = n /\ t xs σ H Q
theorem pg_tup {es : List Expr} {k : Nat} {t : TGs} {n : Nat} (hc : X.calm = true) (h : PGs X es t)
  (hn : (assignEach es X.env).length = n := by rfl) (hst : (assignEach es X.env).findIdx? (·.1) = none := by rfl) : PG X (.Tuple es k pos) (gTup X.K n t) := by
 intro pins s σ H v u Q I r hw
 obtain ⟨a,xs,e1,hq,hl,hw⟩ := hw
 subst e1
 cases r
 obtain ⟨its,rv,ht,hz⟩ := I.tuple hq
 refine assign_Tuple_tuple (I.ok.hd hc) ht (by simp [hn,<- hl,rv.length]) hst fun h' hx => ?_
 have I1 : Inv X pins σ H { s with heap := h' } := I.kept (t' := s.toks) fun b o e => hx b o (Nat.ne_of_lt (Heap.lt_size e)) e
 exact h pins _ σ H xs _ Q I1 (by simpa using rv) hw
def gSub (to ti : TE) (t : TSet) : TG := fun v σ H Q => to σ H fun o H1 => ti σ H1 fun i H2 => t o i v H2 fun H3 => Q σ H3
theorem pg_sub {o i : Expr} {to ti : TE} {t : TSet} (ho : PE X o to) (hi : PE X i ti) (hs : PSet X t)
  (ha : ∀ v,assign (.Subscript o i pos) X.env v = (do
   let ov <- holding [v] (eval o X.env)
   let iv <- holding [v,ov] (eval i X.env)
   standAt pos
   holding [v,ov,iv] (setItem ov iv v)
   release [v,ov,iv] []) := by intro _; rfl) : PG X (.Subscript o i pos) (gSub to ti t) := by
 intro pins s σ H v u Q I r h
 rw [ha]
 refine wpAny_bind (wpAny_holding (thn (ho pins s σ H _ I h) fun ov s1 ⟨x,H1,I1,r1,q1⟩ => ?_))
 refine wpAny_bind (wpAny_holding (thn (hi pins s1 σ H1 _ I1 q1) fun iv s2 ⟨y,H2,I2,r2,q2⟩ => ?_))
 refine wpAny_bind (wpAny_standAt (wpAny_bind (wpAny_holding (thn (hs pins s2 σ H2 x y v ov iv u _ I2 r1 r2 r q2) fun _ s3 ⟨H3,I3,q3⟩ => ?_))))
 exact wpAny_release ⟨σ,H3,I3,q3⟩
def tAsg (te : TE) (g : TG) : TS := fun D σ H => te σ H fun x H1 => g x σ H1 D.nx
theorem ps_asg {tg e : Expr} {te : TE} {g : TG} (he : PE X e te) (hg : PG X tg g) (hs : swapsWithSole [tg] e pos.line X.env = pure false := by rfl) (hw : swappedStores [tg] e X.env = pure none := by rfl)
  (h1 : (assignEach [tg] X.env).map (·.2) = [assign tg X.env] := by rfl) : PS X (.Assign [tg] e pos) (tAsg te g) := by
 intro pins s σ H D I h
 refine wpAny_Assign_stores (thn (he pins s σ H _ I h) fun v s1 ⟨x,H1,I1,r1,q1⟩ => ?_) hs hw
 rw [h1]
 exact thn (hg pins s1 σ H1 x v _ I1 r1 q1) fun _ s2 q => q
theorem ps_set {i : Nat} {x : Str} {e : Expr} {te : TE} {pos' : Pos} (hN : X.N.Nodup) (hi : X.N[i]? = some x) (hx : Loc X.env.scope x) (he : PE X e te) (hs : swapsWith e (some (.Name x pos')) pos.line X.env = pure false := by rfl) (hf : X.fn x = true \/ X.env.scope.names.lookup x = some .local := by first | exact .inl rfl | exact .inr rfl | assumption) :
  PS X (.Assign [.Name x pos'] e pos) (tAsg te (gName i)) := by
 intro pins s σ H D I h
 refine wpAny_Assign_Name (thn (he pins s σ H _ I h) fun v s1 ⟨y,H1,I1,r1,q1⟩ => ?_) hs
 exact store_ok I1 hN hi hx r1 (fun s2 I2 => ⟨_,H1,I2,q1⟩) hf
def tAug (i : Nat) (te : TE) (ti : TIp) : TS := fun D σ H => ∃ x,σ[i]? = some (some x) /\ te σ H fun y H1 => ti x y H1 fun z H2 => D.nx (σ.set i (some z)) H2
theorem ps_aug {i : Nat} {x : Str} {e : Expr} {te : TE} {op : Operator} {ti : TIp} {pos' : Pos} (hN : X.N.Nodup) (hi : X.N[i]? = some x) (hx : Loc X.env.scope x) (he : PE X e te) (ho : PIp X op ti) (hf : X.fn x = true \/ X.env.scope.names.lookup x = some .local := by first | exact .inl rfl | exact .inr rfl | assumption) :
  PS X (.AugAssign (.Name x pos') op e pos) (tAug i te ti) := by
 intro pins s σ H D I h
 obtain ⟨v,e1,h⟩ := h
 obtain ⟨m,hn,hl⟩ := I.loc
 have vis : Vis X.env.scope x := by rcases hx with k | k; exact .inl k; exact .inr (.inl k)
 obtain ⟨u,r,l⟩ := hl i x v hi e1 vis
 refine wpAny_AugAssign_Name ?_
 have go : wpAny (model X.prog X.w) X.A (eval e X.env) (fun w s₂ => wpAny (model X.prog X.w) X.A (inplaceOp op u w) (fun r s₃ => wpAny (model X.prog X.w) X.A (storeName X.env x r) (fun _ => SP X pins D .next) X.xe s₃) X.xe s₂) X.xe s := by
  refine thn (he pins s σ H _ I h) fun w s1 ⟨y,H1,I1,r1,q1⟩ => ?_
  refine thn (ho pins s1 σ H1 v y u w _ I1 r r1 q1) fun z s2 ⟨zv,H2,I2,r2,q2⟩ => ?_
  exact store_ok I2 hN hi hx r2 (fun s3 I3 => ⟨_,H2,I3,q2⟩) hf
 rcases l with ⟨hk,hm⟩ | ⟨hk,c,hc,hcell⟩
 ·exact wpAny_loadName_local I.ok.kind hk hn hm go
 ·rcases hk with hk | hk
  ·exact wpAny_loadName_cell I.ok.kind hk hc hcell go
  ·rcases hx with k | k
   ·have : X.env.scope.names.lookup x = some .free := hk
    rw [k] at this; cases this
   ·have : X.env.scope.names.lookup x = some .free := hk
    rw [k] at this; cases this
def ipI (f : Int -> Int -> Int) : TIp := fun x y H Q => ∃ i j,x = .int i /\ y = .int j /\ Q (.int (f i j)) H
theorem ip_add : PIp X .Add (ipI fun i j => i + j) := by
 intro pins s σ H x y v u Q I r1 r2 h
 obtain ⟨i,j,e1,e2,q⟩ := h
 subst e1; subst e2
 obtain ⟨t,rfl⟩ := r1
 obtain ⟨t',rfl⟩ := r2
 exact iadd_int ⟨.int _,H,I.tok _,⟨_,rfl⟩,q⟩
end
section
variable {X : Cx} {pos : Pos}
def tWhile (c : TT) (tb : TS) : TS := fun D σ H => ∃ W : Nat -> St -> Hp -> Prop,(∃ m,W m σ H) /\ ∀ m σ H,W m σ H ->
 c σ H fun b H1 => if b = true then ∃ N : St -> Hp -> Prop,(∀ σ' H',N σ' H' -> ∃ m',m' < m /\ W m' σ' H') /\ tb { D with nx := N,ct := N,bk := D.nx } σ H1 else D.nx σ H1
theorem ps_while {c : Expr} {body : List Stmt} {tc : TT} {tb : TS} (hp : PassesOwn (model X.prog X.w) X.A X.env X.xe) (hc : PT X c tc) (hb : PSs X body tb) : PS X (.While c body [] pos) (tWhile tc tb) := by
 intro pins s σ H D I h
 obtain ⟨W,⟨m0,w0⟩,turn⟩ := h
 refine wpAny_While (codeAny_whileLoop (fun n s' => ∃ σ' H',Inv X pins σ' H' s' /\ W n σ' H') ?_ m0 ⟨σ,H,I,w0⟩)
 rintro n s1 ⟨σ1,H1,I1,w1⟩
 refine wpAny_passesOwn hp (thn (hc pins s1 σ1 H1 _ I1 (turn n σ1 H1 w1)) fun b s2 ⟨H2,I2,q2⟩ => ?_)
 cases b with
 | true =>
  obtain ⟨N,hN,q2⟩ := q2
  rw [if_pos rfl]
  refine wpAny_passesOwn hp (thn (hb pins s2 σ1 H2 _ I2 q2) fun f s3 q3 => ?_)
  cases f with
  | next =>
   obtain ⟨σ3,H3,I3,n3⟩ := q3
   obtain ⟨m',hm,w3⟩ := hN σ3 H3 n3
   exact ⟨m',hm,σ3,H3,I3,w3⟩
  | cont =>
   obtain ⟨σ3,H3,I3,n3⟩ := q3
   obtain ⟨m',hm,w3⟩ := hN σ3 H3 n3
   exact ⟨m',hm,σ3,H3,I3,w3⟩
  | brk => exact q3
  | ret v => exact q3
 | false =>
  rw [if_neg Bool.false_ne_true]
  exact wpAny_execs_nil ⟨σ1,H2,I2,q2⟩
end
structure It where
 go : Nat -> Hp -> Prop
 yld : Nat -> Hp -> V -> Hp -> Prop
 stop : Nat -> Hp -> Prop
def FpOk (X : Cx) (pins : List (Addr × Obj)) (H : Hp) (b : Addr) : Prop :=
 H b = none /\ b ≠ X.env.locals /\ b ∉ X.fs /\ (b ∈ X.ex \/ X.s_0.heap.objs.size <= b) /\ (∀ x c,X.env.cells.lookup x = some c -> c ≠ b) /\ ∀ p ∈ X.pn ++ pins,p.1 ≠ b
theorem Inv.fpOk {X : Cx} {pins : List (Addr × Obj)} {σ : St} {H H' : Hp} {s : Shared} {b : Addr} (I : Inv X pins σ H s) (hb : s.heap.objs.size <= b) (hn : H' b = none) : FpOk X pins H' b := by
 refine ⟨hn,Nat.ne_of_gt (Nat.lt_of_lt_of_le I.lt hb),I.nofs hb,.inr (Nat.le_trans I.sz hb),fun x c e z => ?_,fun p hp z => ?_⟩
 ·obtain ⟨v,q⟩ := I.cell x c e
  exact absurd (Nat.lt_of_lt_of_le q.lt (by rw [z]; exact hb)) (Nat.lt_irrefl _)
 ·exact absurd (Nat.lt_of_lt_of_le (Heap.lt_size (I.pin p hp).1) (by rw [z]; exact hb)) (Nat.lt_irrefl _)
structure Turn (P : Program) (w : World) (K : PySem.W.Frag) (tg : Expr) (J : It) (fp : List Addr) (it : Addr) (tn : Nat -> Heap -> Prop) : Prop where
 mem : it ∈ fp
 obj : ∀ i h,tn i h -> ∀ b ∈ fp,∃ o,h.get? b = some o /\ ∀ v,o.data ≠ .cell v
 keep : ∀ i h h',tn i h -> (∀ b ∈ fp,∀ o,h.get? b = some o -> h'.get? b = some o) -> tn i h'
 item : ∀ (X : Cx),X.prog = P -> X.w = w -> X.K = K -> X.calm = true -> ∀ (i : Nat) (pins : List (Addr × Obj)) (s : Shared) (σ : St) (H : Hp) (E : Value -> Shared -> Prop),Inv X pins σ H s -> (∀ b ∈ fp,FpOk X pins H b) -> tn i s.heap -> J.go i H ->
  wpAny (model P w) X.A (pyNext (.ref it)) (fun r s1 => ∃ u,r = some u /\
   wpAny (model P w) X.A (letOwnedTupleGo tg (.ref it) u) (fun _ s2 => ∃ x H',Inv X pins σ H' s2 /\ RelV x u /\ J.yld i H x H' /\ tn (i + 1) s2.heap /\ ∀ b ∈ fp,H' b = none) E s1) E s
 done : ∀ (X : Cx),X.prog = P -> X.w = w -> X.K = K -> X.calm = true -> ∀ (i : Nat) (pins : List (Addr × Obj)) (s : Shared) (σ : St) (H : Hp) (E : Value -> Shared -> Prop),Inv X pins σ H s -> (∀ b ∈ fp,FpOk X pins H b) -> tn i s.heap -> J.stop i H ->
  wpAny (model P w) X.A (pyNext (.ref it)) (fun r s1 => r = none /\ Inv X pins σ H s1) E s
 self : ∀ (A : Around) (i : Nat) (s : Shared) (Q : Value -> Shared -> Prop) (E : Value -> Shared -> Prop),tn i s.heap -> Q (.ref it) s -> wpAny (model P w) A (pyIter (.ref it)) Q E s
abbrev TI := St -> Hp -> (It -> Hp -> Prop) -> Prop
def PIE (X : Cx) (pins : List (Addr × Obj)) (σ : St) (tg : Expr) (R : It -> Hp -> Prop) (itv : Value) (s2 : Shared) : Prop :=
 ∃ (it : Addr) (fp : List Addr) (tn : Nat -> Heap -> Prop) (J : It) (H' : Hp),itv = .ref it /\ Inv X pins σ H' s2 /\ Turn X.prog X.w X.K tg J fp it tn /\ tn 0 s2.heap /\ (∀ b ∈ fp,FpOk X pins H' b) /\ R J H'
def PI (X : Cx) (tg iter : Expr) (wi : TI) : Prop :=
 ∀ (pins : List (Addr × Obj)) (s : Shared) (σ : St) (H : Hp) (R : It -> Hp -> Prop),Inv X pins σ H s -> wi σ H R ->
  wpAny (model X.prog X.w) X.A (eval iter X.env) (fun v s1 => wpAny (model X.prog X.w) X.A (pyIter v) (PIE X pins σ tg R) X.xe s1) X.xe s
theorem go_of {M : Model} {A : Around} {E : Value -> Shared -> Prop} {s : Shared} {tg : Expr} {it : Addr} {u : Value} {o : Obj} {n : String} {vs : Array Value} {Q : Unit -> Shared -> Prop} (ho : s.heap.get? it = some o) (hc : o.cls = .type n) (hd : o.data = .fields vs)
    (hn : ["enumerate","zip","dict_itemiterator","dict_reverseitemiterator","odict_iterator","itertools.zip_longest","itertools.pairwise"].contains n = false) (hQ : Q () s) : wpAny M A (letOwnedTupleGo tg (.ref it) u) Q E s := by
  unfold letOwnedTupleGo
  cases tg <;> first
    | exact wpAny_pure hQ
    | (cases u <;> first
        | exact wpAny_pure hQ
        | (refine wpAny_bind (wpAny_load ho ?_)
           rw [hc,hd]
           show wpAny M A (if (["enumerate","zip","dict_itemiterator","dict_reverseitemiterator","odict_iterator","itertools.zip_longest","itertools.pairwise"].contains n && vs[0]? == some (rawInt _)) = true then _ else _) Q E s
           rw [if_neg (by intro h; rw [hn,Bool.false_and] at h; cases h)]
           exact wpAny_pure hQ))
def Itl (K : PySem.W.Frag) (a : Addr) : It :=
 ⟨fun i H => ∃ xs x,SqL K H a xs /\ xs[i]? = some x,fun i H x H' => H' = H /\ ∀ xs,SqL K H a xs -> xs[i]? = some x,fun i H => ∃ xs,SqL K H a xs /\ xs.length <= i⟩
def Itr (lo : Int) (n : Nat) : It := ⟨fun i _ => i < n,fun i H x H' => H' = H /\ x = .int (lo + i),fun i _ => n <= i⟩
theorem turn_list {P : Program} {w : World} {K : PySem.W.Frag} {tg : Expr} (a it : Addr) : Turn P w K tg (Itl K a) [it] it (fun i h => h.IsListIter it a i) where
 mem := by simp
 obj := fun i h st b hb => by
  have e : b = it := by simpa using hb
  subst e
  obtain ⟨o,e,c,d⟩ := st
  exact ⟨o,e,fun v z => by rw [d] at z; cases z⟩
 keep := fun i h h' st k => st.at fun o e => k it (by simp) o e
 item := by
  intro X hP hw hK hc i pins s σ H E I hf st hg
  subst hP hw hK
  obtain ⟨xs,x,hq,hx⟩ := hg
  obtain ⟨its,rv,p,hz⟩ := I.list hq
  obtain ⟨u,hu,ru⟩ := rv.get hx
  obtain ⟨f0,f1,f2,f3,f4,f5⟩ := hf it (by simp)
  refine wpAny_pyNext_list_item st p.isList (x := u) (by simpa using hu) fun h' st' sb => ?_
  have I1 : Inv X pins σ H { s with heap := h' } := I.turned (t' := s.toks) (fun b o hb e => (sb.2 b hb).trans e) f0 f1 f3 f4 f5
  obtain ⟨o,e,c,d⟩ := id st'
  exact ⟨u,rfl,go_of (s := { s with heap := h' }) e c d (by decide) ⟨x,H,I1,ru,⟨rfl,fun ys hy => by rw [I.list_inj hy hq]; exact hx⟩,st',fun b hb => (hf b hb).1⟩⟩
 done := by
  intro X hP hw hK hc i pins s σ H E I hf st hg
  subst hP hw hK
  obtain ⟨xs,hq,hx⟩ := hg
  obtain ⟨its,rv,p,hz⟩ := I.list hq
  obtain ⟨f0,f1,f2,f3,f4,f5⟩ := hf it (by simp)
  have hl := rv.length
  exact wpAny_pyNext_list_end (I.ok.hd hc) st p.isList (by simp; omega) fun h' eb => ⟨rfl,I.turned (t' := s.toks) (fun b o hb e => eb b o hb e) f0 f1 f3 f4 f5⟩
 self := fun _ _ _ _ _ st h => wpAny_pyIter_listiter st h
theorem turn_range {P : Program} {w : World} {K : PySem.W.Frag} {tg : Expr} (it : Addr) (lo : Int) (n : Nat) : Turn P w K tg (Itr lo n) [it] it (fun i h => IsRangeIter h it (lo + (i : Nat) * 1) ((n : Int) - (i : Nat)) 1) where
 mem := by simp
 obj := fun i h st b hb => by
  have e : b = it := by simpa using hb
  subst e
  exact ⟨_,st,fun v z => by
   have z' : Data.fields _ = Data.cell v := z
   cases z'⟩
 keep := fun i h h' st k => k it (by simp) _ st
 item := by
  intro X hP hw hK hc i pins s σ H E I hf st hg
  subst hP hw hK
  obtain ⟨f0,f1,f2,f3,f4,f5⟩ := hf it (by simp)
  have W := Walks.range (prog := X.prog) (w := X.w) (I.ok.hd hc) it lo 1 n
  refine W.item i s _ _ hg st fun v h' tk hv st' kk => ?_
  obtain ⟨t,rfl⟩ := hv
  have I1 : Inv X pins σ H { s with heap := h',toks := tk } := I.turned (fun b o hb e => kk b o (by simpa using hb) e) f0 f1 f3 f4 f5
  refine ⟨_,rfl,go_of (s := { s with heap := h',toks := tk }) (n := "range_iterator") st' rfl rfl (by decide) ⟨.int (lo + i),H,I1,⟨t,?_⟩,⟨rfl,rfl⟩,st',fun b hb => (hf b hb).1⟩⟩
  rw [Int.mul_one]
 done := by
  intro X hP hw hK hc i pins s σ H E I hf st hg
  subst hP hw hK
  obtain ⟨f0,f1,f2,f3,f4,f5⟩ := hf it (by simp)
  exact wpAny_pyNext_range_end (I.ok.hd hc) st (by have : n <= i := hg; omega) fun h' eb => ⟨rfl,I.turned (t' := s.toks) (fun b o hb e => eb b o hb e) f0 f1 f3 f4 f5⟩
 self := fun _ _ _ _ _ st h => wpAny_pyIter_rangeiter st h
end L2
namespace L2
open PySem PySem.Spec PyProof.Rows
section
variable {X : Cx} {tg : Expr}
def iList (K : PySem.W.Frag) (tl : TE) : TI := fun σ H R => tl σ H fun x H1 => ∃ a,x = .ref a /\ (∃ xs,SqL K H1 a xs) /\ R (Itl K a) H1
theorem pi_list {l : Expr} {tl : TE} (hl : PE X l tl) : PI X tg l (iList X.K tl) := by
 intro pins s σ H R I h
 refine thn (hl pins s σ H _ I h) fun v s1 ⟨x,H1,I1,r1,q1⟩ => ?_
 obtain ⟨a,e,⟨xs,hq⟩,q⟩ := q1
 subst e
 cases r1
 obtain ⟨its,rv,p,hz⟩ := I1.list hq
 refine wpAny_pyIter_list p.isList ?_
 refine ⟨s1.heap.objs.size,[s1.heap.objs.size],_,_,H1,rfl,I1.kept (t' := s1.toks) fun b o e => Heap.get?_push_of_some _ e,turn_list a _,⟨_,Heap.get?_push_size _ rfl,rfl,rfl⟩,fun b hb => ?_,q⟩
 have e : b = s1.heap.objs.size := by simpa using hb
 subst e
 exact I1.fpOk (Nat.le_refl _) (I1.hok.fresh (Nat.le_refl _))
theorem range_it {pins : List (Addr × Obj)} {σ : St} {H : Hp} {s : Shared} {R : It -> Hp -> Prop} {E : Value -> Shared -> Prop} {lo hi : Int} {t u v : Tok} {tk : Nat} (I : Inv X pins σ H s) (h1 : -(2 ^ 62) <= lo) (h2 : lo < 2 ^ 62) (h3 : -(2 ^ 62) <= hi) (h4 : hi < 2 ^ 62)
  (q : R (Itr lo (hi - lo).toNat) H) : wpAny (model X.prog X.w) X.A (pyIter (.ref s.heap.objs.size)) (PIE X pins σ tg R) E { s with heap := s.heap.push { cls := .type "range",data := .fields #[.int lo t,.int hi u,.int 1 v] },toks := tk } := by
 refine wpAny_pyIter_range (IsRange.new ..) (small_one h1 h2 h3 h4) ?_
 have I1 : Inv X pins σ H { s with heap := s.heap.push { cls := .type "range",data := .fields #[.int lo t,.int hi u,.int 1 v] },toks := tk } := I.kept fun b o e => Heap.get?_push_of_some _ e
 refine ⟨(s.heap.push { cls := .type "range",data := .fields #[.int lo t,.int hi u,.int 1 v] }).objs.size,[(s.heap.push { cls := .type "range",data := .fields #[.int lo t,.int hi u,.int 1 v] }).objs.size],_,_,H,rfl,
  I1.kept (t' := tk) fun b o e => Heap.get?_push_of_some _ e,turn_range _ lo (hi - lo).toNat,?_,fun b hb => ?_,q⟩
 ·have e1 : lo + ((0 : Nat) : Int) * 1 = lo := by simp
  have e2 : (((hi - lo).toNat : Nat) : Int) - ((0 : Nat) : Int) = Builtin.Range.rangeSize lo hi 1 := by rw [rangeSize_one]; split <;> omega
  show IsRangeIter _ _ (lo + ((0 : Nat) : Int) * 1) ((((hi - lo).toNat : Nat) : Int) - ((0 : Nat) : Int)) 1
  rw [e1,e2]
  exact Heap.get?_push_size _ rfl
 ·have e : b = (s.heap.push { cls := .type "range",data := .fields #[.int lo t,.int hi u,.int 1 v] }).objs.size := by simpa using hb
  subst e
  exact I1.fpOk (Nat.le_refl _) (I1.hok.fresh (Nat.le_refl _))
def iRng1 (ta : TA) : TI := fun σ H R => ta σ H fun vs H1 => ∃ j : Int,vs = [.int j] /\ -(2 ^ 62) <= j /\ j < 2 ^ 62 /\ R (Itr 0 j.toNat) H1
theorem pi_range1 {a : Expr} {ta : TA} {p pos : Pos} (hg : Gl X "range") (hm : X.mg "range" = none) (ha : PA X [a] ta) (hs : starEach [a] X.env = [(false,eval a X.env)] := by rfl) : PI X tg (.Call (.Name "range" p) [a] [] pos) (iRng1 ta) := by
 intro pins s σ H R I h
 refine Call_ (ld_blt I hg hm boot_range (PyProof.Rows.callWith_type1 (thn (ha pos pins s σ H _ I h) fun us s1 ⟨vs,H1,I1,r1,q1⟩ => ?_) hs rfl))
 obtain ⟨j,e,q1,q2,q⟩ := q1
 subst e
 cases r1 with
 | cons r rr =>
  cases rr
  obtain ⟨t,rfl⟩ := r
  exact call_range_1 (range_it I1 (by omega) (by omega) q1 q2 (by simpa using q))
def tFor (wi : TI) (g : TG) (tb : TS) : TS := fun D σ H => wi σ H fun J H1 => ∃ W : Nat -> Nat -> St -> Hp -> Prop,(∃ m,W 0 m σ H1) /\ ∀ i m σ H,W i m σ H ->
 (J.stop i H /\ D.nx σ H) \/ (J.go i H /\ ∃ N : St -> Hp -> Prop,(∀ σ' H',N σ' H' -> ∃ m',m' < m /\ W (i + 1) m' σ' H') /\ ∀ x H',J.yld i H x H' -> g x σ H' fun σ2 H2 => tb { D with nx := N,ct := N,bk := D.nx } σ2 H2)
def pinsAt (fp : List Addr) (h : Heap) : List (Addr × Obj) := fp.filterMap fun b => (h.get? b).map fun o => (b,o)
theorem mem_pinsAt {fp : List Addr} {h : Heap} {b : Addr} {o : Obj} (hb : b ∈ fp) (e : h.get? b = some o) : (b,o) ∈ pinsAt fp h := List.mem_filterMap.mpr ⟨b,hb,by rw [e]; rfl⟩
theorem of_pinsAt {fp : List Addr} {h : Heap} {p : Addr × Obj} (hp : p ∈ pinsAt fp h) : p.1 ∈ fp /\ h.get? p.1 = some p.2 := by
 obtain ⟨b,hb,e⟩ := List.mem_filterMap.mp hp
 cases q : h.get? b with
 | none => rw [q] at e; cases e
 | some o =>
  rw [q] at e
  have e' : (b,o) = p := Option.some.inj e
  subst e'
  exact ⟨hb,q⟩
theorem Inv.pinned {pins : List (Addr × Obj)} {σ : St} {H : Hp} {s : Shared} {fp : List Addr} (I : Inv X pins σ H s) (hf : ∀ b ∈ fp,FpOk X pins H b) (ho : ∀ b ∈ fp,∃ o,s.heap.get? b = some o /\ ∀ v,o.data ≠ .cell v) : Inv X (pins ++ pinsAt fp s.heap) σ H s :=
 I.pins_of fun p hp => (List.mem_append.mp hp).elim (fun z => I.pin p (List.mem_append_right _ z)) fun z => by
  obtain ⟨hb,e⟩ := of_pinsAt z
  obtain ⟨f0,f1,f2,_⟩ := hf p.1 hb
  obtain ⟨o,e',d⟩ := ho p.1 hb
  rw [e] at e'; cases e'
  exact ⟨e,f0,f1,f2,d⟩
theorem Inv.unpinned {pins pl : List (Addr × Obj)} {σ : St} {H : Hp} {s : Shared} (I : Inv X (pins ++ pl) σ H s) : Inv X pins σ H s := I.pins_of fun p hp => I.pin p (List.mem_append_right _ (List.mem_append_left _ hp))
theorem ps_for {iter : Expr} {body : List Stmt} {wi : TI} {g : TG} {tb : TS} {pos : Pos} (hp : PassesOwn (model X.prog X.w) X.A X.env X.xe) (hc : X.calm = true) (hi : PI X tg iter wi) (hg : PG X tg g) (hb : PSs X body tb)
  (hs : ∀ x,foldedSetIterable iter X.env x = pure x := by intro _; rfl) : PS X (.For tg iter body [] pos) (tFor wi g tb) := by
 intro pins s σ H D I h
 refine wpAny_For (thn (hi pins s σ H _ I h) fun v s1 h1 => thn h1 fun itv s2 h2 => ?_) hs
 obtain ⟨it,fp,tn,J,H2,e,I2,T,st2,f2,W,⟨m0,w0⟩,turn⟩ := h2
 subst e
 have stat : ∀ {H' : Hp},(∀ b ∈ fp,H' b = none) -> ∀ b ∈ fp,FpOk X pins H' b := fun hn b hb => ⟨hn b hb,(f2 b hb).2⟩
 refine codeAny_forLoop_any (fun n s' => ∃ i σ' H',Inv X pins σ' H' s' /\ tn i s'.heap /\ (∀ b ∈ fp,H' b = none) /\ W i n σ' H') ?_ m0 ⟨0,σ,H2,I2,st2,fun b hb => (f2 b hb).1,w0⟩
 rintro n s3 ⟨i,σ3,H3,I3,st3,fr3,w3⟩
 rcases turn i n σ3 H3 w3 with ⟨stop,qn⟩ | ⟨go,N,hN,step⟩
 ·refine wpAny_passesOwn hp (thn (T.done X rfl rfl rfl hc i pins s3 σ3 H3 X.xe I3 (stat fr3) st3 stop) fun r s4 ⟨hr,I4⟩ => ?_)
  subst hr
  exact wpAny_execs_nil ⟨σ3,H3,I4,qn⟩
 ·refine wpAny_passesOwn hp (thn (T.item X rfl rfl rfl hc i pins s3 σ3 H3 X.xe I3 (stat fr3) st3 go) fun r s4 ⟨u,hr,h4⟩ => ?_)
  subst hr
  refine wpAny_passesOwn hp (thn h4 fun _ s5 ⟨x,H5,I5,r5,y5,st5,fr5⟩ => ?_)
  have I5' := I5.pinned (stat fr5) (T.obj _ _ st5)
  refine wpAny_passesOwn hp (thn (hg _ s5 σ3 H5 x u _ I5' r5 (step x H5 y5)) fun _ s6 ⟨σ6,H6,I6,q6⟩ => ?_)
  refine wpAny_passesOwn hp (thn (hb _ s6 σ6 H6 _ I6 q6) fun f s7 q7 => ?_)
  have again : ∀ {σ7 : St} {H7 : Hp},Inv X (pins ++ pinsAt fp s5.heap) σ7 H7 s7 -> N σ7 H7 -> ∃ m,m < n /\ ∃ i σ' H',Inv X pins σ' H' s7 /\ tn i s7.heap /\ (∀ b ∈ fp,H' b = none) /\ W i m σ' H' := fun {σ7 H7} I7 n7 => by
   obtain ⟨m',hm,w7⟩ := hN σ7 H7 n7
   refine ⟨m',hm,i + 1,σ7,H7,I7.unpinned,T.keep _ _ _ st5 fun b hb o e => (I7.pin (b,o) (List.mem_append_right _ (List.mem_append_right _ (mem_pinsAt hb e)))).1,fun b hb => ?_,w7⟩
   obtain ⟨o,e,d⟩ := T.obj _ _ st5 b hb
   exact (I7.pin (b,o) (List.mem_append_right _ (List.mem_append_right _ (mem_pinsAt hb e)))).2.1
  cases f with
  | next => obtain ⟨σ7,H7,I7,n7⟩ := q7; exact again I7 n7
  | cont => obtain ⟨σ7,H7,I7,n7⟩ := q7; exact again I7 n7
  | brk => obtain ⟨σ7,H7,I7,q7⟩ := q7; exact ⟨σ7,H7,I7.unpinned,q7⟩
  | ret v => obtain ⟨x7,σ7,H7,I7,r7,q7⟩ := q7; exact ⟨x7,σ7,H7,I7.unpinned,r7,q7⟩
end
theorem for_list {K : PySem.W.Frag} {a : Addr} {xs : List V} {g : TG} {tb : TS} {D : Ends} {σ : St} {H : Hp} (Pv : Nat -> St -> Hp -> Prop) (h0 : Pv 0 σ H) (hl : ∀ i σ H,i <= xs.length -> Pv i σ H -> SqL K H a xs)
  (hs : ∀ i x σ H,xs[i]? = some x -> Pv i σ H -> g x σ H fun σ2 H2 => tb { D with nx := Pv (i + 1),ct := Pv (i + 1),bk := D.nx } σ2 H2) (hd : ∀ σ H,Pv xs.length σ H -> D.nx σ H) :
  ∃ W : Nat -> Nat -> St -> Hp -> Prop,(∃ m,W 0 m σ H) /\ ∀ i m σ H,W i m σ H ->
   ((Itl K a).stop i H /\ D.nx σ H) \/ ((Itl K a).go i H /\ ∃ N : St -> Hp -> Prop,(∀ σ' H',N σ' H' -> ∃ m',m' < m /\ W (i + 1) m' σ' H') /\ ∀ x H',(Itl K a).yld i H x H' -> g x σ H' fun σ2 H2 => tb { D with nx := N,ct := N,bk := D.nx } σ2 H2) := by
 refine ⟨fun i m σ H => m = xs.length - i /\ i <= xs.length /\ Pv i σ H,⟨xs.length,by simp,Nat.zero_le _,h0⟩,?_⟩
 rintro i m σ H ⟨rfl,hi,p⟩
 have q := hl i σ H hi p
 by_cases hlt : i < xs.length
 ·refine .inr ⟨⟨xs,xs[i],q,by simp [hlt]⟩,Pv (i + 1),fun σ' H' p' => ⟨xs.length - (i + 1),by omega,rfl,hlt,p'⟩,fun x H' y => ?_⟩
  obtain ⟨e,y⟩ := y
  subst e
  exact hs i x σ _ (y xs q) p
 ·have e : i = xs.length := by omega
  subst e
  exact .inl ⟨⟨xs,q,Nat.le_refl _⟩,hd σ H p⟩
theorem for_range {lo : Int} {n : Nat} {g : TG} {tb : TS} {D : Ends} {σ : St} {H : Hp} (Pv : Nat -> St -> Hp -> Prop) (h0 : Pv 0 σ H)
  (hs : ∀ i σ H,i < n -> Pv i σ H -> g (.int (lo + i)) σ H fun σ2 H2 => tb { D with nx := Pv (i + 1),ct := Pv (i + 1),bk := D.nx } σ2 H2) (hd : ∀ σ H,Pv n σ H -> D.nx σ H) :
  ∃ W : Nat -> Nat -> St -> Hp -> Prop,(∃ m,W 0 m σ H) /\ ∀ i m σ H,W i m σ H ->
   ((Itr lo n).stop i H /\ D.nx σ H) \/ ((Itr lo n).go i H /\ ∃ N : St -> Hp -> Prop,(∀ σ' H',N σ' H' -> ∃ m',m' < m /\ W (i + 1) m' σ' H') /\ ∀ x H',(Itr lo n).yld i H x H' -> g x σ H' fun σ2 H2 => tb { D with nx := N,ct := N,bk := D.nx } σ2 H2) := by
 refine ⟨fun i m σ H => m = n - i /\ i <= n /\ Pv i σ H,⟨n,by simp,Nat.zero_le _,h0⟩,?_⟩
 rintro i m σ H ⟨rfl,hi,p⟩
 by_cases hlt : i < n
 ·refine .inr ⟨hlt,Pv (i + 1),fun σ' H' p' => ⟨n - (i + 1),by omega,rfl,hlt,p'⟩,fun x H' y => ?_⟩
  obtain ⟨e,y⟩ := y
  subst e y
  exact hs i σ _ hlt p
 ·have e : i = n := by omega
  subst e
  exact .inl ⟨Nat.le_refl _,hd σ H p⟩
end L2
namespace L2
open PySem PySem.Spec PyProof.Rows
abbrev R2 := V -> V -> Hp -> VK -> Prop
def OpR (X : Cx) (f : Value -> Value -> Sem Value) (r : R2) : Prop :=
 ∀ (pins : List (Addr × Obj)) (s : Shared) (σ : St) (H : Hp) (x y : V) (v u : Value) (Q : VK),Inv X pins σ H s -> RelV x v -> RelV y u -> r x y H Q ->
  wpAny (model X.prog X.w) X.A (f v u) (EP X pins σ Q) X.xe s
def UnR (X : Cx) (f : Value -> Sem Value) (r : V -> Hp -> VK -> Prop) : Prop :=
 ∀ (pins : List (Addr × Obj)) (s : Shared) (σ : St) (H : Hp) (x : V) (v : Value) (Q : VK),Inv X pins σ H s -> RelV x v -> r x H Q ->
  wpAny (model X.prog X.w) X.A (f v) (EP X pins σ Q) X.xe s
def CallR (X : Cx) (f : Value) (r : List V -> Hp -> VK -> Prop) : Prop :=
 ∀ (pins : List (Addr × Obj)) (s : Shared) (σ : St) (H : Hp) (xs : List V) (us : List Value) (Q : VK),Inv X pins σ H s -> Vals xs us -> r xs H Q ->
  wpAny (model X.prog X.w) X.A (call f us) (EP X pins σ Q) X.xe s
def tOp (r : R2) (ta tb : TE) : TE := fun σ H Q => ta σ H fun x H1 => tb σ H1 fun y H2 => r x y H2 Q
def tUn (r : V -> Hp -> VK -> Prop) (ta : TE) : TE := fun σ H Q => ta σ H fun x H1 => r x H1 Q
def rI (C : Int -> Int -> Prop) (g : Int -> Int -> V) : R2 := fun x y H Q => ∃ i j,x = .int i /\ y = .int j /\ C i j /\ Q (g i j) H
def rI0 (g : Int -> Int -> V) : R2 := fun x y H Q => ∃ i j,x = .int i /\ y = .int j /\ Q (g i j) H
def rU (g : Int -> V) : V -> Hp -> VK -> Prop := fun x H Q => ∃ i,x = .int i /\ Q (g i) H
section
variable {X : Cx} {a b c : Expr} {ta tb tc : TE} {pos : Pos}
theorem binT (ha : PE X a ta) (hb : PE X b tb) {pins : List (Addr × Obj)} {s : Shared} {σ : St} {H : Hp} {R : V -> V -> Hp -> Prop} (I : Inv X pins σ H s)
  (h : ta σ H fun x H1 => tb σ H1 fun y H2 => R x y H2) {Q : Value -> Shared -> Prop} {f : Value -> Value -> Sem Value}
  (hf : ∀ v u s2 x y H2,Inv X pins σ H2 s2 -> RelV x v -> RelV y u -> R x y H2 -> wpAny (model X.prog X.w) X.A (f v u) Q X.xe s2) :
  wpAny (model X.prog X.w) X.A (eval a X.env) (fun v s₁ => wpAny (model X.prog X.w) X.A (eval b X.env) (fun u s₂ => wpAny (model X.prog X.w) X.A (f v u) Q X.xe s₂) X.xe s₁) X.xe s := by
 refine thn (ha pins s σ H _ I h) fun v s1 ⟨x,H1,I1,r1,q1⟩ => ?_
 refine thn (hb pins s1 σ H1 _ I1 q1) fun u s2 ⟨y,H2,I2,r2,q2⟩ => ?_
 exact hf v u s2 x y H2 I2 r1 r2 q2
theorem pe_op {op : Operator} {r : R2} (ho : OpR X (binaryOp op) r) (ha : PE X a ta) (hb : PE X b tb) : PE X (.BinOp a op b pos) (tOp r ta tb) := by
 intro pins s σ H Q I h
 exact wpAny_BinOp (binT ha hb I h fun v u s2 x y H2 I2 rx ry q => ho pins s2 σ H2 x y v u Q I2 rx ry q)
theorem pe_un {op : UnaryOp} {r : V -> Hp -> VK -> Prop} (ho : UnR X (unaryOp op) r) (ha : PE X a ta) : PE X (.UnaryOp op a pos) (tUn r ta) := by
 intro pins s σ H Q I h
 exact UnaryOp_ (thn (ha pins s σ H _ I h) fun v s1 ⟨x,H1,I1,r1,q1⟩ => ho pins s1 σ H1 x v Q I1 r1 q1)
theorem opI {f : Value -> Value -> Sem Value} {C : Int -> Int -> Prop} {g : Int -> Int -> Int}
  (rule : ∀ (i j : Int) (t u : Tok) (s : Shared) (Q : Value -> Shared -> Prop) (E : Value -> Shared -> Prop),C i j -> Q (.int (g i j) s.toks) { s with toks := s.toks + 1 } -> wpAny (model X.prog X.w) X.A (f (.int i t) (.int j u)) Q E s) :
  OpR X f (rI C fun i j => .int (g i j)) := by
 intro pins s σ H x y v u Q I rx ry h
 obtain ⟨i,j,rfl,rfl,hc,q⟩ := h
 obtain ⟨t,rfl⟩ := rx
 obtain ⟨t',rfl⟩ := ry
 exact rule i j t t' s _ _ hc ⟨.int (g i j),H,I.tok _,⟨_,rfl⟩,q⟩
theorem opI0 {f : Value -> Value -> Sem Value} {g : Int -> Int -> Int}
  (rule : ∀ (i j : Int) (t u : Tok) (s : Shared) (Q : Value -> Shared -> Prop) (E : Value -> Shared -> Prop),Q (.int (g i j) s.toks) { s with toks := s.toks + 1 } -> wpAny (model X.prog X.w) X.A (f (.int i t) (.int j u)) Q E s) :
  OpR X f (rI0 fun i j => .int (g i j)) := by
 intro pins s σ H x y v u Q I rx ry h
 obtain ⟨i,j,rfl,rfl,q⟩ := h
 obtain ⟨t,rfl⟩ := rx
 obtain ⟨t',rfl⟩ := ry
 exact rule i j t t' s _ _ ⟨.int (g i j),H,I.tok _,⟨_,rfl⟩,q⟩
theorem opB0 {f : Value -> Value -> Sem Value} {g : Int -> Int -> Bool}
  (rule : ∀ (i j : Int) (t u : Tok) (s : Shared) (Q : Value -> Shared -> Prop) (E : Value -> Shared -> Prop),Q (.bool (g i j)) s -> wpAny (model X.prog X.w) X.A (f (.int i t) (.int j u)) Q E s) :
  OpR X f (rI0 fun i j => .bl (g i j)) := by
 intro pins s σ H x y v u Q I rx ry h
 obtain ⟨i,j,rfl,rfl,q⟩ := h
 obtain ⟨t,rfl⟩ := rx
 obtain ⟨t',rfl⟩ := ry
 exact rule i j t t' s _ _ ⟨.bl (g i j),H,I,rfl,q⟩
theorem op_add : OpR X (binaryOp .Add) (rI0 fun i j => .int (i + j)) := opI0 fun _ _ _ _ _ _ _ q => add_int q
theorem op_sub : OpR X (binaryOp .Sub) (rI0 fun i j => .int (i - j)) := opI0 fun _ _ _ _ _ _ _ q => sub_int q
theorem op_mod : OpR X (binaryOp .Mod) (rI (fun _ j => 0 < j) fun i j => .int (i % j)) := opI fun i j _ _ _ _ _ hc q => by
 have h1 : (0 : Int) < j := hc
 exact mod_int' (by omega) (by rw [Int.fmod_eq_emod_of_nonneg i (by omega)]; exact q)
theorem unI {f : Value -> Sem Value} {g : Int -> Int}
  (rule : ∀ (i : Int) (t : Tok) (s : Shared) (Q : Value -> Shared -> Prop) (E : Value -> Shared -> Prop),Q (.int (g i) s.toks) { s with toks := s.toks + 1 } -> wpAny (model X.prog X.w) X.A (f (.int i t)) Q E s) :
  UnR X f (rU fun i => .int (g i)) := by
 intro pins s σ H x v Q I rx h
 obtain ⟨i,rfl,q⟩ := h
 obtain ⟨t,rfl⟩ := rx
 exact rule i t s _ _ ⟨.int (g i),H,I.tok _,⟨_,rfl⟩,q⟩
theorem un_neg : UnR X (unaryOp .USub) (rU fun i => .int (-i)) := unI fun _ _ _ _ _ q => neg_int q
end
def scal : V -> V -> Bool
 | .non,.non => true | .non,.int _ => true | .int _,.non => true | .non,.bl _ => true | .bl _,.non => true | .non,.str _ => true | .str _,.non => true
 | .int _,.int _ => true | .bl _,.bl _ => true | .str _,.str _ => true | .byt _,.byt _ => true
 | .int _,.str _ => true | .str _,.int _ => true | .bl _,.str _ => true | .str _,.bl _ => true
 | _,_ => false
def rEq : R2 := fun x y H Q => scal x y = true /\ Q (.bl (decide (x = y))) H
def rNe : R2 := fun x y H Q => scal x y = true /\ Q (.bl (!decide (x = y))) H
theorem dec_int {i j : Int} : decide (V.int i = V.int j) = (i == j) := by
 rw [Bool.eq_iff_iff]
 simp
theorem dec_bl {i j : Bool} : decide (V.bl i = V.bl j) = (i == j) := by
 rw [Bool.eq_iff_iff]
 simp
theorem dec_str {i j : Str} : decide (V.str i = V.str j) = (i == j) := by
 rw [Bool.eq_iff_iff]
 simp
theorem dec_byt {i j : Array UInt8} : decide (V.byt i = V.byt j) = (i.toList == j.toList) := by
 rw [Bool.eq_iff_iff]
 cases i
 cases j
 simp
section
variable {X : Cx} {a b c : Expr} {ta tb tc : TE} {pos : Pos}
theorem fin_bl {pins : List (Addr × Obj)} {σ : St} {H : Hp} {s : Shared} {Q : VK} {k k' : Bool} (I : Inv X pins σ H s) (q : Q (.bl k) H) (e : k = k') : EP X pins σ Q (.bool k') s := by
 subst e
 exact ⟨.bl k,H,I,rfl,q⟩
theorem op_eq : OpR X (compareOp .Eq) rEq := by
 intro pins s σ H x y v u Q I rx ry h
 obtain ⟨hs,q⟩ := h
 cases x with
 | non =>
  cases rx
  cases y with
  | non => cases ry; exact PySem.EqNone.eq_none_none (fin_bl I q (by simp))
  | bl j => cases ry; exact PySem.EqNone.eq_none_bool (fin_bl I q (by simp))
  | int j => obtain ⟨t',rfl⟩ := ry; exact PySem.EqNone.eq_none_int (fin_bl I q (by simp))
  | str j => obtain ⟨t',rfl⟩ := ry; exact PySem.EqNone.eq_none_str (fin_bl I q (by simp))
  | _ => exact absurd (show false = true from hs) Bool.false_ne_true
 | bl i =>
  cases rx
  cases y with
  | non => cases ry; exact PySem.EqNone.eq_bool_none (fin_bl I q (by simp))
  | bl j => cases ry; exact eq_bool (fin_bl I q dec_bl)
  | str j => obtain ⟨t',rfl⟩ := ry; exact PySem.EqMixed.eq_bool_str (fin_bl I q (by simp))
  | _ => exact absurd (show false = true from hs) Bool.false_ne_true
 | int i =>
  obtain ⟨t,rfl⟩ := rx
  cases y with
  | non => cases ry; exact PySem.EqNone.eq_int_none (fin_bl I q (by simp))
  | int j => obtain ⟨t',rfl⟩ := ry; exact eq_int (fin_bl I q dec_int)
  | str j => obtain ⟨t',rfl⟩ := ry; exact PySem.EqMixed.eq_int_str (fin_bl I q (by simp))
  | _ => exact absurd (show false = true from hs) Bool.false_ne_true
 | str i =>
  obtain ⟨t,rfl⟩ := rx
  cases y with
  | non => cases ry; exact PySem.EqNone.eq_str_none (fin_bl I q (by simp))
  | bl j => cases ry; exact PySem.EqMixed.eq_str_bool (fin_bl I q (by simp))
  | int j => obtain ⟨t',rfl⟩ := ry; exact PySem.EqMixed.eq_str_int (fin_bl I q (by simp))
  | str j => obtain ⟨t',rfl⟩ := ry; exact eq_str (fin_bl I q dec_str)
  | _ => exact absurd (show false = true from hs) Bool.false_ne_true
 | byt i =>
  obtain ⟨t,rfl⟩ := rx
  cases y with
  | byt j => obtain ⟨t',rfl⟩ := ry; exact PySem.W.eq_bytes (fin_bl I q dec_byt)
  | _ => exact absurd (show false = true from hs) Bool.false_ne_true
 | _ => cases y <;> exact absurd (show false = true from hs) Bool.false_ne_true
theorem op_ne : OpR X (compareOp .NotEq) rNe := by
 intro pins s σ H x y v u Q I rx ry h
 obtain ⟨hs,q⟩ := h
 cases x with
 | non =>
  cases rx
  cases y with
  | non => cases ry; exact PySem.EqNone.ne_none_none (fin_bl I q (by simp))
  | bl j => cases ry; exact PySem.EqNone.ne_none_bool (fin_bl I q (by simp))
  | int j => obtain ⟨t',rfl⟩ := ry; exact PySem.EqNone.ne_none_int (fin_bl I q (by simp))
  | str j => obtain ⟨t',rfl⟩ := ry; exact PySem.EqNone.ne_none_str (fin_bl I q (by simp))
  | _ => exact absurd (show false = true from hs) Bool.false_ne_true
 | bl i =>
  cases rx
  cases y with
  | non => cases ry; exact PySem.EqNone.ne_bool_none (fin_bl I q (by simp))
  | bl j => cases ry; exact ne_bool (fin_bl I q (congrArg not dec_bl))
  | str j => obtain ⟨t',rfl⟩ := ry; exact PySem.EqMixed.ne_bool_str (fin_bl I q (by simp))
  | _ => exact absurd (show false = true from hs) Bool.false_ne_true
 | int i =>
  obtain ⟨t,rfl⟩ := rx
  cases y with
  | non => cases ry; exact PySem.EqNone.ne_int_none (fin_bl I q (by simp))
  | int j => obtain ⟨t',rfl⟩ := ry; exact ne_int (fin_bl I q (congrArg not dec_int))
  | str j => obtain ⟨t',rfl⟩ := ry; exact PySem.EqMixed.ne_int_str (fin_bl I q (by simp))
  | _ => exact absurd (show false = true from hs) Bool.false_ne_true
 | str i =>
  obtain ⟨t,rfl⟩ := rx
  cases y with
  | non => cases ry; exact PySem.EqNone.ne_str_none (fin_bl I q (by simp))
  | bl j => cases ry; exact PySem.EqMixed.ne_str_bool (fin_bl I q (by simp))
  | int j => obtain ⟨t',rfl⟩ := ry; exact PySem.EqMixed.ne_str_int (fin_bl I q (by simp))
  | str j => obtain ⟨t',rfl⟩ := ry; exact ne_str (fin_bl I q (congrArg not dec_str))
  | _ => exact absurd (show false = true from hs) Bool.false_ne_true
 | byt i =>
  obtain ⟨t,rfl⟩ := rx
  cases y with
  | byt j => obtain ⟨t',rfl⟩ := ry; exact PySem.W.ne_bytes (fin_bl I q (congrArg not dec_byt))
  | _ => exact absurd (show false = true from hs) Bool.false_ne_true
 | _ => cases y <;> exact absurd (show false = true from hs) Bool.false_ne_true
theorem op_lt : OpR X (compareOp .Lt) (rI0 fun i j => .bl (decide (i < j))) := opB0 fun _ _ _ _ _ _ _ q => lt_int q
theorem op_le : OpR X (compareOp .LtE) (rI0 fun i j => .bl (decide (i <= j))) := opB0 fun _ _ _ _ _ _ _ q => le_int q
theorem op_gt : OpR X (compareOp .Gt) (rI0 fun i j => .bl (decide (j < i))) := opB0 fun _ _ _ _ _ _ _ q => gt_int q
theorem op_isN : OpR X (compareOp .Is) (fun x y H Q => y = .non /\ Q (.bl (decide (x = .non))) H) := by
 intro pins s σ H x y v u Q I rx ry h
 obtain ⟨rfl,q⟩ := h
 cases ry
 refine is_none_gen (fin_bl I q ?_)
 cases x <;> first
  | (cases rx; rfl)
  | (obtain ⟨t,rfl⟩ := rx; rfl)
theorem op_notN : OpR X (compareOp .IsNot) (fun x y H Q => y = .non /\ Q (.bl (!decide (x = .non))) H) := by
 intro pins s σ H x y v u Q I rx ry h
 obtain ⟨rfl,q⟩ := h
 cases ry
 refine isnot_none_gen (fin_bl I q ?_)
 cases x <;> first
  | (cases rx; rfl)
  | (obtain ⟨t,rfl⟩ := rx; rfl)
theorem nomark (b : Expr) {op : CmpOp} (h : op ≠ .In := by decide) (h2 : op ≠ .NotIn := by decide) : behindInMarks op b = false := by
 have e1 : (op == CmpOp.In) = false := by cases op <;> first | rfl | exact absurd rfl h
 have e2 : (op == CmpOp.NotIn) = false := by cases op <;> first | rfl | exact absurd rfl h2
 cases b <;> simp [behindInMarks,e1,e2]
theorem pe_cmpR {op : CmpOp} {r : R2} (ho : OpR X (compareOp op) r) (ha : PE X a ta) (hb : PE X b tb) (hm : behindInMarks op b = false) : PE X (.Compare a [op] [b] pos) (tOp r ta tb) := by
 intro pins s σ H Q I h
 exact wpAny_Compare1 (binT ha hb I h fun v u s2 x y H2 I2 rx ry q => ho pins s2 σ H2 x y v u Q I2 rx ry q) hm
def tTest (t : TE) : TT := fun σ H Q => t σ H fun x H' => ∃ k,x = .bl k /\ Q k H'
theorem pt_cmpR {op : CmpOp} {r : R2} (ho : OpR X (compareOp op) r) (ha : PE X a ta) (hb : PE X b tb) (hm : behindInMarks op b = false) : PT X (.Compare a [op] [b] pos) (tTest (tOp r ta tb)) := by
 intro pins s σ H Q I h
 refine wpAny_isTrue_Compare1 (thn (ha pins s σ H _ I h) fun v s1 ⟨x,H1,I1,r1,q1⟩ => thn (hb pins s1 σ H1 _ I1 q1) fun u s2 ⟨y,H2,I2,r2,q2⟩ =>
  thn (ho pins s2 σ H2 x y v u _ I2 r1 r2 q2) fun c s3 ⟨z,H3,I3,r3,k,e,q3⟩ => ?_) hm
 subst e
 cases r3
 exact wpAny_truthy_bool ⟨H3,I3,q3⟩
def tChain (r r' : R2) (ta tb tc : TE) : TE := fun σ H Q => ta σ H fun x H1 => tb σ H1 fun y H2 => r x y H2 fun z H3 => ∃ k,z = .bl k /\
 (if k = true then tc σ H3 fun w' H4 => r' y w' H4 Q else Q (.bl false) H3)
theorem pe_chain {op op' : CmpOp} {r r' : R2} (ho : OpR X (compareOp op) r) (ho' : OpR X (compareOp op') r') (ha : PE X a ta) (hb : PE X b tb) (hc : PE X c tc)
  (hm : lastMarks [op,op'] [b,c] = false := by with_unfolding_all rfl) : PE X (.Compare a [op,op'] [b,c] pos) (tChain r r' ta tb tc) := by
 intro pins s σ H Q I h
 refine Compare_chain (thn (ha pins s σ H _ I h) fun v s1 ⟨x,H1,I1,r1,q1⟩ => chain_link (thn (hb pins s1 σ H1 _ I1 q1) fun u s2 ⟨y,H2,I2,r2,q2⟩ =>
  thn (ho pins s2 σ H2 x y v u _ I2 r1 r2 q2) fun d s3 ⟨z,H3,I3,r3,k,e,q3⟩ => ?_)) hm
 subst e
 cases r3
 refine wpAny_truthy_bool ?_
 cases k with
 | false => exact ite_ff ⟨.bl false,H3,I3,rfl,q3⟩
 | true => exact ite_tt (chain_last (thn (hc pins s3 σ H3 _ I3 q3) fun w' s4 ⟨z',H4,I4,r4,q4⟩ => ho' pins s4 σ H4 y z' u w' Q I4 r2 r4 q4))
theorem pt_chain {op op' : CmpOp} {r r' : R2} (ho : OpR X (compareOp op) r) (ho' : OpR X (compareOp op') r') (ha : PE X a ta) (hb : PE X b tb) (hc : PE X c tc)
  (hm : lastMarks [op,op'] [b,c] = false := by with_unfolding_all rfl) : PT X (.Compare a [op,op'] [b,c] pos) (tTest (tChain r r' ta tb tc)) := by
 intro pins s σ H Q I h
 refine isTrue_chain (thn (ha pins s σ H _ I h) fun v s1 ⟨x,H1,I1,r1,q1⟩ => test_link (thn (hb pins s1 σ H1 _ I1 q1) fun u s2 ⟨y,H2,I2,r2,q2⟩ =>
  thn (ho pins s2 σ H2 x y v u _ I2 r1 r2 q2) fun d s3 ⟨z,H3,I3,r3,k,e,q3⟩ => ?_)) hm
 subst e
 cases r3
 refine wpAny_truthy_bool ?_
 cases k with
 | false =>
  obtain ⟨k',e',q'⟩ := q3
  cases e'
  exact ite_ff ⟨H3,I3,q'⟩
 | true =>
  refine ite_tt (test_last (thn (hc pins s3 σ H3 _ I3 q3) fun w' s4 ⟨z',H4,I4,r4,q4⟩ => thn (ho' pins s4 σ H4 y z' u w' _ I4 r2 r4 q4) fun d' s5 ⟨z2,H5,I5,r5,k2,e2,q5⟩ => ?_))
  subst e2
  cases r5
  exact wpAny_truthy_bool ⟨H5,I5,q5⟩
theorem line63 : (sizeLine : Nat) < 2 ^ 63 := by rw [sizeLine_eq]; decide
theorem vals1 {x : V} {us : List Value} (r : Vals [x] us) : ∃ u,us = [u] /\ RelV x u := by
 cases r with
 | cons r1 r2 => cases r2; exact ⟨_,rfl,r1⟩
theorem call_abs : CallR X (.builtin "abs") (fun xs H Q => ∃ i,xs = [.int i] /\ Q (.int (if i < 0 then -i else i)) H) := by
 intro pins s σ H xs us Q I r h
 obtain ⟨i,rfl,q⟩ := h
 obtain ⟨u,rfl,t,rfl⟩ := vals1 r
 exact call_abs_int fun u tk => ⟨.int (if i < 0 then -i else i),H,I.tok _,⟨_,rfl⟩,q⟩
theorem call_ord : CallR X (.builtin "ord") (fun xs H Q => ∃ x,xs = [.str x] /\ x.length = 1 /\ Q (.int (x.cps.getD 0 0 : Nat)) H) := by
 intro pins s σ H xs us Q I r h
 obtain ⟨x,rfl,hz,q⟩ := h
 obtain ⟨u,rfl,t,rfl⟩ := vals1 r
 exact ord_of_one hz ⟨.int _,H,I.tok _,⟨_,rfl⟩,q⟩
end
end L2
namespace L2
open PySem PySem.Spec PyProof.Rows
structure ObjM (h : Heap) (x dx C : Addr) (mA : Str -> Option Value) : Prop where
 obj : h.get? x = some (PySem.W.instObj C dx)
 ns : h.Ns1 dx mA
 ne : dx ≠ x
theorem lookIn_ns {h : Heap} {dx : Addr} {mA : Str -> Option Value} (n : h.Ns1 dx mA) : ∃ od,h.get? dx = some od /\ ∀ name,PySem.W.lookIn name od = some (mA name) := by
 obtain ⟨o,es,ep,ho,hd,hk,_,hm⟩ := n
 refine ⟨o,ho,fun name => ?_⟩
 have e := hm name
 unfold nsFind findBy at e
 rw [<- Array.find?_toList] at e
 unfold PySem.W.lookIn
 rw [hd]
 dsimp only
 split
 ·rename_i y q
  rw [q] at e
  exact congrArg some e
 ·rename_i q
  rw [q] at e
  have a : es.toList.any (·.refKey) = false := by
   rw [List.any_eq_false]
   intro y hy
   obtain ⟨z,t,hkey⟩ := hk y (Array.mem_toList_iff.mp hy)
   simp [DictEntry.refKey,hkey]
  have a' : ¬ es.toList.any (·.refKey) = true := by rw [a]; exact Bool.false_ne_true
  rw [if_neg a']
  exact congrArg some e
theorem ObjM.look {h : Heap} {x dx C : Addr} {mA : Str -> Option Value} (I : ObjM h x dx C mA) : ∃ od,PySem.W.InstAt h x (PySem.W.instObj C dx) C (some od) /\ ∀ name,PySem.W.lookIn name od = some (mA name) :=
 let ⟨od,ho,hl⟩ := lookIn_ns I.ns
 ⟨od,⟨I.obj,rfl,rfl,ho⟩,hl⟩
section
variable {prog : Program} {w : World} {A : Around} {E : Value -> Shared -> Prop} {s : Shared} {K : PySem.W.Frag} {x dx C f : Addr} {mA : Str -> Option Value} {name : Str} {v : Value}
theorem get_map {expr : Bool} {Q : Value -> Shared -> Prop} (X : K.In s.heap) (I : ObjM s.heap x dx C mA) (hg : PySem.W.plainGet K C name = true) (hh : PySem.W.hasDictIn K C = true)
  (ha : PySem.W.findIn K (.ref C) name = some none) (hv : mA name = some v) (hv' : PySem.W.handedIn v = true) (h : Q v { s with toks := s.toks + 1 }) :
  wpAny (model prog w) A (getAttr (.ref x) name expr) Q E s := by
 obtain ⟨od,J,hl⟩ := I.look
 exact PySem.W.get_value X J (PySem.W.plainGet_of hg).1 (PySem.W.findObj_own hh ha rfl (by rw [hl,hv])) hv' h
theorem get_meth {pl : Sem Bool} {Q : Value × List Value -> Shared -> Prop} (X : K.In s.heap) (I : ObjM s.heap x dx C mA) (hg : PySem.W.plainGet K C name = true)
  (hf : PySem.W.findIn K (.ref C) name = some (some (.ref f))) (ht : PySem.W.isFn K (.ref f) = true) (hv : mA name = none) (h : Q (.ref f,[.ref x]) s) :
  wpAny (model prog w) A (getMethod (.ref x) name pl) Q E s := by
 obtain ⟨od,J,hl⟩ := I.look
 exact PySem.W.method_fn X J (PySem.W.plainGet_of hg).1 (PySem.W.plainGet_of hg).2 hf (beq_iff_eq.mp ht) (by show (PySem.W.lookIn name od).map (·.isSome) = some false; rw [hl,hv]; rfl) h
theorem set_map {ns : List Str} {Q : Unit -> Shared -> Prop} (X : K.In s.heap) (I : ObjM s.heap x dx C mA)
  (hs : PySem.W.findIn K (.ref C) "__setattr__" = some (some (.builtin "object.__setattr__"))) (hp : PySem.W.plainOver K C = true) (ht : PySem.W.takerIn K C name = some none) (hh : PySem.W.hasDictIn K C = true)
  (hw : PySem.Within mA ns) (hsz : ns.length <= sizeLine)
  (h : ∀ h',ObjM h' x dx C (fun y => if y = name then some v else mA y) -> Heap.SameBut dx s.heap h' -> Q () { s with heap := h',toks := s.toks + 2 }) :
  wpAny (model prog w) A (setAttr (.ref x) name v) Q E s := by
 obtain ⟨od,J,hl⟩ := I.look
 refine PySem.W.set_plain X J hs (PySem.W.osa_open (s := { s with toks := s.toks + 1 }) (r := none) X J hp ht fun b => ?_)
 obtain ⟨cd,hc,hd'⟩ := PySem.W.any_some hh
 have hx : s.heap.get? x = some ⟨.ref C,some dx,.plain,#[]⟩ := I.obj
 refine wpAny_bind (wpAny_pure (wpAny_bind (wpAny_bind (wpAny_loadPart hx (wpAny_bind (PySem.W.Looks.here (s := { s with toks := s.toks + 1 }) (PySem.W.looks_clsIn X hc) ?_))))))
 rw [hd']
 refine wpAny_pure (a := some dx) (wpAny_bind (wpAny_pure (wpAny_bind ?_)))
 refine wpAny_nsSet1 (s := { s with toks := s.toks + 1 }) I.ns fun h' hn2 hs2 => ?_
 obtain ⟨oD,esD,epD,hoD,hdD,hcD⟩ := hn2.count (PySem.Within.cons name v hw)
 refine wpAny_bind (wpAny_lookBehind hoD (by rw [hdD]; exact pastItsLine_dict (Nat.le_trans hcD (by rw [List.length_cons]; omega))) ?_)
 exact wpAny_pure (h _ ⟨(hs2.2 _ (Ne.symm I.ne)).trans I.obj,hn2,I.ne⟩ hs2)
theorem make_map {R : Result -> Shared -> Prop} {vs : List Value} {kw : List (Str × Value)} (X : K.In s.heap) (hm : PySem.W.makesIn K C = true)
  (hi : PySem.W.findIn K (.ref C) "__init__" = some (some (.ref f))) (hf : PySem.W.typeIn K (.ref f) = some (.type "function"))
  (h : codeAny (model prog w) (A.under (.builtin "type.__call__" ⟨.ref C :: vs,kw⟩)) (.call (.ref f) ⟨.ref (s.heap.objs.size + 1) :: vs,kw⟩) (PySem.W.InitBack (s.heap.objs.size + 1) R)
   { s with heap := (s.heap.push PySem.W.emptyDict).push (PySem.W.instObj C s.heap.objs.size) }) :
  codeAny (model prog w) A (.call (.ref C) ⟨vs,kw⟩) R s := by
 obtain ⟨hh,g,d,t,os⟩ := s
 exact PySem.W.make_core (PySem.W.makes_of X hm) (PySem.W.looks_findIn X hi) (fun self => PySem.W.bind_fn X self hf) (.inl rfl) h
end
def putF (f : Str) (v : V) : List (Str × V) -> List (Str × V)
 | [] => [(f,v)]
 | (g,x) :: r => if g = f then (g,v) :: r else (g,x) :: putF f v r
theorem lookup_putF (f g : Str) (v : V) : ∀ fs : List (Str × V),(putF f v fs).lookup g = if g = f then some v else fs.lookup g
 | [] => by
  show List.lookup g [(f,v)] = _
  by_cases h : g = f
  ·have hb : (g == f) = true := beq_iff_eq.mpr h
   simp only [List.lookup,hb,if_pos h]
  ·have hb : (g == f) = false := beq_eq_false_iff_ne.mpr h
   simp only [List.lookup,hb,if_neg h]
 | (k,x) :: r => by
  have ih := lookup_putF f g v r
  rw [show putF f v ((k,x) :: r) = (if k = f then (k,v) :: r else (k,x) :: putF f v r) from rfl]
  by_cases hk : k = f
  ·rw [if_pos hk]
   by_cases h : g = k
   ·have hb : (g == k) = true := beq_iff_eq.mpr h
    simp only [List.lookup,hb,if_pos (h.trans hk)]
   ·have hb : (g == k) = false := beq_eq_false_iff_ne.mpr h
    simp only [List.lookup,hb,if_neg (fun e : g = f => h (e.trans hk.symm))]
  ·rw [if_neg hk]
   by_cases h : g = k
   ·have hb : (g == k) = true := beq_iff_eq.mpr h
    simp only [List.lookup,hb,if_neg (fun e : g = f => hk (h.symm.trans e))]
   ·have hb : (g == k) = false := beq_eq_false_iff_ne.mpr h
    simp only [List.lookup,hb]
    exact ih
theorem keys_putF (f : Str) (v : V) : ∀ fs : List (Str × V),f ∈ (putF f v fs).map (·.1) /\ ∀ g,g ∈ fs.map (·.1) -> g ∈ (putF f v fs).map (·.1)
 | [] => ⟨by simp [putF],fun g h => by simp at h⟩
 | (k,x) :: r => by
  obtain ⟨i1,i2⟩ := keys_putF f v r
  rw [show putF f v ((k,x) :: r) = (if k = f then (k,v) :: r else (k,x) :: putF f v r) from rfl]
  by_cases hk : k = f
  ·rw [if_pos hk]
   subst hk
   exact ⟨by simp,fun g h => by simpa using h⟩
  ·rw [if_neg hk]
   refine ⟨?_,fun g h => ?_⟩
   ·rw [List.map_cons]
    exact List.mem_cons_of_mem _ i1
   ·rw [List.map_cons] at h ⊢
    rcases List.mem_cons.mp h with e | e
    ·exact List.mem_cons.mpr (.inl e)
    ·exact List.mem_cons_of_mem _ (i2 g e)
theorem length_putF (f : Str) (v : V) : ∀ fs : List (Str × V),(putF f v fs).length <= fs.length + 1
 | [] => by simp [putF]
 | (k,x) :: r => by
  have ih := length_putF f v r
  rw [show putF f v ((k,x) :: r) = (if k = f then (k,v) :: r else (k,x) :: putF f v r) from rfl]
  by_cases hk : k = f
  ·rw [if_pos hk,List.length_cons,List.length_cons]; omega
  ·rw [if_neg hk,List.length_cons,List.length_cons]; omega
theorem RelO.some_of {v : V} {o : Option Value} (r : RelO (some v) o) : ∃ u,o = some u /\ RelV v u := by
 cases o with
 | none => exact (show False from r).elim
 | some u => exact ⟨u,rfl,r⟩
theorem RelO.none_of {o : Option Value} (r : RelO none o) : o = none := by
 cases o with
 | none => rfl
 | some u => exact (show False from r).elim
theorem handed_of {v : V} {u : Value} (r : RelV v u) : PySem.W.handedIn u = true := by
 cases v with
 | non => cases (show u = Value.none from r); rfl
 | bl b => cases (show u = Value.bool b from r); rfl
 | int i => obtain ⟨t,e⟩ := (show ∃ t,u = Value.int i t from r); cases e; rfl
 | str x => obtain ⟨t,e⟩ := (show ∃ t,u = Value.str x t from r); cases e; rfl
 | byt b => obtain ⟨t,e⟩ := (show ∃ t,u = Value.bytes b t from r); cases e; rfl
 | flt b => obtain ⟨t,e⟩ := (show ∃ t,u = Value.float b t from r); cases e; rfl
 | ref a => cases (show u = Value.ref a from r); rfl
 | ty n => cases (show u = Value.type n from r); rfl
section
variable {P : Program} {w : World} {H H' : Hp} {h h' : Heap} {a C dx : Addr} {fs fs' : List (Str × V)}
theorem ins_get (hok : HOk P w H h) (e : H a = some (.ins C dx fs)) : ∃ mA,ObjM h a dx C mA /\ (∀ f,RelO (fs.lookup f) (mA f)) /\ PySem.Within mA (fs.map (·.1)) /\ fs.length <= 1000 /\ H dx = some (.own a) := by
 obtain ⟨d,z,ne,ob,mA,n,r,q⟩ := (show ObjOk P w H h a (.ins C dx fs) from hok a _ e)
 exact ⟨mA,⟨ob,n,ne⟩,r,q,z,d⟩
end
structure Cls (K : PySem.W.Frag) (C : Addr) : Prop where
 pg : PySem.W.plainGet K C Str.empty = true
 hd : PySem.W.hasDictIn K C = true
 po : PySem.W.plainOver K C = true
 sa : PySem.W.findIn K (.ref C) "__setattr__" = some (some (.builtin "object.__setattr__"))
theorem Cls.get {K : PySem.W.Frag} {C : Addr} (c : Cls K C) (f : Str) : PySem.W.plainGet K C f = true := c.pg
def NoAttr (K : PySem.W.Frag) (C : Addr) (f : Str) : Prop := PySem.W.findIn K (.ref C) f = some none
theorem NoAttr.taker {K : PySem.W.Frag} {C : Addr} {f : Str} (n : NoAttr K C f) : PySem.W.takerIn K C f = some none := by
 unfold PySem.W.takerIn
 rw [show PySem.W.findIn K (.ref C) f = some none from n]
 rfl
structure Meth (K : PySem.W.Frag) (C : Addr) (m : Str) (f : Addr) : Prop where
 at_ : PySem.W.findIn K (.ref C) m = some (some (.ref f))
 fn : PySem.W.isFn K (.ref f) = true
 kp : PySem.W.keepIn K (.ref f) = true
section
variable {X : Cx} {pins : List (Addr × Obj)} {σ : St} {H : Hp} {s : Shared} {a C dx : Addr} {fs : List (Str × V)} {f : Str} {v : V} {A : Around} {E : Value -> Shared -> Prop}
theorem getattr_ok {b : Bool} {Q : Value -> Shared -> Prop} (I : Inv X pins σ H s) (e : H a = some (.ins C dx fs)) (c : Cls X.K C) (n : NoAttr X.K C f) (l : fs.lookup f = some v)
  (h : ∀ u s',Inv X pins σ H s' -> RelV v u -> Q u s') : wpAny (model X.prog X.w) A (getAttr (.ref a) f b) Q E s := by
 obtain ⟨mA,O,r,_,_,_⟩ := ins_get I.hok e
 obtain ⟨u,hu,ru⟩ := RelO.some_of (v := v) (o := mA f) (by rw [<- l]; exact r f)
 exact get_map I.kIn O (c.get f) c.hd n hu (handed_of ru) (h u _ (I.tok _) ru)
theorem getmeth_ok {m : Str} {g : Addr} {pl : Sem Bool} {Q : Value × List Value -> Shared -> Prop} (I : Inv X pins σ H s) (e : H a = some (.ins C dx fs)) (c : Cls X.K C) (k : Meth X.K C m g) (l : fs.lookup m = none)
  (h : Q (.ref g,[.ref a]) s) : wpAny (model X.prog X.w) A (getMethod (.ref a) m pl) Q E s := by
 obtain ⟨mA,O,r,_,_,_⟩ := ins_get I.hok e
 have hn : mA m = none := RelO.none_of (by rw [<- l]; exact r m)
 exact get_meth I.kIn O (c.get m) k.at_ k.fn hn h
theorem setattr_ok {y : V} {u : Value} {Q : Unit -> Shared -> Prop} (I : Inv X pins σ H s) (e : H a = some (.ins C dx fs)) (c : Cls X.K C) (n : NoAttr X.K C f) (hl : fs.length < 1000) (ry : RelV y u)
  (h : ∀ s',Inv X pins σ (upd H a (.ins C dx (putF f y fs))) s' -> Q () s') : wpAny (model X.prog X.w) A (setAttr (.ref a) f u) Q E s := by
 obtain ⟨mA,O,r,wi,_,ho⟩ := ins_get I.hok e
 have hz : (fs.map (·.1)).length <= sizeLine := by rw [List.length_map,sizeLine_eq]; omega
 refine set_map I.kIn O c.sa c.po n.taker c.hd wi hz fun h' O' sb => h _ ?_
 have hd : ∃ o,h'.get? dx = some o := let ⟨o,_,_,e',_⟩ := O'.ns; ⟨o,e'⟩
 refine I.write (x := a) (e := dx) (by rw [e]; exact True.intro) (.inr ho) (fun b q hb z => (sb.2 b hb).trans z) hd ?_
 refine ⟨by rw [upd_ne O.ne]; exact ho,?_,O.ne,O'.obj,_,O'.ns,fun g => ?_,fun g hg => ?_⟩
 ·have := length_putF f y fs; omega
 ·show RelO ((putF f y fs).lookup g) (if g = f then some u else mA g)
  rw [lookup_putF]
  by_cases q : g = f
  ·rw [if_pos q,if_pos q]; exact ry
  ·rw [if_neg q,if_neg q]; exact r g
 ·by_cases q : g = f
  ·rw [q]; exact (keys_putF f y fs).1
  ·refine (keys_putF f y fs).2 g (wi g fun z => hg ?_)
   show (if g = f then some u else mA g) = none
   rw [if_neg q]; exact z
theorem Inv.made (I : Inv X pins σ H s) : Inv X pins σ (upd (upd H s.heap.objs.size (.own (s.heap.objs.size + 1))) (s.heap.objs.size + 1) (.ins C s.heap.objs.size []))
  { s with heap := (s.heap.push PySem.W.emptyDict).push (PySem.W.instObj C s.heap.objs.size) } := by
 have e1 : (s.heap.push PySem.W.emptyDict).get? s.heap.objs.size = some PySem.W.emptyDict := Heap.get?_push_size s.heap rfl
 have e2 : ((s.heap.push PySem.W.emptyDict).push (PySem.W.instObj C s.heap.objs.size)).get? (s.heap.objs.size + 1) = some (PySem.W.instObj C s.heap.objs.size) := by
  have := Heap.get?_push_size (s.heap.push PySem.W.emptyDict) (o := PySem.W.instObj C s.heap.objs.size) rfl
  rwa [Heap.size_push] at this
 have e3 : (s.heap.push PySem.W.emptyDict).Ns s.heap.objs.size (fun _ => none) := ⟨PySem.W.emptyDict,#[],_,e1,rfl,(fun e he => absurd he (by simp)),fun _ => rfl⟩
 have I1 := I.laid (a := s.heap.objs.size) (o := .own (s.heap.objs.size + 1)) (h' := s.heap.push PySem.W.emptyDict) (t' := s.toks) (fun b u q => Heap.get?_push_of_some _ q) (Nat.le_refl _) ⟨_,e1⟩
 refine I1.laid (a := s.heap.objs.size + 1) (o := .ins C s.heap.objs.size []) (t' := s.toks) (fun b u q => Heap.get?_push_of_some _ q) (Nat.le_of_eq (Heap.size_push _ _)) ?_
 have ne : s.heap.objs.size ≠ s.heap.objs.size + 1 := Nat.ne_of_lt (Nat.lt_succ_self _)
 refine ⟨by rw [upd_ne ne,upd_same],Nat.zero_le _,ne,e2,fun _ => none,(Heap.Ns1.of_empty e3).at fun o q => Heap.get?_push_of_some _ q,fun _ => True.intro,fun y hy => absurd rfl hy⟩
theorem attr_of {prog : Program} {w : World} {env : Env} {e : Expr} {f : Str} {pos : Pos} {s : Shared} {Q : Value -> Shared -> Prop} (hb : attributeBase e f env (eval e env) = eval e env)
  (h : wpAny (model prog w) A (eval e env) (fun o s₁ => wpAny (model prog w) A (getAttr o f true) Q E s₁) E s) : wpAny (model prog w) A (eval (.Attribute e f pos) env) Q E s :=
 Attribute_any_ h (by rw [arm_eval_Attribute,hb])
end
def tFld (K : PySem.W.Frag) (ta : TE) (f : Str) : TE := fun σ H Q => ta σ H fun x H1 => ∃ a C dx fs v,x = .ref a /\ H1 a = some (.ins C dx fs) /\ Cls K C /\ NoAttr K C f /\ fs.lookup f = some v /\ Q v H1
def sFld (K : PySem.W.Frag) (ta tv : TE) (f : Str) : TS := fun D σ H => tv σ H fun y H1 => ta σ H1 fun x H2 => ∃ a C dx fs,x = .ref a /\ H2 a = some (.ins C dx fs) /\ Cls K C /\ NoAttr K C f /\ fs.length < 1000 /\
 D.nx σ (upd H2 a (.ins C dx (putF f y fs)))
section
variable {X : Cx} {o e value : Expr} {f : Str} {pos pos' tpos : Pos} {ta tv : TE}
theorem pe_fld (he : PE X e ta) (hb : attributeBase e f X.env (eval e X.env) = eval e X.env) : PE X (.Attribute e f pos) (tFld X.K ta f) := by
 intro pins s σ H Q I h
 refine attr_of hb (thn (he pins s σ H _ I h) fun u s1 ⟨x,H1,I1,rx,a,C,dx,fs,v,ex,ea,c,n,l,q⟩ => ?_)
 subst ex
 obtain rfl : u = Value.ref a := rx
 exact getattr_ok I1 ea c n l fun u' s2 I2 ru => ⟨v,H1,I2,ru,q⟩
theorem ps_fld (ha : PE X o ta) (hv : PE X value tv) (hs : swapsWith value (some (.Attribute o f pos')) pos.line X.env = pure false) : PS X (.Assign [.Attribute o f pos'] value pos) (sFld X.K ta tv f) := by
 intro pins s σ H D I h
 refine plainObj_wpAny_Assign_Attribute (thn (hv pins s σ H _ I h) fun u s1 ⟨y,H1,I1,ry,q⟩ => thn (ha pins s1 σ H1 _ I1 q) fun ov s2 ⟨x,H2,I2,rx,a,C,dx,fs,ex,ea,c,n,l,q2⟩ => ?_) hs
 subst ex
 obtain rfl : ov = Value.ref a := rx
 exact setattr_ok I2 ea c n l ry fun s3 I3 => ⟨σ,_,I3,q2⟩
end
section
variable {X : Cx} {pins : List (Addr × Obj)} {σ : St} {H : Hp} {s : Shared} {A : Around} {E : Value -> Shared -> Prop} {Q : Value -> Shared -> Prop} {c : Value} {b : Bool}
end
end L2
namespace L2
open PySem PySem.Spec PyProof.Rows
structure Room (k : Nat) (A : Around) : Prop where
 hd : A.handled = none
 dp : A.depth + 3 * k + 5 < recursionLimit
 un : A.units + 16 * k + 200 < cLine
theorem Room.mono {j k : Nat} {A : Around} (r : Room k A) (h : j <= k) : Room j A := ⟨r.hd,by have := r.dp; omega,by have := r.un; omega⟩
theorem Room.deeper {k : Nat} {A : Around} (r : Room (k + 1) A) (env : Env) : Room k (A.deeper env) :=
 ⟨r.hd,by have := r.dp; show A.depth + 1 + 3 * k + 5 < _; omega,by have := r.un; show A.units + 3 + 16 * k + 200 < _; omega⟩
theorem make_depth {A : Around} {C : Addr} {us : List Value} {kw : List (Str × Value)} : (A.under (.builtin "type.__call__" ⟨.ref C :: us,kw⟩)).depth = A.depth + 1 := by
 first | rfl | simp [Around.under,Code.weight,Code.isCreation,Code.isGuard,Code.isCaller,Code.frames,Code.isFrame,guardIds]
theorem make_units {A : Around} {C : Addr} {us : List Value} {kw : List (Str × Value)} : (A.under (.builtin "type.__call__" ⟨.ref C :: us,kw⟩)).units = A.units + 1 := by
 first | rfl | simp [Around.under,Code.cUnits,Code.frames,Code.isFrame]
theorem Room.make {k : Nat} {A : Around} (r : Room (k + 1) A) (C : Addr) (us : List Value) (kw : List (Str × Value)) : Room k (A.under (.builtin "type.__call__" ⟨.ref C :: us,kw⟩)) :=
 ⟨r.hd,by have := r.dp; rw [make_depth]; omega,by have := r.un; rw [make_units]; omega⟩
theorem Room.depth {k : Nat} {A : Around} (r : Room k A) : A.depth < recursionLimit := by have := r.dp; omega
theorem Room.units {k : Nat} {A : Around} (r : Room k A) : A.units + 64 < cLine := by have := r.un; omega
def tNil : TA := fun _ H Q => Q [] H
def tCons (ta : TE) (tr : TA) : TA := fun σ H Q => ta σ H fun x H1 => tr σ H1 fun xs H2 => Q (x :: xs) H2
section
variable {X : Cx} {e : Expr} {es : List Expr} {te : TE} {t : TA} {pos : Pos}
theorem pa_nil : PA X [] tNil := fun _ _ _ _ H Q I h => Calls.spliced_nil ⟨[],H,I,.nil,h⟩
theorem pa_cons (ha : PE X e te) (hr : PA X es t) (hs : starEach (e :: es) X.env = (false,eval e X.env) :: starEach es X.env := by rfl) : PA X (e :: es) (tCons te t) := by
 intro pos pins s σ H Q I h
 rw [hs]
 show wpAny _ _ (spliced ((false,eval e X.env) :: backTo pos (starEach es X.env))) _ _ s
 refine Calls.spliced_cons (thn (ha pins s σ H _ I h) fun u s1 ⟨x,H1,I1,r1,q1⟩ => ?_)
 exact thn (hr pos pins s1 σ H1 _ I1 q1) fun us s2 ⟨xs,H2,I2,r2,q2⟩ => ⟨x :: xs,H2,I2,.cons r1 r2,q2⟩
def tTup (t : TA) : TE := fun σ H Q => t σ H fun xs H1 => xs.length <= sizeLine /\ ∀ p,H1 p = none -> Q (.ref p) (upd H1 p (.tup xs))
def tLst (t : TA) : TE := fun σ H Q => t σ H fun xs H1 => xs.length <= sizeLine /\ ∀ p,H1 p = none -> Q (.ref p) (upd H1 p (.lst xs))
theorem pe_tup {x1} (h : PA X es t) : PE X (.Tuple es x1 pos) (tTup t) := by
 intro pins s σ H Q I hq
 refine wpAny_Tuple_spliced (thn (h pos pins s σ H _ I hq) fun us s1 ⟨xs,H1,I1,r,z,q⟩ => ⟨by rw [<- r.length]; exact z,?_⟩)
 have hf : H1 s1.heap.objs.size = none := I1.hok.fresh (Nat.le_refl _)
 refine ⟨.ref s1.heap.objs.size,upd H1 s1.heap.objs.size (.tup xs),I1.laid (t' := s1.toks) (fun b u e => Heap.get?_push_of_some _ e) (Nat.le_refl _) ?_,rfl,q _ hf⟩
 exact ⟨z,us,r,⟨_,Heap.get?_push_size _ rfl,rfl,_,rfl⟩⟩
theorem pe_lst (h : PA X es t) : PE X (.List es pos) (tLst t) := by
 intro pins s σ H Q I hq
 refine wpAny_List_spliced (thn (h pos pins s σ H _ I hq) fun us s1 ⟨xs,H1,I1,r,z,q⟩ => ⟨by rw [<- r.length]; exact z,?_⟩)
 have hf : H1 s1.heap.objs.size = none := I1.hok.fresh (Nat.le_refl _)
 refine ⟨.ref s1.heap.objs.size,upd H1 s1.heap.objs.size (.lst xs),I1.laid (t' := s1.toks) (fun b u e => Heap.get?_push_of_some _ e) (Nat.le_refl _) ?_,rfl,q _ hf⟩
 exact ⟨z,us,0,r,Heap.get?_push_size _ rfl⟩
end
abbrev Sp := List V -> Hp -> VK -> XK -> Prop
abbrev CXT := List Env -> Hp -> Shared -> XK -> Value -> Shared -> Prop
structure Env0 (P : Program) (w : World) (K : PySem.W.Frag) (mg : Str -> Option Value) (base : Heap) (A : Around) (outer : List Env) (s : Shared) (H : Hp) : Prop where
 frames : A.frames = some outer
 mod : Mod K mg base
 bs : ∀ b o,base.get? b = some o -> s.heap.get? b = some o /\ H b = none
 bsz : base.objs.size <= s.heap.objs.size
 funs : s.heap.FunFrames base outer
 frf : ∀ b ∈ frs outer,H b = none
 hok : HOk P w H s.heap
 bare : AllBare s.gens
def CE (outer : List Env) (P : Program) (w : World) (H : Hp) (s : Shared) (Q : VK) (u : Value) (s' : Shared) : Prop :=
 ∃ v H',s'.os = s.os /\ AllBare s'.gens /\ Un (frs outer) [] H H' s.heap s'.heap /\ HOk P w H' s'.heap /\ RelV v u /\ Q v H'
def CR (CX : CXT) (outer : List Env) (P : Program) (w : World) (H : Hp) (s : Shared) (Q : VK) (E : XK) (r : Result) (s' : Shared) : Prop :=
 match r with
 | .ok (.ret u) => CE outer P w H s Q u s'
 | .ok _ => False
 | .error e => CX outer H s E e s'
structure FnOk (P : Program) (w : World) (K : PySem.W.Frag) (mg : Str -> Option Value) (base : Heap) (CX : CXT) (k : Nat) (f : Addr) (fd : FuncData) (ps : List Str) (sp : Sp) : Prop where
 len : ∀ vs H Q E,sp vs H Q E -> vs.length = ps.length
 run : ∀ (A : Around) (outer : List Env) (s : Shared) (H : Hp) (args : Args) (us : List Value) (vs : List V) (Q : VK) (E : XK),Room k A -> Env0 P w K mg base A outer s H -> BindsTo s fd args (ps.zip us) -> Vals vs us -> sp vs H Q E ->
  codeAny (model P w) A (.call (.ref f) args) (CR CX outer P w H s Q E) s
theorem FnOk.mono {P : Program} {w : World} {K : PySem.W.Frag} {mg : Str -> Option Value} {base : Heap} {CX : CXT} {j k : Nat} {f : Addr} {fd : FuncData} {ps : List Str} {sp : Sp} (F : FnOk P w K mg base CX j f fd ps sp) (h : j <= k) :
  FnOk P w K mg base CX k f fd ps sp := ⟨F.len,fun A outer s H args us vs Q E hr => F.run A outer s H args us vs Q E (hr.mono h)⟩
theorem FnOk.imp {P : Program} {w : World} {K : PySem.W.Frag} {mg : Str -> Option Value} {base : Heap} {CX : CXT} {k : Nat} {f : Addr} {fd : FuncData} {ps : List Str} {sp sp' : Sp} (F : FnOk P w K mg base CX k f fd ps sp)
  (h : ∀ vs H Q E,sp' vs H Q E -> sp vs H Q E) : FnOk P w K mg base CX k f fd ps sp' :=
 ⟨fun vs H Q E q => F.len vs H Q E (h _ _ _ _ q),fun A outer s H args us vs Q E hr he hb hv hs => F.run A outer s H args us vs Q E hr he hb hv (h _ _ _ _ hs)⟩
theorem Env0.make {P : Program} {w : World} {K : PySem.W.Frag} {mg : Str -> Option Value} {base : Heap} {A : Around} {outer : List Env} {s : Shared} {H : Hp} (e : Env0 P w K mg base A outer s H) (C : Addr) (us : List Value) (kw : List (Str × Value)) :
  Env0 P w K mg base (A.under (.builtin "type.__call__" ⟨.ref C :: us,kw⟩)) outer s H := ⟨by first | exact e.frames | (simpa [Around.under,Code.envs,Code.isFrame,pushEnvs] using e.frames),e.mod,e.bs,e.bsz,e.funs,e.frf,e.hok,e.bare⟩
section
variable {X : Cx} {pins : List (Addr × Obj)} {σ : St} {H : Hp} {s s' : Shared}
theorem Inv.env0 (I : Inv X pins σ H s) : Env0 X.prog X.w X.K X.mg X.base X.A X.stack s H :=
 ⟨I.ok.frames,I.ok.mod,I.bs,Nat.le_trans I.ok.bsz I.sz,I.stack,I.stkFree,I.hok,I.bare⟩
theorem Inv.after {Q : VK} {u : Value} (I : Inv X pins σ H s) (h : CE X.stack X.prog X.w H s Q u s') : EP X pins σ Q u s' := by
 obtain ⟨v,H',os,bare,un,hok,r,q⟩ := h
 obtain ⟨hh,g,d,t,os'⟩ := s'
 obtain rfl : os' = s.os := os
 exact ⟨v,H',I.call (h' := hh) (g' := g) (d' := d) (t' := t) (ch := []) un hok bare (fun b z => absurd z (by simp)),r,q⟩
end
def tCall (sp : Sp) (dvs : List V) (E : XK) (t : TA) : TE := fun σ H Q => t σ H fun vs H1 => sp (vs ++ dvs) H1 Q E
def tMeth (C : Addr) (m : Str) (sp : Sp) (dvs : List V) (E : XK) (ta : TE) (t : TA) : TE := fun σ H Q => ta σ H fun x H1 => ∃ a dx fs,x = .ref a /\ H1 a = some (.ins C dx fs) /\ fs.lookup m = none /\
 t σ H1 fun vs H2 => sp (x :: (vs ++ dvs)) H2 Q E
def tMake (C : Addr) (sp : Sp) (dvs : List V) (E : XK) (t : TA) : TE := fun σ H Q => t σ H fun vs H1 => ∀ x dx,H1 x = none -> H1 dx = none -> dx ≠ x ->
 sp (.ref x :: (vs ++ dvs)) (upd (upd H1 dx (.own x)) x (.ins C dx [])) (fun v H2 => v = .non /\ Q (.ref x) H2) E
def Binds (K : PySem.W.Frag) (fd : FuncData) (ps : List Str) (ds : List Value) : Prop :=
 ∀ (s : Shared) (us : List Value),K.In s.heap -> (us ++ ds).length = ps.length -> BindsTo s fd ⟨us,[]⟩ (ps.zip (us ++ ds))
theorem Binds.all {K : PySem.W.Frag} {fd : FuncData} {ps : List Str} (h : ∀ us : List Value,us.length = ps.length -> bindArgs fd ⟨us,[]⟩ = pure (ps.zip us)) : Binds K fd ps [] := fun s us _ hl => by
 rw [List.append_nil] at hl ⊢
 exact .of_eq (h us hl)
def Passes (CX : CXT) (X : Cx) (E : XK) : Prop := ∀ (pins : List (Addr × Obj)) (σ : St) (H : Hp) (s : Shared) (e : Value) (s' : Shared),Inv X pins σ H s -> CX X.stack H s E e s' -> X.xe e s'
section
variable {X : Cx} {CX : CXT} {k : Nat} {f C : Addr} {fd : FuncData} {ps : List Str} {sp : Sp} {dvs : List V} {ds : List Value} {E : XK} {x m : Str} {p pos apos : Pos} {e o : Expr} {es : List Expr} {ta : TE} {t : TA}
theorem run_fn {pins : List (Addr × Obj)} {σ : St} {H : Hp} {s : Shared} {Q : VK} {us : List Value} {vs : List V} (F : FnOk X.prog X.w X.K X.mg X.base CX k f fd ps sp) (hr : Room k X.A) (hb : Binds X.K fd ps ds) (hd : Vals dvs ds) (hx : Passes CX X E)
  (I : Inv X pins σ H s) (r : Vals vs us) (h : sp (vs ++ dvs) H Q E) : wpAny (model X.prog X.w) X.A (call (.ref f) us) (EP X pins σ Q) X.xe s := by
 have r2 : Vals (vs ++ dvs) (us ++ ds) := r.append hd
 have hl : (us ++ ds).length = ps.length := by rw [<- r2.length]; exact F.len _ _ _ _ h
 refine wpAny_call (codeAny_mono (F.run X.A X.stack s H ⟨us,[]⟩ (us ++ ds) (vs ++ dvs) Q E hr I.env0 (hb s us I.kIn hl) r2 h) fun r s' hq => ?_)
 cases r with
 | error e => exact hx pins σ H s e s' I hq
 | ok fl =>
  cases fl with
  | ret u => exact I.after hq
  | next => exact False.elim hq
  | brk => exact False.elim hq
  | cont => exact False.elim hq
theorem pe_call (F : FnOk X.prog X.w X.K X.mg X.base CX k f fd ps sp) (hr : Room k X.A) (hg : Gl X x) (hm : X.mg x = some (.ref f)) (hk : PySem.W.keepIn X.K (.ref f) = true) (hb : Binds X.K fd ps ds) (hd : Vals dvs ds) (hx : Passes CX X E)
  (ha : PA X (e :: es) t) (hdb : (x == ("__debug__" : Str)) = false := by decide) (he : starEach (e :: es) X.env = (false,eval e X.env) :: starEach es X.env := by rfl) (hpl : (backTo pos (starEach es X.env)).any (·.1) = false := by rfl) :
  PE X (.Call (.Name x p) (e :: es) [] pos) (tCall sp dvs E t) := by
 intro pins s σ H Q I h
 refine wpAny_Call_Name_kw (ld_glob I hg hm ?_ hdb)
 refine PySem.W.callWith_K (h₀ := X.base) I.ok.mod.kin hk (thn (ha pos pins s σ H _ I h) fun us s1 ⟨vs,H1,I1,r,q⟩ => ⟨I1.kIn,?_⟩) he hpl
 exact run_fn F hr hb hd hx I1 r q
theorem pe_meth {pl : Sem Bool} (he : PE X o ta) (c : Cls X.K C) (hm : Meth X.K C m f) (F : FnOk X.prog X.w X.K X.mg X.base CX k f fd ps sp) (hr : Room k X.A) (hb : Binds X.K fd ps ds) (hd : Vals dvs ds) (hx : Passes CX X E) (ha : PA X (e :: es) t)
  (hst : starEach (e :: es) X.env = (false,eval e X.env) :: starEach es X.env := by rfl) (hpl : (backTo pos (starEach es X.env)).any (·.1) = false := by rfl)
  (ht : eval (.Call (.Attribute o m apos) (e :: es) [] pos) X.env = (do
   let ov <- eval o X.env
   standAt apos.atName
   let (f,first) <- holding [ov] (getMethod ov m pl)
   callWith pos f first (backTo pos (starEach (e :: es) X.env)) (backToKw pos (keywordEach [] X.env))) := by rfl) :
  PE X (.Call (.Attribute o m apos) (e :: es) [] pos) (tMeth C m sp dvs E ta t) := by
 intro pins s σ H Q I h
 refine PySem.W.methodCall_KW (pl := pl) (thn (he pins s σ H _ I h) fun u s1 ⟨x,H1,I1,rx,a,dx,fs,ex,ea,l,q⟩ => ?_) ht
 subst ex
 obtain rfl : u = Value.ref a := rx
 refine getmeth_ok I1 ea c hm l ?_
 refine PySem.W.callWith_K (first := [.ref a]) (h₀ := X.base) I.ok.mod.kin hm.kp (thn (ha pos pins s1 σ H1 _ I1 q) fun us s2 ⟨vs,H2,I2,r,q2⟩ => ⟨I2.kIn,?_⟩) hst hpl
 exact run_fn (us := .ref a :: us) (vs := .ref a :: vs) F hr hb hd hx I2 (.cons rfl r) q2
structure Mk (K : PySem.W.Frag) (C f : Addr) : Prop where
 makes : PySem.W.makesIn K C = true
 init : PySem.W.findIn K (.ref C) "__init__" = some (some (.ref f))
 fn : PySem.W.isFn K (.ref f) = true
 kp : PySem.W.keepIn K (.ref C) = true
theorem run_make {pins : List (Addr × Obj)} {σ : St} {H : Hp} {s : Shared} {Q : VK} {us : List Value} {vs : List V} (M : Mk X.K C f) (F : FnOk X.prog X.w X.K X.mg X.base CX k f fd ps sp) (hr : Room (k + 1) X.A) (hb : Binds X.K fd ps ds) (hd : Vals dvs ds)
  (hx : Passes CX X E) (I : Inv X pins σ H s) (r : Vals vs us)
  (h : ∀ x dx,H x = none -> H dx = none -> dx ≠ x -> sp (.ref x :: (vs ++ dvs)) (upd (upd H dx (.own x)) x (.ins C dx [])) (fun v H2 => v = .non /\ Q (.ref x) H2) E) :
  wpAny (model X.prog X.w) X.A (call (.ref C) us) (EP X pins σ Q) X.xe s := by
 have hq := h (s.heap.objs.size + 1) s.heap.objs.size (I.hok.fresh (Nat.le_succ _)) (I.hok.fresh (Nat.le_refl _)) (Nat.ne_of_lt (Nat.lt_succ_self _))
 have I2 := Inv.made (C := C) I
 have r2 : Vals (V.ref (s.heap.objs.size + 1) :: (vs ++ dvs)) (Value.ref (s.heap.objs.size + 1) :: (us ++ ds)) := .cons rfl (r.append hd)
 have hl : (Value.ref (s.heap.objs.size + 1) :: us ++ ds).length = ps.length := by
  have e := r2.length
  rw [F.len _ _ _ _ hq] at e
  exact e.symm
 refine wpAny_call (make_map (f := f) I.kIn M.makes M.init (beq_iff_eq.mp M.fn) (codeAny_mono (F.run _ X.stack _ _ ⟨Value.ref (s.heap.objs.size + 1) :: us,[]⟩ (Value.ref (s.heap.objs.size + 1) :: (us ++ ds)) _ _ E (hr.make C us [])
  (I2.env0.make C us []) (hb _ (Value.ref (s.heap.objs.size + 1) :: us) I2.kIn hl) r2 hq) fun r s' hq' => ?_))
 cases r with
 | error e => exact hx pins σ _ _ e s' I2 hq'
 | ok fl =>
  cases fl with
  | ret u =>
   obtain ⟨v,H',I3,rv,ev,q3⟩ := I2.after hq'
   subst ev
   exact ⟨rv,⟨V.ref (s.heap.objs.size + 1),H',I3,rfl,q3⟩⟩
  | next => exact False.elim hq'
  | brk => exact False.elim hq'
  | cont => exact False.elim hq'
theorem pe_make (M : Mk X.K C f) (F : FnOk X.prog X.w X.K X.mg X.base CX k f fd ps sp) (hr : Room (k + 1) X.A) (hg : Gl X x) (hm : X.mg x = some (.ref C)) (hb : Binds X.K fd ps ds) (hd : Vals dvs ds) (hx : Passes CX X E)
  (ha : PA X (e :: es) t) (hdb : (x == ("__debug__" : Str)) = false := by decide) (he : starEach (e :: es) X.env = (false,eval e X.env) :: starEach es X.env := by rfl) (hpl : (backTo pos (starEach es X.env)).any (·.1) = false := by rfl) :
  PE X (.Call (.Name x p) (e :: es) [] pos) (tMake C sp dvs E t) := by
 intro pins s σ H Q I h
 refine wpAny_Call_Name_kw (ld_glob I hg hm ?_ hdb)
 refine PySem.W.callWith_K (h₀ := X.base) I.ok.mod.kin M.kp (thn (ha pos pins s σ H _ I h) fun us s1 ⟨vs,H1,I1,r,q⟩ => ⟨I1.kIn,?_⟩) he hpl
 exact run_make M F hr hb hd hx I1 r q
theorem pe_make0 (M : Mk X.K C f) (F : FnOk X.prog X.w X.K X.mg X.base CX k f fd ps sp) (hr : Room (k + 1) X.A) (hg : Gl X x) (hm : X.mg x = some (.ref C)) (hb : Binds X.K fd ps ds) (hd : Vals dvs ds) (hx : Passes CX X E)
  (hdb : (x == ("__debug__" : Str)) = false := by decide) : PE X (.Call (.Name x p) [] [] pos) (tMake C sp dvs E tNil) := by
 intro pins s σ H Q I h
 refine wpAny_Call_Name_kw (ld_glob I hg hm ?_ hdb)
 exact PySem.W.callWith_K0 I.kIn M.kp (run_make (us := []) M F hr hb hd hx I .nil h)
end
section
variable {X : Cx} {CX : CXT} {k : Nat} {f C : Addr} {fd : FuncData} {ps ks : List Str} {sp : Sp} {E : XK} {x m : Str} {p pos apos kpos : Pos} {e o : Expr} {es : List Expr} {kws : List Keyword} {te ta : TE} {t tk : TA} {nm : Option Str}
variable {g : List Value -> List Value -> List Value} {gV : List V -> List V -> List V}
end
structure FnScope (N P : List Str) (sc : Scope) : Prop where
 kind : sc.kind = .function
 co : sc.isCoroutine = false
 gen : sc.isGenerator = false
 nd : N.Nodup
 pre : N.take P.length = P
 par : ∀ x ∈ P,sc.names.lookup x = some .local \/ sc.names.lookup x = some .cell
 nofree : ∀ y ∈ sc.names,y.2 ≠ .free
theorem bindL_out {kindOf : Str -> Option NameKind} {x : Str} : ∀ {binds : List (Str × Value)} {m : Str -> Option Value},(∀ v,(x,v) ∉ binds) -> bindL kindOf binds m x = m x
 | [],_,_ => rfl
 | (n,v) :: r,m,h => by
  unfold bindL
  rw [bindL_out fun w hw => h w (List.mem_cons_of_mem _ hw)]
  split
  ·have : x ≠ n := by rintro rfl; exact h v List.mem_cons_self
   simp [this]
  ·rfl
theorem bindC_out {kindOf : Str -> Option NameKind} {x : Str} : ∀ {binds : List (Str × Value)} {m : Str -> Option Value},(∀ v,(x,v) ∉ binds) -> bindC kindOf binds m x = m x
 | [],_,_ => rfl
 | (n,v) :: r,m,h => by
  unfold bindC
  rw [bindC_out fun w hw => h w (List.mem_cons_of_mem _ hw)]
  split
  ·rfl
  ·have : x ≠ n := by rintro rfl; exact h v List.mem_cons_self
   simp [this]
theorem bindL_get {kindOf : Str -> Option NameKind} {x : Str} {v : Value} : ∀ {P : List Str} {vs : List Value} {i : Nat} {m : Str -> Option Value},P.Nodup -> P[i]? = some x -> vs[i]? = some v -> kindOf x = some .local ->
  bindL kindOf (P.zip vs) m x = some v
 | [],_,_,_,_,h,_,_ => by simp at h
 | _ :: _,[],_,_,_,_,h,_ => by simp at h
 | p :: P,w :: vs,0,m,nd,h1,h2,hk => by
  simp at h1 h2; subst h1; subst h2
  show bindL kindOf ((p,w) :: P.zip vs) m p = _
  unfold bindL
  rw [bindL_out fun v hv => (List.nodup_cons.mp nd).1 (List.of_mem_zip hv).1,if_pos hk]
  simp
 | p :: P,w :: vs,i + 1,m,nd,h1,h2,hk => by
  show bindL kindOf ((p,w) :: P.zip vs) m x = _
  unfold bindL
  exact bindL_get (i := i) (List.nodup_cons.mp nd).2 (by simpa using h1) (by simpa using h2) hk
theorem bindC_get {kindOf : Str -> Option NameKind} {x : Str} {v : Value} : ∀ {P : List Str} {vs : List Value} {i : Nat} {m : Str -> Option Value},P.Nodup -> P[i]? = some x -> vs[i]? = some v -> kindOf x ≠ some .local ->
  bindC kindOf (P.zip vs) m x = some v
 | [],_,_,_,_,h,_,_ => by simp at h
 | _ :: _,[],_,_,_,_,h,_ => by simp at h
 | p :: P,w :: vs,0,m,nd,h1,h2,hk => by
  simp at h1 h2; subst h1; subst h2
  show bindC kindOf ((p,w) :: P.zip vs) m p = _
  unfold bindC
  rw [bindC_out fun v hv => (List.nodup_cons.mp nd).1 (List.of_mem_zip hv).1,if_neg hk]
  simp
 | p :: P,w :: vs,i + 1,m,nd,h1,h2,hk => by
  show bindC kindOf ((p,w) :: P.zip vs) m x = _
  unfold bindC
  exact bindC_get (i := i) (List.nodup_cons.mp nd).2 (by simpa using h1) (by simpa using h2) hk
def start (N : List Str) (vs : List V) : St := vs.map some ++ List.replicate (N.length - vs.length) none
def cxOf (CX : CXT) (P : Program) (w : World) (K : PySem.W.Frag) (mg : Str -> Option Value) (base : Heap) (N : List Str) (qual : Str) (scope : Scope) (f : Addr) (cd : Value) (A : Around) (outer : List Env) (s : Shared) (H : Hp) (E : XK) : Cx where
 prog := P
 w := w
 K := K
 mg := mg
 base := base
 A := A.deeper (envOfC qual scope s.heap.objs.size f cd)
 N := N
 s_0 := s
 H_0 := H
 env := envOfC qual scope s.heap.objs.size f cd
 outer := outer
 stack := envOfC qual scope s.heap.objs.size f cd :: outer
 ex := []
 calm := true
 fn := fun _ => true
 pn := []
 xe := fun e s' => wpAny (model P w) (A.deeper (envOfC qual scope s.heap.objs.size f cd)) (leaving (envOfC qual scope s.heap.objs.size f cd) e) (fun _ s'' => CX outer H s E e s'') (fun e' s'' => CX outer H s E e' s'') s'
theorem cell_has {sc : Scope} {n : Nat} {x : Str} (h : sc.names.lookup x = some .cell) : ∃ c,(cellsFrom n sc.names []).lookup x = some c := by
 have q := PySem.W.cellsFrom_some sc.names n [] (.inl h)
 exact Option.isSome_iff_exists.mp q
theorem inv_start {CX : CXT} {P : Program} {w : World} {K : PySem.W.Frag} {mg : Str -> Option Value} {base : Heap} {N ps : List Str} {qual : Str} {scope : Scope} {f : Addr} {cd : Value} {A : Around} {outer : List Env} {s s1 : Shared} {H : Hp} {E : XK} {us : List Value} {vs : List V}
  (S : FnScope N ps scope) (hd : A.handled = none) (e0 : Env0 P w K mg base A outer s H) (hl : vs.length = ps.length) (r : Vals vs us)
  (x : InCallC s s.heap.objs.size (bindL (envOfC qual scope s.heap.objs.size f cd).kindOf (ps.zip us) fun _ => none) (cellsFrom (s.heap.objs.size + 1) scope.names []) (bindC (envOfC qual scope s.heap.objs.size f cd).kindOf (ps.zip us) fun _ => none) s1) :
  Inv (cxOf CX P w K mg base N qual scope f cd A outer s H E) [] (start N vs) H s1 := by
 have hpl : ps.length <= N.length := by have := congrArg List.length S.pre; rw [List.length_take] at this; omega
 obtain ⟨h1,tk,rfl,hk⟩ := x.done
 have noA : ∀ b : Addr,b ∉ (cxOf CX P w K mg base N qual scope f cd A outer s H E).ex := fun b z => absurd (show b ∈ ([] : List Addr) from z) (by simp)
 refine ⟨⟨e0.mod,S.kind,rfl,rfl,Nat.le_refl _,fun y z c h1 h2 => ?_,fun y hy => ?_,fun y c _ h => ?_,fun _ => hd,Around.frames_deeper e0.frames,.inr ⟨rfl,rfl⟩,fun b z => absurd z (noA b),e0.bs,e0.bsz,fun b _ _ => noA b,fun b z => absurd z (noA b),e0.funs,e0.frf⟩,
  rfl,e0.bare,Un.kept hk,⟨_,x.toInCall.ns,fun i y v h1 h2 h3 => ?_⟩,fun y c h => ⟨_,x.cell y c h⟩,e0.hok.fresh (Nat.le_refl _),fun y c h => ?_,fun p hp => absurd (show p ∈ ([] : List (Addr × Obj)) from hp) (by simp),e0.hok.kept hk,?_⟩
 ·exact name_of_addr x.apart (PySem.mem_of_lookup h1) (PySem.mem_of_lookup h2)
 ·have hy : scope.names.lookup y = some .cell \/ scope.names.lookup y = some .free := hy
  rcases hy with hy | hy
  ·exact cell_has hy
  ·exact absurd rfl (S.nofree _ (PySem.mem_of_lookup hy))
 ·exact Nat.le_of_lt (x.above y c (PySem.mem_of_lookup h))
 ·have hi : i < vs.length := by
   unfold start at h2
   by_cases hi : i < vs.length
   ·exact hi
   ·rw [List.getElem?_append_right (by simpa using hi)] at h2
    rw [List.getElem?_replicate] at h2
    split at h2 <;> cases h2
  have ha : vs[i]? = some v := by
   unfold start at h2
   rw [List.getElem?_append_left (by simpa using hi),List.getElem?_map] at h2
   cases e : vs[i]? with
   | none => rw [e] at h2; cases h2
   | some a => rw [e] at h2; cases h2; rfl
  obtain ⟨u,hu,rv⟩ := r.get ha
  have hp : ps[i]? = some y := by
   rw [<- S.pre,List.getElem?_take_of_lt (by omega)]; exact h1
  have ndP : ps.Nodup := by rw [<- S.pre]; exact S.nd.sublist (List.take_sublist _ _)
  refine ⟨u,rv,?_⟩
  rcases S.par y (List.mem_of_getElem? hp) with k | k
  ·exact .inl ⟨k,bindL_get ndP hp hu k⟩
  ·obtain ⟨c,e⟩ := cell_has (n := s.heap.objs.size + 1) k
   refine .inr ⟨.inl k,c,e,?_⟩
   have q := x.cell y c e
   rw [bindC_get ndP hp hu (by show scope.names.lookup y ≠ _; rw [k]; decide)] at q
   exact q
 ·exact e0.hok.fresh (Nat.le_of_lt (x.above y c (PySem.mem_of_lookup h)))
 ·unfold start
  show _ = N.length
  rw [List.length_append,List.length_map,List.length_replicate]
  omega
theorem fn_of {CX : CXT} {P : Program} {w : World} {K : PySem.W.Frag} {mg : Str -> Option Value} {base : Heap} {k : Nat} {f : Addr} {name qual : Str} {params : Arguments} {body : List Stmt} {scope : Scope} {dV kV doc pm cdv ct oc : Value} {an od : Option Addr}
  {osl : Array (Option Value)} {N ps : List Str} {sp : Sp} (lk : K.lookup f = some ⟨oc,od,.func (PySem.W.fnOf name qual params body scope dV kV doc pm an cdv ct),osl⟩) (hcd : PySem.W.codeIn K cdv qual = true) (S : FnScope N ps scope)
  (len : ∀ vs H Q E,sp vs H Q E -> vs.length = ps.length)
  (hbody : ∀ (A : Around) (outer : List Env) (s : Shared) (H : Hp) (vs : List V) (Q : VK) (E : XK),Room k (A.deeper (envOfC qual scope s.heap.objs.size f cdv)) -> sp vs H Q E ->
   ∃ t,PSs (cxOf CX P w K mg base N qual scope f cdv A outer s H E) body t /\ t { nx := fun _ H' => Q .non H',rt := Q } (start N vs) H) :
  FnOk P w K mg base CX (k + 1) f (PySem.W.fnOf name qual params body scope dV kV doc pm an cdv ct) ps sp := by
 refine ⟨len,fun A outer s H args us vs Q E hr e0 hb r hsp => ?_⟩
 have hl := len _ _ _ _ hsp
 have KX : K.In s.heap := e0.mod.kin.keeps fun b o e => (e0.bs b o e).1
 have lim : s.heap.NoLimit := e0.mod.nolimit.keeps fun b o e => (e0.bs b o e).1
 have hkind : ∀ y ∈ ps.zip us,scope.names.lookup y.1 = some .local \/ (scope.names.lookup y.1 = some .cell /\ ((cellsFrom (s.heap.objs.size + 1) scope.names []).lookup y.1).isSome = true) := fun ⟨n,v⟩ hy => by
  rcases S.par n (List.of_mem_zip hy).1 with q | q
  ·exact .inl q
  ·exact .inr ⟨q,PySem.W.cellsFrom_some _ _ _ (.inl q)⟩
 refine codeAny_call_function hr.depth (KX _ _ lk) rfl S.co S.gen rfl (PySem.W.codeRec_of KX hcd) (hb _ _ _ _ ?_)
 refine wpAny_newFunctionEnv_cells S.kind hkind fun env he s1 x => ?_
 subst he
 refine ⟨lim.keeps x.toInCall.keep,codeAny_func ?_⟩
 obtain ⟨t,ht,hq⟩ := hbody A outer s H vs Q E (hr.deeper _) hsp
 have I : Inv (cxOf CX P w K mg base N qual scope f cdv A outer s H E) [] (start N vs) H s1 := inv_start S hr.hd e0 hl r x
 refine wpAny_mono (ht [] s1 (start N vs) H _ I hq) (fun fl s' hs => ?_) fun e s' hs => hs
 have fin : ∀ {σ' : St} {H' : Hp} {v : V} {u : Value},Inv (cxOf CX P w K mg base N qual scope f cdv A outer s H E) [] σ' H' s' -> RelV v u -> Q v H' -> CE outer P w H s Q u s' :=
  fun {σ' H' v u} J rv q => ⟨v,H',J.os,J.bare,J.base,J.hok,rv,q⟩
 cases fl with
 | ret u =>
  obtain ⟨v,σ',H',J,rv,q⟩ := hs
  exact fin J rv q
 | next =>
  obtain ⟨σ',H',J,q⟩ := hs
  exact fin (v := V.non) (u := Value.none) J rfl q
 | brk =>
  obtain ⟨_,_,_,q⟩ := hs
  exact False.elim q
 | cont =>
  obtain ⟨_,_,_,q⟩ := hs
  exact False.elim q
end L2
namespace L2
open PySem PySem.Spec PyProof.Rows
section
variable {X : Cx} {x : Str} {p pos : Pos} {e : Expr} {es : List Expr} {t : TA} {id T : String} {r : List V -> Hp -> VK -> Prop}
def tCB (r : List V -> Hp -> VK -> Prop) (t : TA) : TE := fun σ H Q => t σ H fun vs H1 => r vs H1 Q
theorem pe_callB (hc : CallR X (.builtin id) r) (hg : Gl X x) (hm : X.mg x = none) (hv : bootBuiltins x = some (.builtin id)) (ha : PA X (e :: es) t) (hn : x ≠ "__name__" := by decide) (hdb : (x == ("__debug__" : Str)) = false := by decide)
  (he : starEach (e :: es) X.env = (false,eval e X.env) :: starEach es X.env := by rfl) (hpl : (backTo pos (starEach es X.env)).any (·.1) = false := by rfl) : PE X (.Call (.Name x p) (e :: es) [] pos) (tCB r t) := by
 intro pins s σ H Q I h
 refine wpAny_Call_Name_kw (ld_blt I hg hm hv ?_ hn hdb)
 exact PyProof.Rows.callWith_builtin1 (thn (ha pos pins s σ H _ I h) fun us s1 ⟨vs,H1,I1,r1,q1⟩ => hc pins s1 σ H1 vs us Q I1 r1 q1) he hpl
end
end L2
namespace HT
open PySem PyProof.Rows
section
open PySem.SeqAt
open PySem.AutoSeq1 (wpAny_loadPart')
open PySem.MeetsSeq PySem.MeetsSeq2 PySem.MeetsSeq3
end
section
variable {prog : Program} {w : World} {A : Around} {E : Value -> Shared -> Prop} {s : Shared}
def sIx (n d : Nat) : Option Int -> Nat
 | none => d
 | some v => if v < 0 then (v + (n : Int)).toNat else min v.toNat n
theorem sIx_none (n d : Nat) : sIx n d none = d := rfl
theorem sIx_nat (n d k : Nat) : sIx n d (some (k : Int)) = min k n := by
 show (if (k : Int) < 0 then ((k : Int) + (n : Int)).toNat else min (k : Int).toNat n) = min k n
 rw [if_neg (by omega),Int.toNat_natCast]
end
end HT
namespace L2
open PySem PySem.Spec PyProof.Rows
abbrev TO := St -> Hp -> (Option Int -> Hp -> Prop) -> Prop
def PO (X : Cx) (e : Option Expr) (t : TO) : Prop :=
 ∀ (pins : List (Addr × Obj)) (s : Shared) (σ : St) (H : Hp) (Q : Option Int -> Hp -> Prop),Inv X pins σ H s -> t σ H Q ->
  wpAny (model X.prog X.w) X.A (evalPart e X.env) (fun u s' => ∃ o H',Inv X pins σ H' s' /\ IsPart u o /\ Q o H') X.xe s
def tNoPart : TO := fun _ H Q => Q none H
def tPart (t : TE) : TO := fun σ H Q => t σ H fun x H1 => ∃ i,x = .int i /\ Q (some i) H1
section
variable {X : Cx} {e : Expr} {te : TE} {lo hi : Option Expr} {tl th : TO} {pos p2 : Pos}
theorem po_none : PO X none tNoPart := by
 intro pins s σ H Q I h
 rw [evalPart_none]
 exact wpAny_pure ⟨none,H,I,.none,h⟩
theorem po_some (h : PE X e te) : PO X (some e) (tPart te) := by
 intro pins s σ H Q I hw
 rw [evalPart_some]
 refine thn (h pins s σ H _ I hw) fun u s1 ⟨x,H1,I1,r1,q1⟩ => ?_
 obtain ⟨i,rfl,q⟩ := q1
 obtain ⟨t,rfl⟩ := r1
 exact ⟨some i,H1,I1,.int i t,q⟩
def SlR (X : Cx) (r : V -> Option Int -> Option Int -> Hp -> VK -> Prop) : Prop :=
 ∀ (pins : List (Addr × Obj)) (s : Shared) (σ : St) (H : Hp) (x : V) (v vl vu : Value) (lo hi : Option Int) (sl : Addr) (Q : VK),Inv X pins σ H s -> RelV x v -> s.heap.IsSliceOf sl vl vu .none -> IsPart vl lo -> IsPart vu hi -> r x lo hi H Q ->
  ∃ T id,typeLookup (.type T) "__getitem__" = pure (some (.builtin id)) /\ s.TypeIs v T /\ wpAny (model X.prog X.w) X.A (getItem v (.ref sl)) (EP X pins σ Q) X.xe s
def tSl (r : V -> Option Int -> Option Int -> Hp -> VK -> Prop) (te : TE) (tl th : TO) : TE := fun σ H Q => te σ H fun x H1 => tl σ H1 fun l H2 => th σ H2 fun u H3 => r x l u H3 Q
theorem pe_slice {r : V -> Option Int -> Option Int -> Hp -> VK -> Prop} (hr : SlR X r) (he : PE X e te) (hl : PO X lo tl) (hu : PO X hi th) : PE X (.Subscript e (.Slice lo hi none p2) pos) (tSl r te tl th) := by
 intro pins s σ H Q I h
 refine Subscript_ (thn (he pins s σ H _ I h) fun v s1 ⟨x,H1,I1,r1,q1⟩ => ?_)
 refine wpAny_Slice (thn (hl pins s1 σ H1 _ I1 q1) fun vl s2 ⟨l,H2,I2,pl,q2⟩ => thn (hu pins s2 σ H2 _ I2 q2) fun vu s3 ⟨u,H3,I3,pu,q3⟩ => ?_)
 rw [evalPart_none]
 refine wpAny_pure ?_
 have I4 : Inv X pins σ H3 { s3 with heap := s3.heap.push { cls := .type "slice",data := .fields #[vl,vu,.none] } } := I3.kept (t' := s3.toks) fun b ob q => Heap.get?_push_of_some _ q
 obtain ⟨T,id,hT,ht,hg⟩ := hr pins { s3 with heap := s3.heap.push { cls := .type "slice",data := .fields #[vl,vu,.none] } } σ H3 x v vl vu l u s3.heap.objs.size Q I4 r1 (Heap.IsSliceOf.new ..) pl pu q3
 show wpAny (model X.prog X.w) X.A (subscriptTail e (.Slice lo hi none p2) v (.ref s3.heap.objs.size)) (EP X pins σ Q) X.xe { s3 with heap := s3.heap.push { cls := .type "slice",data := .fields #[vl,vu,.none] } }
 exact tail_any (ops := [.ref s3.heap.objs.size,v]) ht hT hg (by with_unfolding_all rfl)
def cutV (xs : List V) (lo hi : Option Int) : List V := (xs.drop (HT.sIx xs.length 0 lo)).take (HT.sIx xs.length xs.length hi - HT.sIx xs.length 0 lo)
theorem cutV_length (xs : List V) (lo hi : Option Int) : (cutV xs lo hi).length <= xs.length := by
 unfold cutV
 rw [List.length_take,List.length_drop]
 omega
end
end L2
namespace L2
open PySem PySem.Spec PyProof.Rows
def ixN (n : Nat) (i : Int) : Option Nat := if 0 <= i then (if i < n then some i.toNat else none) else if -(n : Int) <= i then some (i + n).toNat else none
def atI {α : Type} (xs : List α) (i : Int) : Option α := (ixN xs.length i).bind fun j => xs[j]?
theorem ixN_seq {n : Nat} {i : Int} {j : Nat} (h : ixN n i = some j) : seqIndex? i n = some j /\ j < n /\ -(n : Int) <= i /\ i < n := by
 unfold ixN at h
 by_cases h0 : 0 <= i
 ·rw [if_pos h0] at h
  by_cases h1 : i < n
  ·rw [if_pos h1] at h
   have e : i.toNat = j := Option.some.inj h
   exact ⟨by rw [seqIndex_of h0 h1,e],by omega,by omega,h1⟩
  ·rw [if_neg h1] at h; cases h
 ·rw [if_neg h0] at h
  by_cases h1 : -(n : Int) <= i
  ·rw [if_pos h1] at h
   have e : (i + n).toNat = j := Option.some.inj h
   exact ⟨by rw [seqIndex_neg (by omega) h1,e],by omega,h1,by omega⟩
  ·rw [if_neg h1] at h; cases h
theorem atI_get {α : Type} {xs : List α} {i : Int} {v : α} (h : atI xs i = some v) : ∃ j,seqIndex? i xs.length = some j /\ xs[j]? = some v /\ j < xs.length /\ -(xs.length : Int) <= i /\ i < xs.length := by
 unfold atI at h
 cases e : ixN xs.length i with
 | none => rw [e] at h; cases h
 | some j =>
  rw [e] at h
  obtain ⟨h1,h2,h3,h4⟩ := ixN_seq e
  exact ⟨j,h1,h,h2,h3,h4⟩
theorem atI_nat {α : Type} {xs : List α} {j : Nat} {v : α} (h : xs[j]? = some v) : atI xs (j : Int) = some v := by
 have hj : j < xs.length := (List.getElem?_eq_some_iff.mp h).1
 have e : ixN xs.length (j : Int) = some j := by
  unfold ixN
  rw [if_pos (by omega),if_pos (by omega)]; simp
 unfold atI; rw [e]; exact h
theorem atI_last {α : Type} (xs : List α) (v : α) : atI (xs ++ [v]) (-1) = some v := by
 have hl : (xs ++ [v]).length = xs.length + 1 := by simp
 have e : ixN (xs ++ [v]).length (-1) = some xs.length := by
  unfold ixN
  rw [hl,if_neg (by decide),if_pos (by omega)]
  congr 1
  omega
 unfold atI
 rw [e]
 show (xs ++ [v])[xs.length]? = some v
 simp
def PlainIx (b : Expr) : Prop := ∀ o i,subscripted b false o i = operate [o,i] (getItem o i)
def IxR (X : Cx) (r : R2) : Prop :=
 ∀ (value slice : Expr) (pins : List (Addr × Obj)) (s : Shared) (σ : St) (H : Hp) (x y : V) (v u : Value) (Q : VK),Inv X pins σ H s -> RelV x v -> RelV y u -> r x y H Q ->
  subscripted slice false v u = operate [v,u] (getItem v u) -> wpAny (model X.prog X.w) X.A (subscriptTail value slice v u) (EP X pins σ Q) X.xe s
def MtR (X : Cx) (id : String) (r : V -> List V -> Hp -> VK -> Prop) : Prop :=
 ∀ (pins : List (Addr × Obj)) (s : Shared) (σ : St) (H : Hp) (x : V) (xs : List V) (v : Value) (us : List Value) (Q : VK),Inv X pins σ H s -> RelV x v -> Vals xs us -> r x xs H Q ->
  wpAny (model X.prog X.w) X.A (call (.builtin id) (v :: us)) (EP X pins σ Q) X.xe s
section
variable {X : Cx} {a b : Expr} {ta tb : TE} {pos : Pos}
theorem pe_ix {r : R2} (hr : IxR X r) (ha : PE X a ta) (hb : PE X b tb) (hs : PlainIx b) : PE X (.Subscript a b pos) (tOp r ta tb) := by
 intro pins s σ H Q I h
 exact Subscript_ (binT ha hb I h fun v u s2 x y H2 I2 rx ry q => hr a b pins s2 σ H2 x y v u Q I2 rx ry q (hs _ _))
def rIxL (K : PySem.W.Frag) : R2 := fun x y H Q => ∃ p xs i v,x = .ref p /\ y = .int i /\ SqL K H p xs /\ atI xs i = some v /\ Q v H
def rIxT (K : PySem.W.Frag) : R2 := fun x y H Q => ∃ p xs i v,x = .ref p /\ y = .int i /\ SqT K H p xs /\ atI xs i = some v /\ Q v H
theorem ix_list : IxR X (rIxL X.K) := by
 intro value slice pins s σ H x y v u Q I rx ry h hs
 obtain ⟨p,xs,i,z,rfl,rfl,hq,he,q⟩ := h
 cases rx
 obtain ⟨t,rfl⟩ := ry
 obtain ⟨its,r,pl,hz⟩ := I.list hq
 obtain ⟨j,h1,h2,h3,h4,h5⟩ := atI_get he
 obtain ⟨w,ew,rw'⟩ := r.get h2
 have hl := r.length
 have hn := line63
 have fin : EP X pins σ Q w s := ⟨z,H,I,rw',q⟩
 by_cases h0 : 0 <= i
 ·have hj : i.toNat = j := by
   rw [seqIndex_of h0 h5] at h1
   exact Option.some.inj h1
  exact item_listR pl.isList h0 (by omega) (by rw [hj]; simpa using ew) fin hs
 ·have hj : (i + (its.toArray.size : Int)).toNat = j := by
   rw [seqIndex_neg (by omega) h4] at h1
   rw [List.size_toArray,<- hl]
   exact Option.some.inj h1
  exact subscriptTail_builtinR (x := w) pl.isList.typeIs slot_list_getitem.lookup
   (wpAny_getItem_list_neg (Q := fun r s' => r = w /\ EP X pins σ Q r s') pl.isList (by omega) (by rw [List.size_toArray] <;> omega) (by omega) (by rw [hj]; simpa using ew) ⟨rfl,fin⟩) hs
theorem ix_tup : IxR X (rIxT X.K) := by
 intro value slice pins s σ H x y v u Q I rx ry h hs
 obtain ⟨p,xs,i,z,rfl,rfl,hq,he,q⟩ := h
 cases rx
 obtain ⟨t,rfl⟩ := ry
 obtain ⟨its,r,pl,hz⟩ := I.tuple hq
 obtain ⟨j,h1,h2,h3,h4,h5⟩ := atI_get he
 obtain ⟨w,ew,rw'⟩ := r.get h2
 have hl := r.length
 have hn := line63
 have fin : EP X pins σ Q w s := ⟨z,H,I,rw',q⟩
 exact subscriptTail_builtinR (x := w) pl.typeIs slot_tuple_getitem.lookup
  (getItem_tuple (j := j) (Q := fun r s' => r = w /\ EP X pins σ Q r s') pl (by omega) (by omega) (by rw [List.size_toArray,<- hl]; exact h1) (by simpa using ew) ⟨rfl,fin⟩) hs
theorem mapSeq_set (its : List Value) (n j : Nat) (u : Value) : Obj.mapSeq (·.setIfInBounds j u) { cls := .type "list",data := .seq its.toArray n } = { cls := .type "list",data := .seq (its.set j u).toArray n } := by
 simp [Obj.mapSeq]
theorem Inv.lst {pins : List (Addr × Obj)} {σ : St} {H : Hp} {s : Shared} {p : Addr} {xs : List V} (I : Inv X pins σ H s) (h : H p = some (.lst xs)) :
  ∃ (its : List Value) (n : Nat),Vals xs its /\ s.heap.get? p = some { cls := .type "list",data := .seq its.toArray n } /\ xs.length <= sizeLine := by
 obtain ⟨z,its,n,r,e⟩ := I.hok p _ h
 exact ⟨its,n,r,e,z⟩
theorem Inv.lstUpd {pins : List (Addr × Obj)} {σ : St} {H : Hp} {s : Shared} {p : Addr} {xs ys : List V} {its its' : List Value} {n n' : Nat} {f : Obj -> Obj} (I : Inv X pins σ H s) (h : H p = some (.lst xs))
  (ho : s.heap.get? p = some { cls := .type "list",data := .seq its.toArray n }) (hf : f { cls := .type "list",data := .seq its.toArray n } = { cls := .type "list",data := .seq its'.toArray n' }) (r : Vals ys its') (hz : ys.length <= sizeLine) (t : Nat) :
  Inv X pins σ (upd H p (.lst ys)) { s with heap := s.heap.update p f,toks := t } := by
 have e : (s.heap.update p f).get? p = some { cls := .type "list",data := .seq its'.toArray n' } := by
  rw [Heap.get?_update_self f ho (by rw [hf] <;> rfl),hf]
 refine I.write (x := p) (e := p) (by rw [h]; trivial) (.inl rfl) (fun b u hb q => (Heap.get?_update_other _ _ (Ne.symm hb)).trans q) ⟨_,e⟩ ?_
 exact ⟨hz,its',n',r,e⟩
def rSetL : V -> V -> V -> Hp -> (Hp -> Prop) -> Prop := fun o i v H Q => ∃ p xs k j,o = .ref p /\ i = .int k /\ H p = some (.lst xs) /\ ixN xs.length k = some j /\ Q (upd H p (.lst (xs.set j v)))
theorem set_list : PSet X rSetL := by
 intro pins s σ H o i v ov iv u Q I ro ri rv h
 obtain ⟨p,xs,k,j,rfl,rfl,hp,hj,q⟩ := h
 cases ro
 obtain ⟨t,rfl⟩ := ri
 obtain ⟨its,n,r,ho,hz⟩ := I.lst hp
 obtain ⟨h1,h2,h3,h4⟩ := ixN_seq hj
 have hl := r.length
 have hn := line63
 have I' : Inv X pins σ (upd H p (.lst (xs.set j v))) { s with heap := s.heap.update p (Obj.mapSeq (·.setIfInBounds j u)) } :=
  I.lstUpd hp ho (mapSeq_set its n j u) (r.set rv j) (by rw [List.length_set]; exact hz) s.toks
 by_cases h0 : 0 <= k
 ·have hk : k.toNat = j := by
   rw [seqIndex_of h0 h4] at h1
   exact Option.some.inj h1
  exact PySem.W.ki_setAt ho h0 (by omega) (by rw [List.size_toArray,<- hl]; exact h4) (by rw [hk]; exact ⟨_,I',q⟩)
 ·have hk : (k + (its.toArray.size : Int)).toNat = j := by
   rw [seqIndex_neg (by omega) h3] at h1
   rw [List.size_toArray,<- hl]
   exact Option.some.inj h1
  exact PySem.W.ki_setBack ho (by omega) (by rw [List.size_toArray,<- hl]; exact h3) (by omega) (by rw [hk]; exact ⟨_,I',q⟩)
theorem slice_bounds (lo hi : Option Int) (n : Nat) : (sliceBounds lo hi none n).1 = ((HT.sIx n 0 lo : Nat) : Int) /\ (sliceBounds lo hi none n).2.1 = ((HT.sIx n n hi : Nat) : Int) /\ (sliceBounds lo hi none n).2.2 = 1 := by
 refine ⟨?_,?_,rfl⟩
 ·cases lo with
  | none => simp [sliceBounds,HT.sIx]
  | some i =>
   simp only [sliceBounds,HT.sIx,Option.getD_none,show (1 : Int) > 0 by decide,if_true]
   by_cases h : i < 0
   ·simp only [h,if_true] <;> omega
   ·simp only [h,if_false] <;> omega
 ·cases hi with
  | none => simp [sliceBounds,HT.sIx]
  | some i =>
   simp only [sliceBounds,HT.sIx,Option.getD_none,show (1 : Int) > 0 by decide,if_true]
   by_cases h : i < 0
   ·simp only [h,if_true] <;> omega
   ·simp only [h,if_false] <;> omega
theorem slicePick_cut (its : List Value) (lo hi : Option Int) : slicePick its.toArray lo hi none = ((its.drop (HT.sIx its.length 0 lo)).take (HT.sIx its.length its.length hi - HT.sIx its.length 0 lo)).toArray := by
 obtain ⟨h1,h2,h3⟩ := slice_bounds lo hi its.toArray.size
 unfold slicePick
 rw [h1,h2,h3]
 simp only [sliceRange_one,pick_run,List.size_toArray] <;> rfl
def rSlL (K : PySem.W.Frag) : V -> Option Int -> Option Int -> Hp -> VK -> Prop := fun x lo hi H Q => ∃ a xs,x = .ref a /\ SqL K H a xs /\ ∀ p,H p = none -> Q (.ref p) (upd H p (.lst (cutV xs lo hi)))
theorem sl_list : SlR X (rSlL X.K) := by
 intro pins s σ H x v vl vu lo hi sl Q I rx hs pl pu h
 obtain ⟨a,xs,rfl,hx,q⟩ := h
 cases rx
 obtain ⟨its,r,ht,hz⟩ := I.list hx
 have hlen := r.length
 refine ⟨"list",_,slot_list_getitem.lookup,ht.isList.typeIs,?_⟩
 refine wpAny_getItem_list_slice ht.isList hs pl pu .none (by simp) ?_ (by rw [List.size_toArray] <;> omega)
 rw [slicePick_cut,<- hlen]
 refine ⟨.ref s.heap.objs.size,_,I.laid (t' := s.toks) (o := .lst (cutV xs lo hi)) (fun b ob q => Heap.get?_push_of_some _ q) (Nat.le_refl _) ?_,rfl,q _ (I.hok.fresh (Nat.le_refl _))⟩
 exact ⟨Nat.le_trans (cutV_length xs lo hi) hz,_,0,(r.drop (HT.sIx xs.length 0 lo)).take (HT.sIx xs.length xs.length hi - HT.sIx xs.length 0 lo),Heap.get?_push_size _ rfl⟩
theorem call_len_seq : CallR X (.builtin "len") (fun xs H Q => ∃ p ys,xs = [.ref p] /\ (SqL X.K H p ys \/ SqT X.K H p ys) /\ Q (.int ys.length) H) := by
 intro pins s σ H xs us Q I r h
 obtain ⟨p,ys,rfl,hq,q⟩ := h
 obtain ⟨u,rfl,rx⟩ := vals1 r
 cases rx
 have hn := line63
 rcases hq with hq | hq
 ·obtain ⟨its,r',pl,hz⟩ := I.list hq
  have hlen := r'.length
  exact Calls.call_len_list pl.isList (by simp only [List.size_toArray] <;> omega) ⟨.int ys.length,H,I.tok _,⟨s.toks + 1,by rw [List.size_toArray,hlen]⟩,q⟩
 ·obtain ⟨its,r',pl,hz⟩ := I.tuple hq
  have hlen := r'.length
  exact len_tuple pl (by simp only [List.size_toArray] <;> omega) ⟨.int ys.length,H,I.tok _,⟨s.toks + 1,by rw [List.size_toArray,hlen]⟩,q⟩
def tyV (K : PySem.W.Frag) (T : String) (x : V) (H : Hp) : Prop := match x with
 | .str _ => T = "str"
 | .int _ => T = "int"
 | .ref p => (T = "list" /\ ∃ xs,SqL K H p xs) \/ (T = "tuple" /\ ∃ o,K.lookup p = some o /\ o.cls = .type "tuple" /\ o.dict = none) \/
   (T = "dict" /\ ((∃ kvs,H p = some (.dK kvs)) \/ ∃ kvs,H p = some (.dT kvs))) \/ (T = "set" /\ ∃ S n,H p = some (.set S n))
 | _ => False
theorem tyV_is {pins : List (Addr × Obj)} {σ : St} {H : Hp} {s : Shared} {T : String} {x : V} {v : Value} (I : Inv X pins σ H s) (r : RelV x v) (ty : tyV X.K T x H) :
  s.TypeIs v T /\ ∀ a,v = .ref a -> ∃ ob,s.heap.get? a = some ob /\ ob.dict = none := by
 cases x with
 | str z =>
  obtain ⟨t,rfl⟩ := r
  cases (show T = "str" from ty)
  exact ⟨typeIs_str s z t,fun _ e => nomatch e⟩
 | int i =>
  obtain ⟨t,rfl⟩ := r
  cases (show T = "int" from ty)
  exact ⟨typeIs_int s i t,fun _ e => nomatch e⟩
 | ref p =>
  cases r
  rcases ty with ⟨rfl,xs,hq⟩ | ⟨rfl,o,hk,hc,hd⟩ | ⟨rfl,hk⟩ | ⟨rfl,S,n,hk⟩
  ·obtain ⟨its,_,pl,_⟩ := I.list hq
   refine ⟨pl.isList.typeIs,fun a e => ?_⟩
   cases e
   obtain ⟨o,n,e,c,hd,_⟩ := pl
   exact ⟨o,e,hd⟩
  ·refine ⟨⟨o,I.kIn p o hk,hc⟩,fun a e => ?_⟩
   cases e
   exact ⟨o,I.kIn _ o hk,hd⟩
  ·have z : ∃ o,s.heap.get? p = some o /\ o.ExactDict := by
    rcases hk with ⟨kvs,hk⟩ | ⟨kvs,hk⟩
    ·obtain ⟨_,_,_,_,o,_,_,e,ex,_⟩ := I.hok p _ hk
     exact ⟨o,e,ex⟩
    ·obtain ⟨_,_,_,_,o,_,_,e,ex,_⟩ := I.hok p _ hk
     exact ⟨o,e,ex⟩
   obtain ⟨o,e,ex⟩ := z
   refine ⟨⟨o,e,ex.1⟩,fun a e2 => ?_⟩
   cases e2
   exact ⟨o,e,ex.2.1⟩
  ·obtain ⟨o,_,_,_,e,ex,_⟩ := I.hok p _ hk
   refine ⟨⟨o,e,ex.1⟩,fun a e2 => ?_⟩
   cases e2
   exact ⟨o,e,ex.2.1⟩
 | _ => exact False.elim ty
def tBM0 (K : PySem.W.Frag) (T : String) (r : V -> List V -> Hp -> VK -> Prop) (to : TE) : TE := fun σ H Q => to σ H fun x H1 => tyV K T x H1 /\ r x [] H1 Q
def tBM (K : PySem.W.Frag) (T : String) (r : V -> List V -> Hp -> VK -> Prop) (to : TE) (t : TA) : TE := fun σ H Q => to σ H fun x H1 => tyV K T x H1 /\ t σ H1 fun xs H2 => r x xs H2 Q
variable {o e : Expr} {es : List Expr} {to : TE} {t : TA} {name : Str} {apos cpos : Pos} {T id : String} {r : V -> List V -> Hp -> VK -> Prop}
theorem pe_bm0 (pa : PlainAttrs T) (slot : Slot T name id) (hty : typeOf (.builtin id) = pure (.type "method_descriptor")) (hm : MtR X id r) (ho : PE X o to)
  (hbase : attributeBase o name X.env (eval o X.env) = eval o X.env := by rfl) (hline : (apos.endLine == cpos.line) = true := by rfl) : PE X (.Call (.Attribute o name apos) [] [] cpos) (tBM0 X.K T r to) := by
 intro pins s σ H Q I h
 refine wpAny_Call_method0_late hbase hline (thn (ho pins s σ H _ I h) fun v s1 ⟨x,H1,I1,r1,ty,q1⟩ => ?_)
 obtain ⟨h1,h2⟩ := tyV_is I1 r1 ty
 exact ⟨T,id,pa,slot,hty,h1,h2,Calls.callWith_builtin rfl (PySem.evalArgs_none (hm pins s1 σ H1 x [] v [] Q I1 r1 .nil q1))⟩
theorem pe_bm (pa : PlainAttrs T) (slot : Slot T name id) (hty : typeOf (.builtin id) = pure (.type "method_descriptor")) (hm : MtR X id r) (ho : PE X o to) (ha : PA X (e :: es) t)
  (hbase : attributeBase o name X.env (eval o X.env) = eval o X.env := by rfl)
  (hfew : ((backTo cpos (starEach (e :: es) X.env)).all (fun x => !x.1) && (backToKw cpos (keywordEach [] X.env)).all (fun x => x.1.isSome)
   && decide ((e :: es).length + ([] : List Keyword).length + (if ([] : List Keyword).isEmpty then 0 else 1) < 30)) = true := by rfl)
  (hline : (apos.endLine == cpos.line) = true := by rfl) (hs : starEach (e :: es) X.env = (false,eval e X.env) :: starEach es X.env := by rfl) (hplain : (backTo cpos (starEach es X.env)).any (·.1) = false := by rfl) :
  PE X (.Call (.Attribute o name apos) (e :: es) [] cpos) (tBM X.K T r to t) := by
 intro pins s σ H Q I h
 refine wpAny_Call_method_late hbase hfew hline rfl (thn (ho pins s σ H _ I h) fun v s1 ⟨x,H1,I1,r1,ty,q1⟩ => ?_)
 obtain ⟨h1,h2⟩ := tyV_is I1 r1 ty
 refine ⟨T,id,pa,slot,hty,h1,h2,?_⟩
 have hA := ha cpos pins s1 σ H1 _ I1 q1
 rw [hs] at hA ⊢
 refine Calls.callWith_builtin (by show (false || (backTo cpos (starEach es X.env)).any (·.1)) = false; rw [hplain] <;> rfl) (Calls.evalArgs_plain ?_)
 exact thn hA fun us s2 ⟨vs,H2,I2,r2,q2⟩ => hm pins s2 σ H2 x vs v us Q I2 r1 r2 q2
end
end L2
namespace L2
open PySem PySem.Spec PyProof.Rows
def MtM (X : Cx) (id : String) (r : V -> List V -> Hp -> VK -> Prop) : Prop :=
 ∀ (pins : List (Addr × Obj)) (s : Shared) (σ : St) (H : Hp) (x : V) (xs : List V) (v : Value) (us : List Value) (Q : VK),Inv X pins σ H s -> RelV x v -> Vals xs us -> r x xs H Q ->
  wpAny (model X.prog X.w) X.A (call (.builtin id) (v :: us)) (EP X pins σ Q) X.xe s
theorem Vals.one : ∀ {x : V} {us : List Value},Vals [x] us -> ∃ u,us = [u] /\ RelV x u
 | _,_,.cons r .nil => ⟨_,rfl,r⟩
theorem Vals.zero : ∀ {us : List Value},Vals [] us -> us = []
 | _,.nil => rfl
theorem Vals.dropLast {xs : List V} {us : List Value} (h : Vals xs us) : Vals xs.dropLast us.dropLast := by
 induction h with
 | nil => exact .nil
 | cons r t ih =>
  cases t with
  | nil => exact .nil
  | cons q t' => exact .cons r ih
theorem Vals.rep {xs : List V} {us : List Value} (h : Vals xs us) : ∀ k : Nat,Vals (List.replicate k xs).flatten (List.replicate k us).flatten
 | 0 => .nil
 | k + 1 => by
  rw [List.replicate_succ,List.replicate_succ,List.flatten_cons,List.flatten_cons]
  exact Vals.append h (Vals.rep h k)
theorem erase_last {α : Type} (l : List α) : l.eraseIdx (l.length - 1) = l.dropLast := by
 induction l with
 | nil => rfl
 | cons a r ih =>
  cases r with
  | nil => rfl
  | cons b r =>
   have e : (a :: b :: r).length - 1 = ((b :: r).length - 1) + 1 := by
    have h1 : (a :: b :: r).length = r.length + 2 := rfl
    have h2 : (b :: r).length = r.length + 1 := rfl
    omega
   rw [e,List.eraseIdx_cons_succ,ih]
   all_goals rfl
theorem foldl_rep (its : List Value) : ∀ (k : Nat) (acc : List Value),
  List.foldl (fun x1 x2 => x1 ++ x2) acc.toArray (List.replicate k its.toArray) = (acc ++ (List.replicate k its).flatten).toArray
 | 0,acc => by simp
 | k + 1,acc => by
  have e : acc.toArray ++ its.toArray = (acc ++ its).toArray := by simp
  have e2 : (acc ++ its) ++ (List.replicate k its).flatten = acc ++ (List.replicate (k + 1) its).flatten := by
   rw [List.replicate_succ,List.flatten_cons,List.append_assoc]
  rw [<- e2,<- foldl_rep its k (acc ++ its),<- e,List.replicate_succ,List.foldl_cons]
section
variable {X : Cx} {pins : List (Addr × Obj)} {σ : St} {H : Hp} {s : Shared} {l b : Addr} {xs ys zs : List V}
theorem Inv.lset {its its' : List Value} {n : Nat} {f : Array Value -> Array Value} {t' : Nat} (I : Inv X pins σ H s) (hH : H l = some (.lst xs))
  (e : s.heap.get? l = some { cls := .type "list",data := .seq its.toArray n }) (hf : f its.toArray = its'.toArray) (hv : Vals ys its') (hz : ys.length <= sizeLine) :
  Inv X pins σ (upd H l (.lst ys)) { s with heap := s.heap.update l (Obj.mapSeq f),toks := t' } := by
 have q := PySem.IsL.update e f
 rw [hf] at q
 refine I.write (x := l) (e := l) (by rw [hH]; exact trivial) (.inl rfl) (fun b' u hb hu => (Heap.get?_update_other s.heap (Obj.mapSeq f) (Ne.symm hb)).trans hu) ⟨_,q⟩ ?_
 exact ⟨hz,its',_,hv,q⟩
theorem Inv.lnew {its : List Value} {t' : Nat} (I : Inv X pins σ H s) (hv : Vals ys its) (hz : ys.length <= sizeLine) :
  Inv X pins σ (upd H s.heap.objs.size (.lst ys)) { s with heap := s.heap.push { cls := .type "list",data := .seq its.toArray },toks := t' } :=
 I.laid (fun _ _ q => Heap.get?_push_of_some _ q) (Nat.le_refl _) ⟨hz,its,0,hv,Heap.get?_push_size _ rfl⟩
theorem Inv.fresh (I : Inv X pins σ H s) : H s.heap.objs.size = none := I.hok.fresh (Nat.le_refl _)
theorem Inv.lstM (I : Inv X pins σ H s) (hH : H l = some (.lst xs)) : xs.length <= sizeLine /\ ∃ (its : List Value) (n : Nat),Vals xs its /\ xs.length = its.length /\ s.heap.get? l = some { cls := .type "list",data := .seq its.toArray n } := by
 obtain ⟨z,its,n,r,e⟩ := I.hok l _ hH
 exact ⟨z,its,n,r,r.length,e⟩
theorem notLongL {n : Nat} (h : n <= sizeLine) : Builtin.List.listTooLong n = false := by
 unfold Builtin.List.listTooLong
 exact decide_eq_false (by omega)
end
section
variable {X : Cx}
def rAppend : V -> List V -> Hp -> VK -> Prop := fun x vs H Q => ∃ l xs y,x = .ref l /\ vs = [y] /\ H l = some (.lst xs) /\ xs.length < sizeLine /\ Q .non (upd H l (.lst (xs ++ [y])))
theorem mt_append : MtM X "list.append" rAppend := by
 intro pins s σ H x vs v us Q I rx rv h
 obtain ⟨l,xs,y,rfl,rfl,hH,hz,q⟩ := h
 cases rx
 obtain ⟨u,rfl,ru⟩ := rv.one
 obtain ⟨z,its,n,r,hl,e⟩ := I.lstM hH
 refine call_meets F.slot_list_append ⟨_,e,rfl⟩ F.entry_list_append (F.args_list_append_2 _ _) (PySem.list_append l its.toArray n u (by rw [List.size_toArray]; omega)) ⟨e,?_⟩
 refine ⟨.non,_,I.lset (its' := its ++ [u]) hH e (by simp) (r.append (.cons ru .nil)) ?_,rfl,q⟩
 rw [List.length_append,List.length_singleton]
 omega
def rExtend : V -> List V -> Hp -> VK -> Prop := fun x vs H Q => ∃ l b xs zs,x = .ref l /\ vs = [.ref b] /\ H l = some (.lst xs) /\ H b = some (.lst zs) /\ xs.length + zs.length <= sizeLine /\ Q .non (upd H l (.lst (xs ++ zs)))
theorem mt_extend : MtM X "list.extend" rExtend := by
 intro pins s σ H x vs v us Q I rx rv h
 obtain ⟨l,b,xs,zs,rfl,rfl,hH,hB,hz,q⟩ := h
 cases rx
 obtain ⟨u,rfl,ru⟩ := rv.one
 cases ru
 obtain ⟨z,its,n,r,hl,e⟩ := I.lstM hH
 obtain ⟨z2,its2,n2,r2,hl2,e2⟩ := I.lstM hB
 have hsz : its.toArray.size + its2.toArray.size <= sizeLine := by rw [List.size_toArray,List.size_toArray]; omega
 have hlong : ¬ (!its.toArray.isEmpty && Builtin.List.listTooLong (its.toArray.size + its2.toArray.size)) = true := by
  rw [notLongL hsz,Bool.and_false]
  exact Bool.false_ne_true
 refine call_meets F.slot_list_extend ⟨_,e,rfl⟩ F.entry_list_extend (F.args_list_extend_2 _ _)
  (AutoSeq1.list_extend_list_list_0 l its.toArray n b its2.toArray n2 hlong (by rw [List.size_toArray]; omega) (by omega)) ⟨e,e2,?_⟩
 refine ⟨.non,_,I.lset (its' := its ++ its2) hH e (by simp) (r.append r2) ?_,rfl,q⟩
 rw [List.length_append]
 omega
def rPop : V -> List V -> Hp -> VK -> Prop := fun x vs H Q => ∃ l xs y,x = .ref l /\ vs = [] /\ H l = some (.lst xs) /\ xs[xs.length - 1]? = some y /\ Q y (upd H l (.lst xs.dropLast))
theorem mt_pop : MtM X "list.pop" rPop := by
 intro pins s σ H x vs v us Q I rx rv h
 obtain ⟨l,xs,y,rfl,rfl,hH,hy,q⟩ := h
 cases rx
 have hus := rv.zero
 subst hus
 obtain ⟨z,its,n,r,hl,e⟩ := I.lstM hH
 obtain ⟨u,hu,ru⟩ := r.get hy
 have hy' : its.toArray[its.toArray.size - 1]? = some u := by
  show its.toArray[its.length - 1]? = some u
  rw [<- Array.getElem?_toList,<- hl]
  exact hu
 refine call_meets F.slot_list_pop ⟨_,e,rfl⟩ F.entry_list_pop (F.args_list_pop_1 _) (MeetsSeq.list_pop_last l its.toArray n u hy' (by rw [List.size_toArray]; omega)) ⟨e,?_⟩
 refine ⟨y,_,I.lset (its' := its.dropLast) hH e ?_ r.dropLast ?_,ru,q⟩
 ·show its.toArray.eraseIdxIfInBounds (its.toArray.size - 1) = its.dropLast.toArray
  rw [List.size_toArray,List.eraseIdxIfInBounds_toArray,erase_last]
 ·rw [List.length_dropLast]
  omega
def rCat : R2 := fun x y H Q => ∃ l b xs zs,x = .ref l /\ y = .ref b /\ H l = some (.lst xs) /\ H b = some (.lst zs) /\ xs.length + zs.length <= sizeLine /\ ∀ p,H p = none -> Q (.ref p) (upd H p (.lst (xs ++ zs)))
theorem op_cat : OpR X (binaryOp .Add) rCat := by
 intro pins s σ H x y v u Q I rx ry h
 obtain ⟨l,b,xs,zs,rfl,rfl,hH,hB,hz,q⟩ := h
 cases rx
 cases ry
 obtain ⟨z,its,n,r,hl,e⟩ := I.lstM hH
 obtain ⟨z2,its2,n2,r2,hl2,e2⟩ := I.lstM hB
 refine PySem.P.add_list e e2 ?_ (by rw [List.size_toArray,List.size_toArray]; omega)
 have ea : its.toArray ++ its2.toArray = (its ++ its2).toArray := by simp
 rw [ea]
 exact ⟨.ref _,_,I.lnew (t' := s.toks) (r.append r2) (by rw [List.length_append]; omega),rfl,q _ I.fresh⟩
def rRep : R2 := fun x y H Q => ∃ l k xs,x = .ref l /\ y = .int k /\ H l = some (.lst xs) /\ -(2 ^ 63) <= k /\ k < 2 ^ 63 /\ xs.length * k.toNat <= sizeLine /\
 ∀ p,H p = none -> Q (.ref p) (upd H p (.lst (List.replicate k.toNat xs).flatten))
theorem len_rep {α : Type} (xs : List α) (k : Nat) : (List.replicate k xs).flatten.length = k * xs.length := by
 induction k with
 | zero => simp
 | succ k ih => rw [List.replicate_succ,List.flatten_cons,List.length_append,ih,Nat.succ_mul,Nat.add_comm]
theorem op_rep : OpR X (binaryOp .Mult) rRep := by
 intro pins s σ H x y v u Q I rx ry h
 obtain ⟨l,k,xs,rfl,rfl,hH,h1,h2,hz,q⟩ := h
 cases rx
 obtain ⟨t,rfl⟩ := ry
 obtain ⟨z,its,n,r,hl,e⟩ := I.lstM hH
 have hlen : its.toArray.size * k.toNat <= sizeLine := by rw [List.size_toArray,<- hl]; exact hz
 have hcap : ¬ its.toArray.size * k.toNat > (2 ^ 63 - 1) / 8 := by
  have : (sizeLine : Nat) <= (2 ^ 63 - 1) / 8 := by decide
  omega
 have hfit : ¬ (!Builtin.List.listFitsIndex k) = true := by
  rw [fitsIndex_both h1 h2]
  exact Bool.false_ne_true
 have hlong : ¬ Builtin.List.listTooLong (its.toArray.size * k.toNat) = true := by
  rw [notLongL hlen]
  exact Bool.false_ne_true
 have hnew : List.foldl (fun x1 x2 => x1 ++ x2) #[] (List.replicate (if its.toArray.isEmpty = true then 0 else k.toNat) its.toArray) = (List.replicate k.toNat its).flatten.toArray := by
  have f0 : ∀ m : Nat,List.foldl (fun x1 x2 => x1 ++ x2) #[] (List.replicate m its.toArray) = (List.replicate m its).flatten.toArray := fun m => by
   have := foldl_rep its m []
   rw [List.nil_append] at this
   exact this
  rw [f0]
  cases its with
  | nil => simp
  | cons a r' => rw [if_neg (by simp)]
 refine wpAny_binaryOp_repeat_ref (T := "list") (U := "int") (by decide) ⟨_,e,rfl⟩ (fun s' => typeIs_int s' k t) noFill_list_mul F.fills_int_mul F.slot_int_rmul repeat_list F.slot_int_index.lookup
  (call_meets F.slot_int_rmul (typeIs_int s k t) F.entry_int_rmul (F.args_int_rmul_2 _ _) (int___rmul___int_list k t l its.toArray n)
   ⟨e,rfl,⟨_,e,rfl⟩,call_meets F.slot_list_mul ⟨_,e,rfl⟩ F.entry_list_mul (F.args_list_mul_2 _ _) (AutoListH.list___mul___list_int_3 l its.toArray n k t hfit hcap hlong) ⟨e,?_⟩⟩)
 rw [hnew]
 exact ⟨.ref _,_,I.lnew (t' := s.toks) (r.rep k.toNat) (by rw [len_rep,Nat.mul_comm]; exact hz),rfl,q _ I.fresh⟩
end
section
variable {prog : Program} {w : World} {A : Around} {E : Value -> Shared -> Prop} {s : Shared}
set_option maxRecDepth 100000 in
end
section
variable {X : Cx}
end
end L2
namespace L2
open PySem PySem.Spec PyProof.Rows
theorem Vals.bls : ∀ {bs : List Bool} {us : List Value},Vals (bs.map V.bl) us -> us = bs.map Value.bool
 | [],us,h => by
  rw [List.map_nil] at h
  cases h
  rfl
 | b :: bs,us,h => by
  rw [List.map_cons] at h
  cases h with
  | cons r t =>
   cases r
   rw [Vals.bls t,List.map_cons]
theorem Vals.ref1 {a : Addr} {us : List Value} (r : Vals [V.ref a] us) : us = [Value.ref a] := by
 cases r with
 | cons r t =>
  cases t
  cases r
  rfl
section
variable {prog : Program} {w : World} {A : Around} {E : Value -> Shared -> Prop} {s : Shared} {l : Addr} {its : List Value} {ns : List Int} {Q : Value -> Shared -> Prop}
end
section
variable {X : Cx}
end
section
variable {X : Cx}
end
section
variable {X : Cx}
end
theorem iter_any {prog : Program} {w : World} {A : Around} {E : Value -> Shared -> Prop} {s : Shared} {l : Addr} {items : Array Value} {Q : Value -> Shared -> Prop} (hl : s.heap.IsList l items)
  (h : ∀ s₂ : Shared,s₂ = { s with heap := s.heap.push { cls := .type "list_iterator",data := .fields #[.ref l,.int 0 0] } } ->
   (s₂.heap.IsListIter s.heap.objs.size l 0 /\ s₂.heap.IsList l items) -> l ≠ s.heap.objs.size -> Q (.ref s.heap.objs.size) s₂) : wpAny (model prog w) A (pyIter (.ref l)) Q E s := by
 have hlt : l < s.heap.objs.size := by obtain ⟨_,e,_⟩ := hl; exact Heap.lt_size e
 exact wpAny_pyIter_list hl (h _ rfl ⟨⟨_,Heap.get?_push_size _ rfl,rfl,rfl⟩,hl.push _⟩ (Nat.ne_of_lt hlt))
theorem truth_bools {prog : Program} {w : World} {A : Around} {bs : List Bool} {its : List Value} (e : its = bs.map Value.bool) :
  TruthOf prog w A (fun i v => its.toArray[i]? = some v) (fun i => bs.getD i false) := fun i v s Q E hv hq => by
 have hv' : its[i]? = some v := by simpa using hv
 rw [e,List.getElem?_map] at hv'
 obtain ⟨b,hb,rfl⟩ := Option.map_eq_some_iff.mp hv'
 have hg : bs.getD i false = b := by rw [List.getD_eq_getElem?_getD,hb] <;> rfl
 have hq' : Q (bs.getD i false) s := hq
 rw [hg] at hq'
 exact wpAny_truthy_bool hq'
theorem any_range : ∀ bs : List Bool,(List.range bs.length).any (fun i => bs.getD i false) = bs.any id
 | [] => rfl
 | b :: bs => by
  rw [List.length_cons,List.range_succ_eq_map,List.any_cons,List.any_map,List.any_cons,<- any_range bs]
  all_goals rfl
theorem all_range : ∀ bs : List Bool,(List.range bs.length).all (fun i => bs.getD i false) = bs.all id
 | [] => rfl
 | b :: bs => by
  rw [List.length_cons,List.range_succ_eq_map,List.all_cons,List.all_map,List.all_cons,<- all_range bs]
  all_goals rfl
section
variable {X : Cx}
def rAny (K : PySem.W.Frag) : List V -> Hp -> VK -> Prop := fun vs H Q => ∃ (a : Addr) (bs : List Bool),vs = [V.ref a] /\ SqL K H a (bs.map V.bl) /\ Q (.bl (bs.any id)) H
def rAll (K : PySem.W.Frag) : List V -> Hp -> VK -> Prop := fun vs H Q => ∃ (a : Addr) (bs : List Bool),vs = [V.ref a] /\ SqL K H a (bs.map V.bl) /\ Q (.bl (bs.all id)) H
theorem cr_any (hc : X.calm = true) : CallR X (.builtin "any") (rAny X.K) := by
 intro pins s σ H vs us Q I r h
 obtain ⟨a,bs,rfl,hs,q⟩ := h
 obtain ⟨its,rv,hl,_⟩ := I.list hs
 rw [Vals.ref1 r]
 have hb := rv.bls
 refine call_any_walk (iter_any hl.isList fun s₂ e2 st hne => ?_)
 subst e2
 refine ⟨_,_,_,_,_,_,_,rfl,Walks.list (A := X.A.in1) (I.ok.hd hc) _ a hne its.toArray,st,truth_bools hb,fun h' tk hk => ?_⟩
 refine ⟨.bl _,H,I.kept fun b o eo => hk b o (fun hmem => ?_) (Heap.get?_push_of_some _ eo),?_,q⟩
 ·rcases List.mem_cons.mp hmem with e1 | hmem
  ·exact absurd (e1 ▸ Heap.lt_size eo) (Nat.lt_irrefl _)
  ·cases hmem
 ·show Value.bool _ = Value.bool _
  rw [<- any_range,hb,List.size_toArray,List.length_map]
theorem cr_all (hc : X.calm = true) : CallR X (.builtin "all") (rAll X.K) := by
 intro pins s σ H vs us Q I r h
 obtain ⟨a,bs,rfl,hs,q⟩ := h
 obtain ⟨its,rv,hl,_⟩ := I.list hs
 rw [Vals.ref1 r]
 have hb := rv.bls
 refine call_all_walk (iter_any hl.isList fun s₂ e2 st hne => ?_)
 subst e2
 refine ⟨_,_,_,_,_,_,_,rfl,Walks.list (A := X.A.in1) (I.ok.hd hc) _ a hne its.toArray,st,truth_bools hb,fun h' tk hk => ?_⟩
 refine ⟨.bl _,H,I.kept fun b o eo => hk b o (fun hmem => ?_) (Heap.get?_push_of_some _ eo),?_,q⟩
 ·rcases List.mem_cons.mp hmem with e1 | hmem
  ·exact absurd (e1 ▸ Heap.lt_size eo) (Nat.lt_irrefl _)
  ·cases hmem
 ·show Value.bool _ = Value.bool _
  rw [<- all_range,hb,List.size_toArray,List.length_map]
end
mutual
inductive Dp (K : PySem.W.Frag) (H : Hp) : V -> PyData -> Prop
 | non : Dp K H .non .none
 | bl (b : Bool) : Dp K H (.bl b) (.bool b)
 | int (i : Int) : Dp K H (.int i) (.int i)
 | str (x : Str) : Dp K H (.str x) (.str x)
 | lst {a : Addr} {xs : List V} {ds : List PyData} : SqL K H a xs -> DpAll K H xs ds -> Dp K H (.ref a) (.list ds)
 | tup {a : Addr} {xs : List V} {ds : List PyData} : SqT K H a xs -> DpAll K H xs ds -> Dp K H (.ref a) (.tuple ds)
inductive DpAll (K : PySem.W.Frag) (H : Hp) : List V -> List PyData -> Prop
 | nil : DpAll K H [] []
 | cons {v : V} {vs : List V} {d : PyData} {ds : List PyData} : Dp K H v d -> DpAll K H vs ds -> DpAll K H (v :: vs) (d :: ds)
end
section
variable {X : Cx} {pins : List (Addr × Obj)} {σ : St} {H : Hp} {s : Shared}
mutual
theorem Dp.reads (I : Inv X pins σ H s) : ∀ (d : PyData) (v : V) (u : Value),Dp X.K H v d -> RelV v u -> ∃ as,Reads s.heap u d as
 | .none,_,_,h,r => by
  cases h
  cases r
  exact ⟨_,Reads.none⟩
 | .bool b,_,_,h,r => by
  cases h
  cases r
  exact ⟨_,Reads.bool b⟩
 | .int i,_,_,h,r => by
  cases h
  obtain ⟨t,rfl⟩ := r
  exact ⟨_,Reads.int i t⟩
 | .str x,_,_,h,r => by
  cases h
  obtain ⟨t,rfl⟩ := r
  exact ⟨_,Reads.str x t⟩
 | .list ds,_,_,h,r => by
  cases h with
  | lst hs ha =>
   cases r
   obtain ⟨its,rv,⟨o,n,ho,hc,_,hd⟩,_⟩ := I.list hs
   obtain ⟨as,hr⟩ := Dp.readsAll I ds _ its ha rv
   exact ⟨_,Reads.list ho hc hd hr⟩
 | .tuple ds,_,_,h,r => by
  cases h with
  | tup hs ha =>
   cases r
   obtain ⟨its,rv,⟨o,ho,hc,n,hd⟩,_⟩ := I.tuple hs
   obtain ⟨as,hr⟩ := Dp.readsAll I ds _ its ha rv
   exact ⟨_,Reads.tuple ho hc hd hr⟩
 | .dict _,_,_,h,_ => by cases h
theorem Dp.readsAll (I : Inv X pins σ H s) : ∀ (ds : List PyData) (vs : List V) (us : List Value),DpAll X.K H vs ds -> Vals vs us -> ∃ as,ReadsAll s.heap us ds as
 | [],_,_,h,r => by
  cases h
  cases r
  exact ⟨_,ReadsAll.nil⟩
 | d :: ds,_,_,h,r => by
  cases h with
  | cons h1 h2 =>
   cases r with
   | cons r1 r2 =>
    obtain ⟨as,q1⟩ := Dp.reads I d _ _ h1 r1
    obtain ⟨bs,q2⟩ := Dp.readsAll I ds _ _ h2 r2
    exact ⟨_,ReadsAll.cons q1 q2⟩
end
end
section
variable {X : Cx}
def rEqD (K : PySem.W.Frag) : R2 := fun x y H Q => ∃ d e,Dp K H x d /\ Dp K H y e /\ SeqAt.shaped d = true /\ SeqAt.shaped e = true /\ Q (.bl (PyData.eqv d e)) H
theorem op_eqD (hu : X.A.units + 64 < cLine) : OpR X (compareOp .Eq) (rEqD X.K) := by
 intro pins s σ H x y v u Q I rx ry h
 obtain ⟨d,e,hd,he,sd,se,q⟩ := h
 obtain ⟨as,r1⟩ := Dp.reads I d x v hd rx
 obtain ⟨bs,r2⟩ := Dp.reads I e y u he ry
 exact SeqAt.compareEq_shaped r1 r2 sd se hu ⟨.bl _,H,I,rfl,q⟩
end
end L2
namespace L2
open PySem PySem.Spec PyProof.Rows
abbrev CellAt (h : Heap) (c : Addr) (v : Option Value) : Prop := h.IsCell c v
def relS (scope sc : Scope) : Scope :=
 { scope with names := scope.names.map fun (n,k) => if (k == .free && sc.kind == .function && sc.names.lookup n == some .cell) then (n,.cell) else (n,k) }
def cloFrom (cells : List (Str × Addr)) : List (Str × NameKind) -> List (Str × Addr) -> List (Str × Addr)
 | [],acc => acc
 | (n,k) :: r,acc => if k == .free then cloFrom cells r ((n,(cells.lookup n).getD 0) :: acc) else cloFrom cells r acc
theorem closure_loop (env : Env) (f : Str × NameKind -> List (Str × Addr) -> Sem (ForInStep (List (Str × Addr))))
  (hf : ∀ n k c,f (n,k) c = if k == .free then (do let a <- cellOf env n; pure (.yield ((n,a) :: c))) else pure (.yield c)) :
  ∀ (names : List (Str × NameKind)) (acc : List (Str × Addr)),(∀ y ∈ names,y.2 = .free -> ∃ c,env.cells.lookup y.1 = some c) -> forIn names acc f = pure (cloFrom env.cells names acc)
 | [],acc,_ => by rw [List.forIn_nil]; rfl
 | (n,k) :: r,acc,h => by
  rw [List.forIn_cons,hf]
  have ih := fun acc => closure_loop env f hf r acc fun y hy => h y (List.mem_cons_of_mem _ hy)
  unfold cloFrom
  by_cases hk : (k == NameKind.free) = true
  ·rw [if_pos hk,if_pos hk]
   obtain ⟨c,hc⟩ := h (n,k) List.mem_cons_self (by simpa using hk)
   have e : cellOf env n = pure c := by unfold cellOf; rw [hc]
   rw [e]
   have e2 : (env.cells.lookup n).getD 0 = c := by rw [hc]; rfl
   rw [e2]
   exact ih _
  ·rw [if_neg hk,if_neg hk]
   exact ih _
theorem closure_ok {scope : Scope} {env : Env} (h : ∀ y ∈ scope.names,y.2 = .free -> ∃ c,env.cells.lookup y.1 = some c) : closureFor scope env = pure (cloFrom env.cells scope.names []) := by
 simp only [closureFor]
 rw [closure_loop env _ (fun n k c => rfl) scope.names [] h]
 rfl
theorem mem_lookup {α : Type} : ∀ {l : List (Str × α)} {n : Str} {c : α},(n,c) ∈ l -> ∃ c',l.lookup n = some c'
 | (k,v) :: r,n,c,h => by
  rw [List.lookup_cons]
  cases hb : n == k with
  | true => exact ⟨_,rfl⟩
  | false =>
   rcases List.mem_cons.mp h with e | h
   ·cases e; simp at hb
   ·exact mem_lookup h
theorem cloFrom_mem {cells : List (Str × Addr)} : ∀ {names : List (Str × NameKind)} {acc : List (Str × Addr)} {n : Str} {c : Addr},(n,c) ∈ cloFrom cells names acc -> (n,c) ∈ acc \/ ((n,.free) ∈ names /\ c = (cells.lookup n).getD 0)
 | [],_,_,_,h => .inl h
 | (m,k) :: r,acc,n,c,h => by
  unfold cloFrom at h
  split at h
  ·rename_i hk
   have hk : k = .free := by simpa using hk
   rcases cloFrom_mem h with h | ⟨h1,h2⟩
   ·rcases List.mem_cons.mp h with e | h
    ·cases e; exact .inr ⟨hk ▸ List.mem_cons_self,rfl⟩
    ·exact .inl h
   ·exact .inr ⟨List.mem_cons_of_mem _ h1,h2⟩
  ·rcases cloFrom_mem h with h | ⟨h1,h2⟩
   ·exact .inl h
   ·exact .inr ⟨List.mem_cons_of_mem _ h1,h2⟩
theorem cloFrom_acc {cells : List (Str × Addr)} : ∀ {names : List (Str × NameKind)} {acc : List (Str × Addr)} {p : Str × Addr},p ∈ acc -> p ∈ cloFrom cells names acc
 | [],_,_,h => h
 | (m,k) :: r,acc,p,h => by
  unfold cloFrom
  split
  ·exact cloFrom_acc (List.mem_cons_of_mem _ h)
  ·exact cloFrom_acc h
theorem cloFrom_has {cells : List (Str × Addr)} : ∀ {names : List (Str × NameKind)} {acc : List (Str × Addr)} {n : Str},(n,.free) ∈ names -> (n,(cells.lookup n).getD 0) ∈ cloFrom cells names acc
 | (m,k) :: r,acc,n,h => by
  unfold cloFrom
  rcases List.mem_cons.mp h with e | h
  ·cases e
   exact cloFrom_acc List.mem_cons_self
  ·split
   ·exact cloFrom_has h
   ·exact cloFrom_has h
theorem cells_mem : ∀ {names : List (Str × NameKind)} {h : Heap} {acc : List (Str × Addr)} {x : Str} {c : Addr},(x,c) ∈ cellsFrom h.objs.size names acc ->
  (x,c) ∈ acc \/ ((x,.cell) ∈ names /\ h.objs.size <= c /\ CellAt (pushCells h names) c none)
 | [],_,_,_,_,h => .inl h
 | (n,k) :: r,h,acc,x,c,hm => by
  unfold cellsFrom at hm
  unfold pushCells
  split at hm
  ·rename_i hk
   rw [if_pos hk]
   have hk : k = .cell := by simpa using hk
   rw [<- Heap.size_push h { cls := .type "cell",data := .cell none }] at hm
   rcases cells_mem hm with hm | ⟨h1,h2,h3⟩
   ·rcases List.mem_cons.mp hm with e | hm
    ·cases e
     exact .inr ⟨hk ▸ List.mem_cons_self,Nat.le_refl _,_,pushCells_keeps r _ _ _ (Heap.get?_push_size _ rfl),rfl⟩
    ·exact .inl hm
   ·rw [Heap.size_push] at h2
    exact .inr ⟨List.mem_cons_of_mem _ h1,Nat.le_of_succ_le h2,h3⟩
  ·rename_i hk
   rw [if_neg hk]
   rcases cells_mem hm with hm | ⟨h1,h2,h3⟩
   ·exact .inl hm
   ·exact .inr ⟨List.mem_cons_of_mem _ h1,h2,h3⟩
theorem cells_acc : ∀ {names : List (Str × NameKind)} {n : Nat} {acc : List (Str × Addr)} {p : Str × Addr},p ∈ acc -> p ∈ cellsFrom n names acc
 | [],_,_,_,h => h
 | (m,k) :: r,n,acc,p,h => by
  unfold cellsFrom
  split
  ·exact cells_acc (List.mem_cons_of_mem _ h)
  ·exact cells_acc h
theorem cells_has : ∀ {names : List (Str × NameKind)} {n : Nat} {acc : List (Str × Addr)} {x : Str},(x,.cell) ∈ names -> ∃ c,(x,c) ∈ cellsFrom n names acc
 | (m,k) :: r,n,acc,x,h => by
  unfold cellsFrom
  rcases List.mem_cons.mp h with e | h
  ·cases e
   exact ⟨n,cells_acc List.mem_cons_self⟩
  ·split
   ·exact cells_has h
   ·exact cells_has h
theorem cells_inj : ∀ {names : List (Str × NameKind)} {h : Heap} {acc : List (Str × Addr)} {x y : Str} {c : Addr},(∀ p ∈ acc,p.2 < h.objs.size) -> (∀ x y c,(x,c) ∈ acc -> (y,c) ∈ acc -> x = y) ->
  (x,c) ∈ cellsFrom h.objs.size names acc -> (y,c) ∈ cellsFrom h.objs.size names acc -> x = y
 | [],_,_,_,_,_,_,hi,h1,h2 => hi _ _ _ h1 h2
 | (n,k) :: r,h,acc,x,y,c,hl,hi,h1,h2 => by
  unfold cellsFrom at h1 h2
  split at h1
  ·rename_i hk
   rw [if_pos hk] at h2
   rw [<- Heap.size_push h { cls := .type "cell",data := .cell none }] at h1 h2
   refine cells_inj (h := h.push _) (fun p hp => ?_) (fun x y c a b => ?_) h1 h2
   ·rw [Heap.size_push]
    rcases List.mem_cons.mp hp with rfl | hp
    ·exact Nat.lt_succ_self _
    ·exact Nat.lt_succ_of_lt (hl p hp)
   ·rcases List.mem_cons.mp a with e | a <;> rcases List.mem_cons.mp b with e' | b
    ·cases e; cases e'; rfl
    ·cases e; exact absurd (hl _ b) (Nat.lt_irrefl _)
    ·cases e'; exact absurd (hl _ a) (Nat.lt_irrefl _)
    ·exact hi _ _ _ a b
  ·rename_i hk
   rw [if_neg hk] at h2
   exact cells_inj hl hi h1 h2
theorem newEnv_comp {M : Model} {A : Around} {E : Value -> Shared -> Prop} {s : Shared} {scope : Scope} {globals : Addr} {closure : List (Str × Addr)} {qual : Str} {func : Option Addr} {code : Value} {around : Env} {builtins : Addr} {Q : Env -> Shared -> Prop}
  (h : Q (newEnv scope s.heap.objs.size globals (cellsFrom (s.heap.objs.size + 1) scope.names closure) qual func code (some around) builtins)
   { s with heap := pushCells (s.heap.push { cls := .type "dict",data := .dict #[] }) scope.names }) :
  wpAny M A (newFunctionEnv scope globals closure [] qual func code (some around) builtins) Q E s := by
 simp only [newFunctionEnv,Option.isSome_some,if_true]
 refine wpAny_bind (wpAny_alloc ?_)
 refine wpAny_bind (wpAny_layCells _ (fun n k c => rfl) scope.names closure _ _ ?_)
 rw [show ({ s with heap := s.heap.push { cls := .type "dict",data := .dict #[] } } : Shared).heap.objs.size = s.heap.objs.size + 1 from Heap.size_push ..]
 rw [List.forIn_nil]
 exact wpAny_bind (wpAny_pure (wpAny_pure h))
theorem lookup_relS {sc : Scope} : ∀ {names : List (Str × NameKind)} {x : Str} {k : NameKind},
  (names.map fun (n,k) => if (k == NameKind.free && sc.kind == .function && sc.names.lookup n == some .cell) then (n,NameKind.cell) else (n,k)).lookup x = some k ->
  ∃ k',names.lookup x = some k' /\ (k = k' \/ (k' = .free /\ k = .cell))
 | [],_,_,h => by simp at h
 | (n,k₀) :: r,x,k,h => by
  have ih := @lookup_relS sc r x k
  have h' : List.lookup x ((if (k₀ == NameKind.free && sc.kind == .function && sc.names.lookup n == some .cell) = true then (n,NameKind.cell) else (n,k₀)) :: (r.map _)) = some k := h
  cases hx : x == n with
  | true =>
   simp only [List.lookup_cons,hx]
   by_cases hc : (k₀ == NameKind.free && sc.kind == .function && sc.names.lookup n == some .cell) = true
   ·rw [if_pos hc] at h'
    simp only [List.lookup_cons,hx] at h'
    cases h'
    simp only [Bool.and_eq_true,beq_iff_eq] at hc
    exact ⟨k₀,rfl,.inr ⟨hc.1.1,rfl⟩⟩
   ·rw [if_neg hc] at h'
    simp only [List.lookup_cons,hx] at h'
    cases h'
    exact ⟨_,rfl,.inl rfl⟩
  | false =>
   simp only [List.lookup_cons,hx]
   by_cases hc : (k₀ == NameKind.free && sc.kind == .function && sc.names.lookup n == some .cell) = true
   ·rw [if_pos hc] at h'
    simp only [List.lookup_cons,hx] at h'
    exact ih h'
   ·rw [if_neg hc] at h'
    simp only [List.lookup_cons,hx] at h'
    exact ih h'
structure BlkOk (N : List Str) (sc scope : Scope) (own : List (Str × Nat)) : Prop where
 kind : scope.kind = .function
 uniq : ∀ y ∈ scope.names,scope.names.lookup y.1 = some y.2
 ix : ∀ p ∈ own,N[p.2]? = some p.1
 free : ∀ y ∈ scope.names,y.2 = .free -> sc.names.lookup y.1 = some .cell \/ sc.names.lookup y.1 = some .free
 own : ∀ y ∈ scope.names,y.2 = .local \/ y.2 = .cell -> y.1 ∈ own.map (·.1) \/ y.1 ∉ N
def wipe (σ : St) : List Nat -> St
 | [] => σ
 | v :: vs => (wipe σ vs).set v none
theorem wipe_length (σ : St) : ∀ vs : List Nat,(wipe σ vs).length = σ.length
 | [] => rfl
 | v :: vs => by unfold wipe; rw [List.length_set,wipe_length σ vs]
theorem wipe_some {σ : St} {i : Nat} {x : V} : ∀ {vs : List Nat},(wipe σ vs)[i]? = some (some x) -> σ[i]? = some (some x) /\ i ∉ vs
 | [],h => ⟨h,by simp⟩
 | v :: vs,h => by
  unfold wipe at h
  by_cases hi : v = i
  ·subst hi
   by_cases hv : v < (wipe σ vs).length
   ·rw [List.getElem?_set_self hv] at h; cases h
   ·rw [List.getElem?_eq_none (by simpa using hv)] at h; cases h
  ·rw [List.getElem?_set_ne hi] at h
   obtain ⟨h1,h2⟩ := wipe_some h
   exact ⟨h1,by simp only [List.mem_cons,not_or]; exact ⟨fun e => hi e.symm,h2⟩⟩
abbrev Cx.blk (X : Cx) (s : Shared) (H : Hp) (scope : Scope) (cenv : Env) (fp : List Addr) : Cx := { X with s_0 := s,H_0 := H,env := cenv,outer := X.stack,ex := fp,fn := fun x => scope.names.lookup x == some .cell,pn := [],xe := fun _ _ => False }
section
variable {X : Cx} {pins : List (Addr × Obj)} {σ : St} {H : Hp} {s : Shared}
theorem block_start {scope : Scope} {own : List (Str × Nat)} {fp : List Addr} (I : Inv X pins σ H s) (ok : BlkOk X.N X.env.scope scope own) (hN : X.N.Nodup) (hfp : ∀ b ∈ fp,FpOk X pins H b /\ b < s.heap.objs.size) :
  Inv (X.blk s H scope (compEnvC scope (cellsFrom (s.heap.objs.size + 1) scope.names (cloFrom X.env.cells scope.names [])) s.heap.objs.size X.env) fp) [] (wipe σ (own.map (·.2))) H { s with heap := pushCells (s.heap.push { cls := .type "dict",data := .dict #[] }) scope.names } := by
 have hfree : ∀ y ∈ scope.names,y.2 = .free -> ∃ c,X.env.cells.lookup y.1 = some c := fun y hy e => by
  rcases ok.free y hy e with k | k
  ·exact I.ok.has _ (.inl k)
  ·exact I.ok.has _ (.inr k)
 generalize hcenv : compEnvC scope (cellsFrom (s.heap.objs.size + 1) scope.names (cloFrom X.env.cells scope.names [])) s.heap.objs.size X.env = cenv
 have kp : ∀ b o,s.heap.get? b = some o -> (pushCells (s.heap.push { cls := .type "dict",data := .dict #[] }) scope.names).get? b = some o := fun b o e => pushCells_keeps _ _ _ _ (Heap.get?_push_of_some _ e)
 have hL : cenv.locals = s.heap.objs.size := by rw [<- hcenv]; rfl
 have hcl : cenv.cells = cellsFrom (s.heap.objs.size + 1) scope.names (cloFrom X.env.cells scope.names []) := by rw [<- hcenv]; rfl
 have hsc : cenv.scope = relS scope X.env.scope := by rw [<- hcenv]; rfl
 rw [<- Heap.size_push s.heap { cls := .type "dict",data := .dict #[] }] at hcl
 have cm : ∀ {y c},(y,c) ∈ cloFrom X.env.cells scope.names [] -> X.env.cells.lookup y = some c /\ c < s.heap.objs.size := fun {y c} hm => by
  rcases cloFrom_mem hm with hm | ⟨h1,rfl⟩
  ·cases hm
  ·obtain ⟨c,hc⟩ := hfree _ h1 rfl
   rw [hc]
   obtain ⟨w,z⟩ := I.cell _ _ hc
   exact ⟨rfl,z.lt⟩
 have mem : ∀ {y c},cenv.cells.lookup y = some c -> (X.env.cells.lookup y = some c /\ c < s.heap.objs.size) \/ (s.heap.objs.size + 1 <= c /\ CellAt (pushCells (s.heap.push { cls := .type "dict",data := .dict #[] }) scope.names) c none) := fun {y c} e => by
  rw [hcl] at e
  rcases cells_mem (PySem.mem_of_lookup e) with hm | ⟨_,h2,h3⟩
  ·exact .inl (cm hm)
  ·rw [Heap.size_push] at h2; exact .inr ⟨h2,h3⟩
 have look : ∀ {y},scope.names.lookup y = some .free -> ∃ c,cenv.cells.lookup y = some c /\ X.env.cells.lookup y = some c := fun {y} hl => by
  have hy : (y,NameKind.free) ∈ scope.names := PySem.mem_of_lookup hl
  obtain ⟨c',e'⟩ := mem_lookup (cells_acc (names := scope.names) (n := (s.heap.push { cls := .type "dict",data := .dict #[] }).objs.size) (cloFrom_has (cells := X.env.cells) (acc := []) hy))
  rw [<- hcl] at e'
  refine ⟨c',e',?_⟩
  rw [hcl] at e'
  rcases cells_mem (PySem.mem_of_lookup e') with hm | ⟨h1,_,_⟩
  ·exact (cm hm).1
  ·have := ok.uniq _ h1
   rw [hl] at this; cases this
 have okB : (X.blk s H scope cenv fp).Ok := by
  refine ⟨I.ok.mod,by show cenv.scope.kind = _; rw [hsc]; exact ok.kind,by show cenv.globals = _; rw [<- hcenv]; exact I.ok.glob,by show cenv.builtins = _; rw [<- hcenv]; exact I.ok.blt,by show s.heap.objs.size <= cenv.locals; rw [hL]; exact Nat.le_refl _,
   fun y z c e1 e2 => ?_,fun y hy => ?_,fun y c z e => ?_,I.ok.hd,I.ok.frames,.inl rfl,fun b hb => ⟨?_,fun y c e z => ?_⟩,I.bs,Nat.le_trans I.ok.bsz I.sz,fun b o e hb => ?_,fun b hb z => ?_,I.stack,I.stkFree⟩
  ·have e1 : cenv.cells.lookup y = some c := e1
   have e2 : cenv.cells.lookup z = some c := e2
   rw [hcl] at e1 e2
   refine cells_inj (fun p hp => ?_) (fun y z c a b => I.ok.inj y z c (cm a).1 (cm b).1) (PySem.mem_of_lookup e1) (PySem.mem_of_lookup e2)
   rw [Heap.size_push]
   exact Nat.lt_succ_of_lt (cm (y := p.1) (c := p.2) hp).2
  ·show ∃ c,cenv.cells.lookup y = some c
   have key : ∀ k,cenv.kindOf y = some k -> (k = .cell \/ k = .free) -> ∃ c,cenv.cells.lookup y = some c := fun k hk hk' => by
    unfold Env.kindOf at hk
    rw [hsc] at hk
    obtain ⟨k',e,r⟩ := lookup_relS hk
    have : k' = .cell \/ k' = .free := by
     rcases r with rfl | ⟨rfl,_⟩
     ·exact hk'
     ·exact .inr rfl
    rcases this with rfl | rfl
    ·obtain ⟨c,hm⟩ := cells_has (n := (s.heap.push { cls := .type "dict",data := .dict #[] }).objs.size) (acc := cloFrom X.env.cells scope.names []) (PySem.mem_of_lookup e)
     obtain ⟨c',e'⟩ := mem_lookup hm
     exact ⟨c',by rw [hcl]; exact e'⟩
    ·obtain ⟨c,h1,_⟩ := look e
     exact ⟨c,h1⟩
   rcases hy with hy | hy
   ·exact key _ hy (.inl rfl)
   ·exact key _ hy (.inr rfl)
  ·have z : (scope.names.lookup y == some NameKind.cell) = true := z
   have z : scope.names.lookup y = some .cell := by simpa using z
   have e : cenv.cells.lookup y = some c := e
   rw [hcl] at e
   rcases cells_mem (PySem.mem_of_lookup e) with hm | ⟨_,h2,_⟩
   ·rcases cloFrom_mem hm with hm | ⟨h1,_⟩
    ·cases hm
    ·have q := ok.uniq _ h1
     rw [z] at q; cases q
   ·rw [Heap.size_push] at h2
    exact Nat.le_of_succ_le h2
  ·show b ≠ cenv.locals
   rw [hL]; exact Nat.ne_of_lt (hfp b hb).2
  ·have e : cenv.cells.lookup y = some c := e
   rcases mem e with ⟨h1,_⟩ | ⟨h1,_⟩
   ·exact (hfp b hb).1.2.2.2.2.1 y c h1 z
   ·have h2 : s.heap.objs.size + 1 <= b := by rw [<- z]; exact h1
    exact absurd (Nat.lt_of_lt_of_le (hfp b hb).2 (Nat.le_of_succ_le h2)) (Nat.lt_irrefl _)
  ·rcases (hfp b hb).1.2.2.2.1 with z | z
   ·exact I.ok.noex b o e z
   ·exact absurd (Nat.lt_of_lt_of_le (Heap.lt_size e) (Nat.le_trans I.ok.bsz z)) (Nat.lt_irrefl _)
  ·rcases List.mem_cons.mp (I.stkSub b z) with z | z
   ·exact (hfp b hb).1.2.1 z
   ·exact (hfp b hb).1.2.2.1 z
 refine ⟨okB,rfl,I.bare,Un.kept kp,⟨fun _ => none,?_,fun i y av e1 e2 e3 => ?_⟩,fun y c e => ?_,?_,fun y c e => ?_,fun p hp => ?_,I.hok.kept kp,by rw [wipe_length]; exact I.len⟩
 ·show Heap.Ns _ cenv.locals _
  rw [hL]
  exact Heap.Ns.keeps (Heap.Ns.new ..) fun b o e => pushCells_keeps _ _ _ _ e
 ·obtain ⟨e2,hne⟩ := wipe_some e2
  have hfr : scope.names.lookup y = some .free /\ (cenv.kindOf y = some .cell \/ cenv.kindOf y = some .free) := by
   have key : ∀ k,cenv.scope.names.lookup y = some k -> k = .local \/ k = .cell \/ k = .free -> scope.names.lookup y = some .free /\ (cenv.kindOf y = some .cell \/ cenv.kindOf y = some .free) := fun k hk hk' => by
    have hk0 := hk
    rw [hsc] at hk
    obtain ⟨k',e,r⟩ := lookup_relS hk
    have no : ¬ (k' = .local \/ k' = .cell) := fun hh => by
     rcases ok.own _ (PySem.mem_of_lookup e) hh with e' | e'
     ·obtain ⟨p,hp,hpy⟩ := List.mem_map.mp e'
      have e3 := ok.ix p hp
      have : p.1 = y := hpy
      rw [this] at e3
      exact hne (List.mem_map.mpr ⟨p,hp,nodup_ix hN e3 e1⟩)
     ·exact e' (List.mem_of_getElem? e1)
    rcases r with rfl | ⟨rfl,rfl⟩
    ·rcases hk' with rfl | rfl | rfl
     ·exact absurd (.inl rfl) no
     ·exact absurd (.inr rfl) no
     ·exact ⟨e,.inr hk0⟩
    ·exact ⟨e,.inl hk0⟩
   have e3 : Vis cenv.scope y := e3
   rcases e3 with e3 | e3 | e3
   ·exact key _ e3 (.inl rfl)
   ·exact key _ e3 (.inr (.inl rfl))
   ·exact key _ e3 (.inr (.inr rfl))
  obtain ⟨m,hn,hl⟩ := I.loc
  have hvis : Vis X.env.scope y := (ok.free _ (PySem.mem_of_lookup hfr.1) rfl).elim (fun k => .inr (.inl k)) (fun k => .inr (.inr k))
  obtain ⟨w,r,q⟩ := hl i y av e1 e2 hvis
  refine ⟨w,r,.inr ⟨hfr.2,?_⟩⟩
  obtain ⟨c,h1,h2⟩ := look hfr.1
  rcases q with ⟨k,_⟩ | ⟨_,c',e',z⟩
  ·have k : X.env.scope.names.lookup y = some .local := k
   rcases ok.free _ (PySem.mem_of_lookup hfr.1) rfl with k' | k' <;> rw [show X.env.scope.names.lookup y = _ from k'] at k <;> cases k
  ·rw [h2] at e'; cases e'
   exact ⟨c,h1,z.keeps kp⟩
 ·have e : cenv.cells.lookup y = some c := e
  rcases mem e with ⟨h1,_⟩ | ⟨_,z⟩
  ·obtain ⟨w,z⟩ := I.cell y c h1
   exact ⟨w,z.keeps kp⟩
  ·exact ⟨_,z⟩
 ·show H cenv.locals = none
  rw [hL]; exact I.hok.fresh (Nat.le_refl _)
 ·have e : cenv.cells.lookup y = some c := e
  rcases mem e with ⟨h1,_⟩ | ⟨h1,_⟩
  ·exact I.freeC y c h1
  ·exact I.hok.fresh (Nat.le_of_succ_le h1)
 ·exact absurd (show p ∈ ([] : List (Addr × Obj)) ++ [] from hp) (by simp)
theorem app_ok {E : Value -> Shared -> Prop} {D : Addr} {xs : List V} {y : V} {v : Value} {Q : Value -> Shared -> Prop} (I : Inv X pins σ H s) (hD : H D = some (.lst xs)) (hz : xs.length < sizeLine) (r : RelV y v)
  (h : ∀ s',Inv X pins σ (upd H D (.lst (xs ++ [y]))) s' -> Q .none s') : wpAny (model X.prog X.w) X.A (call (.builtin "list.append") [.ref D,v]) Q E s := by
 obtain ⟨hz',its,n,ri,e⟩ := I.hok D _ hD
 have hl := ri.length
 refine append_at (hsz := by rw [List.size_toArray]; omega) e fun h' sb ho' => ?_
 refine h { s with heap := h' } (I.write (t' := s.toks) (by rw [hD]; trivial) (.inl rfl) (fun b u hb q => (sb.2 b hb).trans q) ⟨_,ho'⟩ ⟨by rw [List.length_append]; exact hz,its ++ [v],n + 1,ri.append (.cons r .nil),?_⟩)
 rw [ho']
 simp
def PTs (X : Cx) (ifs : List Expr) (t : TT) : Prop :=
 ∀ (pins : List (Addr × Obj)) (s : Shared) (σ : St) (H : Hp) (Q : Bool -> Hp -> Prop),Inv X pins σ H s -> t σ H Q ->
  wpAny (model X.prog X.w) X.A (forIn ifs true fun c r => if r = true then do let ok <- isTrue c X.env (eval c X.env); pure (ForInStep.yield ok) else pure (ForInStep.yield r)) (TP X pins σ Q) X.xe s
def tYes : TT := fun _ H Q => Q true H
theorem pts_nil : PTs X [] tYes := fun _ _ _ H _ I h => wpAny_tests_nil ⟨H,I,h⟩
theorem pts_one {c : Expr} {t : TT} (h : PT X c t) : PTs X [c] t := fun pins s σ H Q I hw => wpAny_tests_one (h pins s σ H Q I hw)
end
theorem thnF {α : Type} {t : Sem α} {Q Q' : α -> Shared -> Prop} {M : Model} {A : Around} {E : Value -> Shared -> Prop} {s : Shared} (h : wpAny M A t Q (fun _ _ => False) s) (hQ : ∀ a s,Q a s -> Q' a s) : wpAny M A t Q' E s := wpAny_mono h hQ fun _ _ z => False.elim z
theorem compLoop_any {prog : Program} {w : World} {A : Around} {R : Result -> Shared -> Prop} {s : Shared} {elt target iter : Expr} {ifs : List Expr} {scope : Scope} {pos : Pos} {it acc : Value} {env : Env} (I : Nat -> Shared -> Prop)
  (turn : ∀ n s,I n s -> wpAny (model prog w) A (pyNext it) (fun r s₁ => match r with
   | none => R (.ok .next) s₁
   | some v => wpAny (model prog w) A (letOwnedTupleGo target it v) (fun _ s₁' => wpAny (model prog w) A (assign target env v) (fun _ s₂ =>
     wpAny (model prog w) A (forIn ifs true fun c r => if r = true then do let ok <- isTrue c env (eval c env); pure (ForInStep.yield ok) else pure (ForInStep.yield r)) (fun ok s₃ =>
      if ok = true then wpAny (model prog w) A (eval elt env) (fun x s₄ =>
       wpAny (model prog w) A (call (.builtin "list.append") [acc,x]) (fun _ s₅ => ∃ m,m < n /\ I m s₅) (notedBy (model prog w) A env fun e s' => R (.error e) s') s₄) (notedBy (model prog w) A env fun e s' => R (.error e) s') s₃
      else ∃ m,m < n /\ I m s₃) (notedBy (model prog w) A env fun e s' => R (.error e) s') s₂) (notedBy (model prog w) A env fun e s' => R (.error e) s') s₁') (notedBy (model prog w) A env fun e s' => R (.error e) s') s₁) (notedBy (model prog w) A env fun e s' => R (.error e) s') s)
  (n : Nat) (h : I n s) :
  codeAny (model prog w) A (.compLoop (.ListComp elt [⟨target,iter,ifs,0⟩] scope pos) 0 it acc env) R s := by
 refine codeAny_loop rfl I (fun n s hI => ?_) n h
 show wpAny _ A ((compTurn (.ListComp elt [⟨target,iter,ifs,0⟩] scope pos) 0 it acc env).onRaise (fun x => do noteFrame x env; theTreesLotGoes x)) _ _ s
 refine wpAny_noted ?_
 rw [compTurn_list]
 refine wpAny_bind (wpAny_standAt (wpAny_bind (wpAny_mono (turn n s hI) (fun r s₁ h₁ => ?_) fun _ _ h' => h')))
 cases r with
 | none => exact wpAny_pure h₁
 | some v =>
  refine wpAny_bind (wpAny_mono h₁ (fun _ s₁' h₁' => ?_) fun _ _ h' => h')
  refine wpAny_bind (wpAny_mono h₁' (fun _ s₂ h₂ => wpAny_bind (wpAny_mono h₂ (fun ok s₃ h₃ => ?_) fun _ _ h' => h')) fun _ _ h' => h')
  cases ok with
  | false => exact wpAny_pure ⟨rfl,h₃⟩
  | true =>
   exact wpAny_bind (wpAny_bind (wpAny_mono h₃ (fun x s₄ h₄ => wpAny_bind (wpAny_mono h₄ (fun _ s₅ h₅ => wpAny_pure (wpAny_pure ⟨rfl,h₅⟩)) fun _ _ h' => h')) fun _ _ h' => h'))
section
variable {X : Cx}
def tLc (wi : TI) (g : TG) (tt : TT) (te : TE) (vs : List Nat) : TE := fun σ H Q => wi σ H fun J H1 => ∀ D,H1 D = none -> ∃ W : Nat -> Nat -> Hp -> Prop,(∃ m,W 0 m (upd H1 D (.lst []))) /\ ∀ i m H,W i m H ->
 (J.stop i H /\ Q (.ref D) H) \/ (J.go i H /\ ∃ Nx : Hp -> Prop,(∀ H',Nx H' -> ∃ m',m' < m /\ W (i + 1) m' H') /\ ∀ x H',J.yld i H x H' -> g x (wipe σ vs) H' fun σ2 H2 => wipe σ2 vs = wipe σ vs /\ tt σ2 H2 fun b H3 =>
  if b = true then te σ2 H3 fun y H4 => ∃ acc,H4 D = some (.lst acc) /\ acc.length < sizeLine /\ Nx (upd H4 D (.lst (acc ++ [y]))) else Nx H3)
theorem lc_core {pins : List (Addr × Obj)} {s : Shared} {σ : St} {H : Hp} {Q : VK} {elt tg iter : Expr} {ifs : List Expr} {scope : Scope} {own : List (Str × Nat)} {pos pos' : Pos} {wi : TI} {g : TG} {tt : TT} {te : TE} {use : Option (Value -> Sem Unit)} {Qf : Value -> Shared -> Prop}
  (hc : X.calm = true) (hN : X.N.Nodup) (I : Inv X pins σ H s) (hi : PI X tg iter wi) (ok : BlkOk X.N X.env.scope scope own)
  (hg : ∀ (s : Shared) (H : Hp) (C : Addr) (cl : List (Str × Addr)) (fp : List Addr),PG (X.blk s H scope (compEnvC scope cl C X.env) fp) tg g) (ht : ∀ (s : Shared) (H : Hp) (C : Addr) (cl : List (Str × Addr)) (fp : List Addr),PTs (X.blk s H scope (compEnvC scope cl C X.env) fp) ifs tt)
  (he : ∀ (s : Shared) (H : Hp) (C : Addr) (cl : List (Str × Addr)) (fp : List Addr),PE (X.blk s H scope (compEnvC scope cl C X.env) fp) elt te) (hs : ∀ x,foldedSetIterable iter X.env x = pure x)
  (h : tLc wi g tt te (own.map (·.2)) σ H Q)
  (hRR : ∀ D C s' m H',Inv X pins σ H' s' -> Q (.ref D) H' -> s'.heap.Ns C m -> FpOk X pins H' C -> compPost (model X.prog X.w) X.A X.xe use Qf (.ref D) C (.ok .next) s') :
  wpAny (model X.prog X.w) X.A (comprehension (.ListComp elt [⟨tg,iter,ifs,0⟩] scope pos) scope X.env pos' (newList []) false (eval iter X.env) use) Qf X.xe s := by
 have hfree : ∀ y ∈ scope.names,y.2 = .free -> ∃ c,X.env.cells.lookup y.1 = some c := fun y hy e => by
  rcases ok.free y hy e with k | k
  ·exact I.ok.has _ (.inl k)
  ·exact I.ok.has _ (.inr k)
 refine wpAny_comprehension_free (use := use) rfl hs (closure_ok hfree) ok.kind (fun y hy e => by rw [ok.uniq y hy,e])
  (thn (hi pins s σ H _ I h) fun xv s1 hx => thn hx fun itv s2 h2 => ?_)
 obtain ⟨it,fp,tn,J,H2,e,I2,T,st2,f2,q⟩ := h2
 subst e
 refine wpAny_newObj_type (newEnv_comp ?_) (by show 0 <= sizeLine; decide)
 generalize hD : s2.heap.objs.size = D
 have hDn : H2 D = none := I2.hok.fresh (Nat.le_of_eq hD)
 obtain ⟨W,⟨m0,w0⟩,turn⟩ := q D hDn
 generalize hs3 : ({ s2 with heap := s2.heap.push { cls := .type "list",data := .seq ([] : List Value).toArray } } : Shared) = s3
 have I3 : Inv X pins σ (upd H2 D (.lst [])) s3 := by
  rw [<- hs3]
  refine I2.laid (t' := s2.toks) (fun b o e => Heap.get?_push_of_some _ e) (Nat.le_of_eq hD) ⟨Nat.zero_le _,[],0,.nil,?_⟩
  rw [<- hD]
  exact Heap.get?_push_size _ rfl
 have h3 : s3.heap = s2.heap.push { cls := .type "list",data := .seq ([] : List Value).toArray } := by rw [<- hs3]
 have sz : ∀ b ∈ fp,b < s2.heap.objs.size := fun b hb => by
  obtain ⟨o,e,_⟩ := T.obj _ _ st2 b hb
  exact Heap.lt_size e
 have f3 : ∀ b ∈ fp,FpOk X pins (upd H2 D (.lst [])) b /\ b < s3.heap.objs.size := fun b hb => by
  have hlt := sz b hb
  refine ⟨⟨?_,(f2 b hb).2⟩,by rw [h3,Heap.size_push]; exact Nat.lt_succ_of_lt hlt⟩
  rw [upd_ne (by rw [<- hD]; exact Nat.ne_of_lt hlt)]
  exact (f2 b hb).1
 have st3 : tn 0 s3.heap := T.keep _ _ _ st2 fun b _ o e => by rw [h3]; exact Heap.get?_push_of_some _ e
 have I4 := block_start I3 ok hN f3
 have pg := hg s3 (upd H2 D (.lst [])) s3.heap.objs.size (cellsFrom (s3.heap.objs.size + 1) scope.names (cloFrom X.env.cells scope.names [])) fp
 have pt := ht s3 (upd H2 D (.lst [])) s3.heap.objs.size (cellsFrom (s3.heap.objs.size + 1) scope.names (cloFrom X.env.cells scope.names [])) fp
 have pe := he s3 (upd H2 D (.lst [])) s3.heap.objs.size (cellsFrom (s3.heap.objs.size + 1) scope.names (cloFrom X.env.cells scope.names [])) fp
 show codeAny _ _ (.compStart (.ListComp elt [⟨tg,iter,ifs,0⟩] scope pos) 0 (.ref it) (.ref D) (compEnvC scope (cellsFrom (s3.heap.objs.size + 1) scope.names (cloFrom X.env.cells scope.names [])) s3.heap.objs.size X.env)) (compPost (model X.prog X.w) X.A X.xe use Qf (.ref D) s3.heap.objs.size) { s3 with heap := pushCells (s3.heap.push { cls := .type "dict",data := .dict #[] }) scope.names }
 have nfp : ∀ b ∈ fp,(upd H2 D (.lst [])) b = none := fun b hb => (f3 b hb).1.1
 generalize hce : compEnvC scope (cellsFrom (s3.heap.objs.size + 1) scope.names (cloFrom X.env.cells scope.names [])) s3.heap.objs.size X.env = ce at I4 pg pt pe ⊢
 have cL : ce.locals = s3.heap.objs.size := by subst hce; rfl
 generalize hH3 : upd H2 D (.lst []) = H3 at I3 I4 pg pt pe w0 nfp f3
 generalize hs4 : ({ s3 with heap := pushCells (s3.heap.push { cls := .type "dict",data := .dict #[] }) scope.names } : Shared) = s4 at I4 ⊢
 have st4 : tn 0 s4.heap := T.keep _ _ _ st3 fun b _ o e => by rw [<- hs4]; exact pushCells_keeps _ _ _ _ (Heap.get?_push_of_some _ e)
 have stat : ∀ {σ' : St} {H' : Hp} {s' : Shared},Inv (X.blk s3 H3 scope ce fp) [] σ' H' s' -> (∀ b ∈ fp,H' b = none) -> ∀ b ∈ fp,FpOk (X.blk s3 H3 scope ce fp) [] H' b := fun {σ' H' s'} I' hn b hb =>
  ⟨hn b hb,(I'.ok.exf b hb).1,I'.ok.exfs b hb,.inl hb,fun x c e => (I'.ok.exf b hb).2 x c e,fun p hp => absurd (show p ∈ ([] : List (Addr × Obj)) ++ [] from hp) (by simp)⟩
 have loop : codeAny (model X.prog X.w) X.A (.compLoop (.ListComp elt [⟨tg,iter,ifs,0⟩] scope pos) 0 (.ref it) (.ref D) ce) (compPost (model X.prog X.w) X.A X.xe use Qf (.ref D) s3.heap.objs.size) s4 := by
  refine compLoop_any (fun n s' => ∃ i H',Inv (X.blk s3 H3 scope ce fp) [] (wipe σ (own.map (·.2))) H' s' /\ tn i s'.heap /\ (∀ b ∈ fp,H' b = none) /\ W i n H') ?_ m0 ⟨0,H3,I4,st4,nfp,w0⟩
  rintro n s5 ⟨i,H5,I5,st5,n5,w5⟩
  rcases turn i n H5 w5 with ⟨stop,qq⟩ | ⟨go,Nx,hNx,step⟩
  ·have td := T.done (X.blk s3 H3 scope ce fp) rfl rfl rfl hc i [] s5 _ H5 (fun _ _ => False) I5 (stat I5 n5) st5 stop
   refine thnF td fun r s6 ⟨hr,I6⟩ => ?_
   subst hr
   have I7 : Inv X pins σ H5 s6 := I3.call' (ch := fp) I6.os I6.base I6.hok I6.bare fun b hb => ⟨(f3 b hb).1.2.2.2.1,(f3 b hb).1.2.1,(f3 b hb).1.2.2.2.2.1,(f3 b hb).1.2.2.2.2.2⟩
   have nC : H5 s3.heap.objs.size = none := by
    have z : H5 ce.locals = none := I6.free
    rw [cL] at z
    exact z
   obtain ⟨m,hn,_⟩ := I6.loc
   have hn : s6.heap.Ns ce.locals m := hn
   rw [cL] at hn
   exact hRR D s3.heap.objs.size s6 m H5 I7 qq hn (I3.fpOk (Nat.le_refl _) nC)
  ·have ti := T.item (X.blk s3 H3 scope ce fp) rfl rfl rfl hc i [] s5 _ H5 (fun _ _ => False) I5 (stat I5 n5) st5 go
   refine thnF ti fun r s6 ⟨u,hr,h6⟩ => ?_
   subst hr
   refine thnF h6 fun _ s7 ⟨x,H7,I7,r7,y7,st7,n7⟩ => ?_
   have I7' := I7.pinned (stat I7 n7) (T.obj _ _ st7)
   refine thnF (pg _ s7 _ H7 x u _ I7' r7 (step x H7 y7)) fun _ s8 ⟨σ8,H8,I8,hw8,q8⟩ => ?_
   refine thnF (pt _ s8 σ8 H8 _ I8 q8) fun b s9 ⟨H9,I9,q9⟩ => ?_
   have fin : ∀ {s' : Shared} {H' : Hp},Inv (X.blk s3 H3 scope ce fp) ([] ++ pinsAt fp s7.heap) σ8 H' s' -> Nx H' -> ∃ m,m < n /\ ∃ i H',Inv (X.blk s3 H3 scope ce fp) [] (wipe σ (own.map (·.2))) H' s' /\ tn i s'.heap /\ (∀ b ∈ fp,H' b = none) /\ W i m H' := fun {s' H'} I' nx => by
    obtain ⟨m',hm,w'⟩ := hNx H' nx
    have pin' : ∀ b ∈ fp,∀ o,s7.heap.get? b = some o -> s'.heap.get? b = some o /\ H' b = none := fun b hb o e =>
     let z := I'.pin (b,o) (List.mem_append_right _ (List.mem_append_right _ (mem_pinsAt hb e)))
     ⟨z.1,z.2.1⟩
    have hl : (wipe σ (own.map (·.2))).length = σ8.length := by rw [<- hw8,wipe_length]
    refine ⟨m',hm,i + 1,H',(I'.unpinned (pins := [])).weak hl (fun j v e => ?_),T.keep _ _ _ st7 fun b hb o e => (pin' b hb o e).1,fun b hb => ?_,w'⟩
    ·rw [<- hw8] at e
     exact (wipe_some e).1
    ·obtain ⟨o,e,_⟩ := T.obj _ _ st7 b hb
     exact (pin' b hb o e).2
   cases b with
   | false =>
    simp only [Bool.false_eq_true,if_false] at q9 ⊢
    exact fin I9 q9
   | true =>
    simp only [if_true] at q9 ⊢
    refine thnF (pe _ s9 σ8 H9 _ I9 q9) fun z s10 ⟨yv,H10,I10,r10,acc,hD10,hz10,nx⟩ => ?_
    exact app_ok (X := X.blk s3 H3 scope ce fp) I10 hD10 hz10 r10 fun s11 I11 => fin I11 nx
 exact codeAny_compStart_list loop (T.self X.A 0 _ _ _ st4 loop)
theorem pe_lc {elt tg iter : Expr} {ifs : List Expr} {scope : Scope} {own : List (Str × Nat)} {pos : Pos} {wi : TI} {g : TG} {tt : TT} {te : TE} (hc : X.calm = true) (hN : X.N.Nodup) (hi : PI X tg iter wi) (ok : BlkOk X.N X.env.scope scope own)
  (hg : ∀ (s : Shared) (H : Hp) (C : Addr) (cl : List (Str × Addr)) (fp : List Addr),PG (X.blk s H scope (compEnvC scope cl C X.env) fp) tg g) (ht : ∀ (s : Shared) (H : Hp) (C : Addr) (cl : List (Str × Addr)) (fp : List Addr),PTs (X.blk s H scope (compEnvC scope cl C X.env) fp) ifs tt)
  (he : ∀ (s : Shared) (H : Hp) (C : Addr) (cl : List (Str × Addr)) (fp : List Addr),PE (X.blk s H scope (compEnvC scope cl C X.env) fp) elt te) (hs : ∀ x,foldedSetIterable iter X.env x = pure x := by intro _; rfl) :
  PE X (.ListComp elt [⟨tg,iter,ifs,0⟩] scope pos) (tLc wi g tt te (own.map (·.2))) := by
 intro pins s σ H Q I h
 rw [eval_ListComp]
 refine lc_core hc hN I hi ok hg ht he hs h fun D C s' m H' I' q hn f => ⟨m,hn,fun h'' sb => ?_⟩
 obtain ⟨f0,f1,f2,f3,f4,f5⟩ := f
 exact ⟨.ref D,H',I'.turned (t' := s'.toks) (fun b o hb e => (sb.2 b hb).trans e) f0 f1 f3 f4 f5,rfl,q⟩
theorem ps_setLc {i : Nat} {y : Str} {py : Pos} {elt tg iter : Expr} {ifs : List Expr} {scope : Scope} {own : List (Str × Nat)} {pos spos : Pos} {wi : TI} {g : TG} {tt : TT} {te : TE} (hc : X.calm = true) (hN : X.N.Nodup) (hy : X.N[i]? = some y) (hyl : X.env.scope.names.lookup y = some .local)
  (hsw : swapsWith (.ListComp elt [⟨tg,iter,ifs,0⟩] scope pos) (some (.Name y py)) spos.line X.env = pure true) (hi : PI X tg iter wi) (ok : BlkOk X.N X.env.scope scope own)
  (hg : ∀ (s : Shared) (H : Hp) (C : Addr) (cl : List (Str × Addr)) (fp : List Addr),PG (X.blk s H scope (compEnvC scope cl C X.env) fp) tg g) (ht : ∀ (s : Shared) (H : Hp) (C : Addr) (cl : List (Str × Addr)) (fp : List Addr),PTs (X.blk s H scope (compEnvC scope cl C X.env) fp) ifs tt)
  (he : ∀ (s : Shared) (H : Hp) (C : Addr) (cl : List (Str × Addr)) (fp : List Addr),PE (X.blk s H scope (compEnvC scope cl C X.env) fp) elt te) (hs : ∀ x,foldedSetIterable iter X.env x = pure x := by intro _; rfl) :
  PS X (.Assign [.Name y py] (.ListComp elt [⟨tg,iter,ifs,0⟩] scope pos) spos) (tAsg (tLc wi g tt te (own.map (·.2))) (gName i)) := by
 intro pins s σ H D I h
 rw [exec_Assign_Name_used _ _ _ _ hsw]
 refine wpAny_bind (wpAny_standAt (wpAny_bind ?_))
 show wpAny _ X.A (do let _ <- comprehension (.ListComp elt [⟨tg,iter,ifs,0⟩] scope pos) scope X.env (firstIterPos [⟨tg,iter,ifs,0⟩] pos) (newList []) false (eval iter X.env) (some (assign (.Name y py) X.env))) _ _ s
 have h : tLc wi g tt te (own.map (·.2)) σ H (fun x H1 => gName i x σ H1 D.nx) := h
 refine wpAny_bind (thn (lc_core (Qf := fun _ s' => SP X pins D .next s') hc hN I hi ok hg ht he hs h fun L C s' m H' I' q hn f => ?_) fun _ s' hq => wpAny_pure (wpAny_pure hq))
 show wpAny _ _ (assign (.Name y py) X.env (.ref L)) _ _ _
 refine wpAny_assign_Name (store_ok2 (v := V.ref L) I' hN hy (.inl hyl) rfl (fun s2 I2 ⟨a,sb,ha⟩ => ?_) (.inr hyl))
 obtain ⟨f0,f1,f2,f3,f4,f5⟩ := f
 have haC : C ≠ a := by
  rcases ha with z | z
  ·rw [z]; exact f1
  ·exact fun e => f4 y a z e.symm
 refine ⟨m,hn.sameBut sb haC,fun h3 sb3 => ?_⟩
 exact ⟨_,H',I2.turned (t' := s2.toks) (fun b o hb e => (sb3.2 b hb).trans e) f0 f1 f3 f4 f5,q⟩
theorem sw_true {elt : Expr} {gs : List Comprehension} {scope : Scope} {pos py : Pos} {y : Str} {l : Nat} {env : Env} (hk : env.scope.kind = .function) (hy : env.scope.names.lookup y = some .local) (hl : (py.line == pos.line) = true)
  (ha : (scope.names.any fun (n,k) => n == y && (k == .local || k == .cell)) = false) : swapsWith (.ListComp elt gs scope pos) (some (.Name y py)) l env = pure true := by
 have ky : env.kindOf y = some .local := hy
 have hb : env.blockKind = .function := by unfold Env.blockKind; rw [hk]; rfl
 unfold swapsWith
 simp only [hb,ky,ha,Expr.pos,hl]
 rfl
end
def blkC (N : List Str) (sc scope : Scope) (own : List (Str × Nat)) : Bool :=
 (match scope.kind with | .function => true | _ => false) && (scope.names.all fun y => decide (scope.names.lookup y.1 = some y.2)) && (own.all fun p => decide (N[p.2]? = some p.1)) &&
  (scope.names.all fun y => match y.2 with
   | .free => (match sc.names.lookup y.1 with | some .cell => true | some .free => true | _ => false)
   | .local => decide (y.1 ∈ own.map (·.1)) || decide (y.1 ∉ N)
   | .cell => decide (y.1 ∈ own.map (·.1)) || decide (y.1 ∉ N)
   | _ => true)
theorem blkOk_by {N : List Str} {sc scope : Scope} {own : List (Str × Nat)} (h : blkC N sc scope own = true) : BlkOk N sc scope own := by
 unfold blkC at h
 simp only [Bool.and_eq_true,List.all_eq_true,decide_eq_true_eq] at h
 obtain ⟨⟨⟨h1,h2⟩,h3⟩,h4⟩ := h
 refine ⟨?_,h2,h3,fun y hy e => ?_,fun y hy e => ?_⟩
 ·split at h1
  ·assumption
  ·cases h1
 ·have q := h4 y hy
  simp only [e] at q
  split at q <;> first | exact .inl (by assumption) | exact .inr (by assumption) | cases q
 ·have q := h4 y hy
  rcases e with e | e <;> (simp only [e,Bool.or_eq_true,decide_eq_true_eq] at q; exact q)
end L2
namespace L2
open PySem PySem.Spec PyProof.Rows
section
variable {prog : Program} {w : World} {A : Around} {R : Result -> Shared -> Prop} {s : Shared} {elt t0 i0 t1 i1 : Expr} {ifs0 ifs1 : List Expr} {scope : Scope} {pos : Pos} {it acc : Value} {env : Env}
end
section
variable {X : Cx}
end
end L2
namespace L2
open PySem PySem.Spec PyProof.Rows
section
variable {κ : Type} [DecidableEq κ]
end
section
variable {P : Program} {w : World} {H : Hp} {h : Heap} {a : Addr}
end
section
variable {X : Cx} {pins : List (Addr × Obj)} {σ : St} {H : Hp} {s : Shared} {a : Addr} {y v : V} {u r : Value} {o : Option V} {A : Around} {E : Value -> Shared -> Prop}
end
section
variable {X : Cx} {pins : List (Addr × Obj)} {σ : St} {H : Hp} {s : Shared} {a : Addr} {kvs : List (Key × V)} {k : Key} {u : Value} {A : Around} {E : Value -> Shared -> Prop}
end
section
variable {X : Cx} {o i e value : Expr} {pos pos' tpos : Pos} {td ty tv : TE}
end
section
variable {X : Cx} {pos : Pos}
end
section
variable {X : Cx} {pins : List (Addr × Obj)} {σ : St} {H : Hp} {s : Shared} {a : Addr} {y d : V} {u r : Value} {o : Option V} {A : Around} {E : Value -> Shared -> Prop}
end
section
variable {X : Cx} {o e f : Expr} {apos cpos : Pos} {td ty tx : TE}
end
section
variable {X : Cx} {pins : List (Addr × Obj)} {σ : St} {H : Hp} {s : Shared} {a : Addr} {kvs : List (Key × V)} {A : Around} {E : Value -> Shared -> Prop}
end
section
variable {X : Cx} {pins : List (Addr × Obj)} {σ : St} {H : Hp} {s : Shared} {a : Addr} {y : V} {u : Value} {A : Around} {E : Value -> Shared -> Prop}
end
end L2
namespace L2
open PySem PySem.Spec PyProof.Rows
section
variable {prog : Program} {w : World} {A : Around} {E : Value -> Shared -> Prop}
end
section
variable {X : Cx}
end
end L2
namespace L2
open PySem PySem.Spec PyProof.Rows
section
variable {X : Cx} {pins : List (Addr × Obj)} {σ : St} {H : Hp} {s : Shared} {h' : Heap}
theorem Inv.turnedL {t' : Nat} {ch : List Addr} (I : Inv X pins σ H s) (k : ∀ b o,b ∉ ch -> s.heap.get? b = some o -> h'.get? b = some o) (hf : ∀ b ∈ ch,FpOk X pins H b) : Inv X pins σ H { s with heap := h',toks := t' } := by
 have nit : ∀ b u,H b = some u -> b ∉ ch := fun b u e z => by
  have q := (hf b z).1
  rw [q] at e; cases e
 refine I.step (g' := s.gens) (d' := s.drawn) (ch := ch) (fun b hb => ⟨(hf b hb).2.2.2.1,(hf b hb).2.1,(hf b hb).2.2.2.2.1,(hf b hb).2.2.2.2.2⟩) (fun b o _ _ hc e _ => k b o hc e) (fun b o _ _ hc e _ => ⟨o.slots,k b o hc e⟩)
  (fun _ _ _ _ n => n) (fun b o hc e => ⟨o,k b o hc e⟩) (fun _ _ e => e) (fun _ _ _ e => e) (fun b ps e => ⟨#[],by rw [e]; simp⟩) (fun m hm => ?_) (fun b u e => ?_) I.bare
 ·obtain ⟨o,es,ep,ho,r⟩ := hm
  exact ⟨o,es,ep,k _ o (fun z => (hf _ z).2.1 rfl) ho,r⟩
 ·refine (I.hok b u e).stay (fun c v hc q => k c v ?_ q) (fun _ q => q) fun _ _ q => q
  rcases hc with z | z
  ·rw [z]; exact nit b u e
  ·exact nit c _ z
theorem Inv.turnedNew {t' : Nat} {ch : List Addr} {T : Addr} {ob : HO} (I : Inv X pins σ H s) (k : ∀ b o,b ∉ ch -> s.heap.get? b = some o -> h'.get? b = some o) (hf : ∀ b ∈ ch,FpOk X pins H b) (hT : s.heap.objs.size <= T)
  (new : ObjOk X.prog X.w (upd H T ob) h' T ob) : Inv X pins σ (upd H T ob) { s with heap := h',toks := t' } := by
 have hn : H T = none := I.hok.fresh hT
 have nit : ∀ b u,H b = some u -> b ∉ ch := fun b u e z => by
  have q := (hf b z).1
  rw [q] at e; cases e
 refine I.step (g' := s.gens) (d' := s.drawn) (ch := ch) (fun b hb => ⟨(hf b hb).2.2.2.1,(hf b hb).2.1,(hf b hb).2.2.2.2.1,(hf b hb).2.2.2.2.2⟩) (fun b o _ _ hc e _ => k b o hc e) (fun b o _ _ hc e _ => ⟨o.slots,k b o hc e⟩)
  (fun b o _ e n => ?_) (fun b o hc e => ⟨o,k b o hc e⟩) (fun b xs e => ?_) (fun b o u e => ?_) (fun b ps e => ⟨#[],?_⟩) (fun m hm => ?_) (fun b u e => ?_) I.bare
 ·rw [upd_ne (Nat.ne_of_lt (Nat.lt_of_lt_of_le (Heap.lt_size e) hT))]; exact n
 ·rw [upd_ne (ne_of_none e hn)]; exact e
 ·rw [upd_ne (ne_of_none e hn)]; exact e
 ·rw [upd_ne (ne_of_none e hn),e]; simp
 ·obtain ⟨o,es,ep,ho,r⟩ := hm
  exact ⟨o,es,ep,k _ o (fun z => (hf _ z).2.1 rfl) ho,r⟩
 ·by_cases hb : b = T
  ·subst hb
   rw [upd_same] at e
   cases e
   exact new
  ·rw [upd_ne hb] at e
   refine (I.hok b u e).stay (fun c v hc q => k c v ?_ q) (fun c q => by rw [upd_ne (ne_of_none q hn)]; exact q) fun c xs q => by rw [upd_ne (ne_of_none q hn)]; exact q
   rcases hc with z | z
   ·rw [z]; exact nit b u e
   ·exact nit c _ z
theorem Inv.lock {d : Addr} {u : HO} (I : Inv X pins σ H s) (h : H d = some u) (mu : Mut (some u)) : ∃ od,Inv X pins σ (upd H d (.frz od u)) s := by
 have x := I.hok d u h
 have ex : ∃ od,s.heap.get? d = some od := by
  cases u with
  | lst xs => obtain ⟨_,_,_,_,e⟩ := x; exact ⟨_,e⟩
  | dK kvs => obtain ⟨_,_,_,_,o,_,_,e,_⟩ := x; exact ⟨o,e⟩
  | dT kvs => obtain ⟨_,_,_,_,o,_,_,e,_⟩ := x; exact ⟨o,e⟩
  | set S n => obtain ⟨o,_,_,_,e,_⟩ := x; exact ⟨o,e⟩
  | ins C dx fs => obtain ⟨_,_,_,e,_⟩ := x; exact ⟨_,e⟩
  | ext φ => obtain ⟨_,⟨_,e⟩,_⟩ := x; exact ⟨_,e⟩
  | _ => exact False.elim mu
 obtain ⟨od,e⟩ := ex
 have new : ObjOk X.prog X.w (upd H d (.frz od u)) s.heap d (.frz od u) := by
  refine ⟨e,x.stay (fun b v _ q => q) (fun b q => ?_) fun b xs q => ?_⟩
  ·rw [upd_ne (fun z => by rw [z,h] at q; cases q; exact mu)]; exact q
  ·rw [upd_ne (fun z => by rw [z,h] at q; cases q; exact mu)]; exact q
 exact ⟨od,I.write (x := d) (e := d) (t' := s.toks) (h' := s.heap) (by rw [h]; exact mu) (.inl rfl) (fun b v _ q => q) ⟨od,e⟩ new⟩
theorem Inv.nofrz {d : Addr} {u : HO} (I : Inv X pins σ H s) (h : H d = some u) (mu : Mut (some u)) : ∀ o' u',X.H_0 d ≠ some (.frz o' u') := fun o' u' e => by
 have q := I.base.frzs d o' u' e
 rw [h] at q
 cases q
 exact mu
theorem Inv.unlock {d : Addr} {od : Obj} {u : HO} (I : Inv X pins σ H s) (h : H d = some (.frz od u)) (hn : ∀ o' u',X.H_0 d ≠ some (.frz o' u')) : Inv X pins σ (upd H d u) s := by
 have neH : ∀ b o,H b = some o -> (∀ o' u',o ≠ .frz o' u') -> b ≠ d := fun b o e hne z => by
  rw [z,h] at e
  cases e
  exact hne _ _ rfl
 have neN : ∀ b,H b = none -> b ≠ d := fun b e z => by rw [z,h] at e; cases e
 refine ⟨I.ok,I.os,I.bare,⟨I.base.keep,I.base.slot,fun b o e n hx => ?_,I.base.there,fun b xs e => ?_,fun b o x e => ?_,fun b ps e => ?_⟩,I.loc,I.cell,?_,fun x c e => ?_,fun p hp => ?_,fun b o e => ?_,I.len⟩
 ·rw [upd_ne (neN b (I.base.free b o e n hx))]; exact I.base.free b o e n hx
 ·have q := I.base.tups b xs e
  rw [upd_ne (neH b _ q (fun _ _ z => nomatch z))]; exact q
 ·have q := I.base.frzs b o x e
  rw [upd_ne (fun z => by rw [z] at e; exact hn _ _ e)]; exact q
 ·obtain ⟨m,q⟩ := I.base.tbls b ps e
  exact ⟨m,by rw [upd_ne (neH b _ q (fun _ _ z => nomatch z))]; exact q⟩
 ·rw [upd_ne (neN _ I.free)]; exact I.free
 ·rw [upd_ne (neN c (I.freeC x c e))]; exact I.freeC x c e
 ·obtain ⟨e,n,r⟩ := I.pin p hp
  exact ⟨e,by rw [upd_ne (neN _ n)]; exact n,r⟩
 ·by_cases hb : b = d
  ·rw [hb,upd_same] at e
   cases e
   rw [hb]
   obtain ⟨_,x⟩ := I.hok d _ h
   exact x.stay (fun c v _ q => q) (fun c q => by rw [upd_ne (neH c _ q (fun _ _ z => nomatch z))]; exact q) fun c xs q => by rw [upd_ne (neH c _ q (fun _ _ z => nomatch z))]; exact q
  ·rw [upd_ne hb] at e
   exact (I.hok b o e).stay (fun c v _ q => q) (fun c q => by rw [upd_ne (neH c _ q (fun _ _ z => nomatch z))]; exact q) fun c xs q => by rw [upd_ne (neH c _ q (fun _ _ z => nomatch z))]; exact q
end
def tLock (t : TS) : TS := fun D σ H => ∃ d u,H d = some u /\ Mut (some u) /\ ∀ od,t ⟨fun σ' H' => H' d = some (.frz od u) /\ D.nx σ' (upd H' d u),fun v H' => H' d = some (.frz od u) /\ D.rt v (upd H' d u),fun σ' H' => H' d = some (.frz od u) /\ D.bk σ' (upd H' d u),fun σ' H' => H' d = some (.frz od u) /\ D.ct σ' (upd H' d u)⟩ σ (upd H d (.frz od u))
section
variable {X : Cx}
theorem ps_lock {st : Stmt} {t : TS} (h : PS X st t) : PS X st (tLock t) := by
 intro pins s σ H D I hw
 obtain ⟨d,u,hd,mu,hw⟩ := hw
 obtain ⟨od,I1⟩ := I.lock hd mu
 refine thn (h pins s σ _ _ I1 (hw od)) fun f s1 q => ?_
 cases f with
 | next => obtain ⟨σ',H',I2,e,q⟩ := q; exact ⟨σ',_,I2.unlock e (I.nofrz hd mu),q⟩
 | brk => obtain ⟨σ',H',I2,e,q⟩ := q; exact ⟨σ',_,I2.unlock e (I.nofrz hd mu),q⟩
 | cont => obtain ⟨σ',H',I2,e,q⟩ := q; exact ⟨σ',_,I2.unlock e (I.nofrz hd mu),q⟩
 | ret v => obtain ⟨x,σ',H',I2,r,e,q⟩ := q; exact ⟨x,σ',_,I2.unlock e (I.nofrz hd mu),r,q⟩
theorem pi_one {tg : Expr} {pins : List (Addr × Obj)} {σ : St} {H : Hp} {s : Shared} {R : It -> Hp -> Prop} {J : It} {tn : Nat -> Heap -> Prop} {tk : Nat} (I : Inv X pins σ H s) (o : Obj)
  (T : Turn X.prog X.w X.K tg J [s.heap.objs.size] s.heap.objs.size tn) (st : tn 0 (s.heap.push o)) (q : R J H) : PIE X pins σ tg R (.ref s.heap.objs.size) { s with heap := s.heap.push o,toks := tk } := by
 refine ⟨s.heap.objs.size,[s.heap.objs.size],tn,J,H,rfl,I.kept fun b ob e => Heap.get?_push_of_some _ e,T,st,fun b hb => ?_,q⟩
 have e : b = s.heap.objs.size := by simpa using hb
 subst e
 exact I.fpOk (Nat.le_refl _) (I.hok.fresh (Nat.le_refl _))
end
def Itc (lo c : Int) (n : Nat) : It := ⟨fun i _ => i < n,fun i H x H' => H' = H /\ x = .int (lo + (i : Nat) * c),fun i _ => n <= i⟩
theorem turn_rangeC {P : Program} {w : World} {K : PySem.W.Frag} {tg : Expr} (it : Addr) (lo c : Int) (n : Nat) : Turn P w K tg (Itc lo c n) [it] it (fun i h => IsRangeIter h it (lo + (i : Nat) * c) ((n : Int) - (i : Nat)) c) where
 mem := by simp
 obj := fun i h st b hb => by
  have e : b = it := by simpa using hb
  subst e
  exact ⟨_,st,fun v z => nomatch z⟩
 keep := fun i h h' st k => k it (by simp) _ st
 item := by
  intro X hP hw hK hc i pins s σ H E I hf st hg
  subst hP hw hK
  obtain ⟨f0,f1,f2,f3,f4,f5⟩ := hf it (by simp)
  have W := Walks.range (prog := X.prog) (w := X.w) (I.ok.hd hc) it lo c n
  refine W.item i s _ _ hg st fun v h' tk hv st' kk => ?_
  obtain ⟨t,rfl⟩ := hv
  have I1 : Inv X pins σ H { s with heap := h',toks := tk } := I.turned (fun b o hb e => kk b o (by simpa using hb) e) f0 f1 f3 f4 f5
  exact ⟨_,rfl,go_of (s := { s with heap := h',toks := tk }) (n := "range_iterator") st' rfl rfl (by decide) ⟨.int (lo + (i : Nat) * c),H,I1,⟨t,rfl⟩,⟨rfl,rfl⟩,st',fun b hb => (hf b hb).1⟩⟩
 done := by
  intro X hP hw hK hc i pins s σ H E I hf st hg
  subst hP hw hK
  obtain ⟨f0,f1,f2,f3,f4,f5⟩ := hf it (by simp)
  exact wpAny_pyNext_range_end (I.ok.hd hc) st (by have : n <= i := hg; omega) fun h' eb => ⟨rfl,I.turned (t' := s.toks) (fun b o hb e => eb b o hb e) f0 f1 f3 f4 f5⟩
 self := fun A i s Q E st h => wpAny_pyIter_rangeiter st h
def RgC (i j c : Int) (n : Nat) : Prop := c ≠ 0 /\ c.natAbs < 1073741824 /\ Builtin.Range.small i j c = true /\ Builtin.Range.rangeSize i j c = n
theorem RgC.neg {i j : Int} (ha : -(2 ^ 62) <= i) (ha' : i < 2 ^ 62) (hb : -(2 ^ 62) <= j) (hb' : j < 2 ^ 62) : RgC i j (-1) (i - j).toNat :=
 ⟨by decide,by decide,PySem.W.small_down ha ha' hb hb',PySem.W.rangeSize_downNat i j⟩
def iRng3 (ta : TA) : TI := fun σ H R => ta σ H fun vs H1 => ∃ (i j c : Int) (n : Nat),vs = [.int i,.int j,.int c] /\ RgC i j c n /\ R (Itc i c n) H1
section
variable {X : Cx} {tg : Expr}
theorem pi_range3 {a b c : Expr} {ta : TA} {p pos : Pos} (hg : Gl X "range") (hm : X.mg "range" = none) (ha : PA X [a,b,c] ta)
  (hs : starEach [a,b,c] X.env = (false,eval a X.env) :: starEach [b,c] X.env := by rfl) (hpl : (backTo pos (starEach [b,c] X.env)).any (·.1) = false := by rfl) :
  PI X tg (.Call (.Name "range" p) [a,b,c] [] pos) (iRng3 ta) := by
 intro pins s σ H R I h
 refine Call_ (ld_blt I hg hm boot_range (PyProof.Rows.callWith_type1 (thn (ha pos pins s σ H _ I h) fun us s1 ⟨vs,H1,I1,r1,q1⟩ => ?_) hs hpl))
 obtain ⟨i,j,k,n,e,⟨c0,c1,c2,c3⟩,q⟩ := q1
 subst e
 cases r1 with
 | cons r rr =>
  cases rr with
  | cons r' rr =>
   cases rr with
   | cons r'' rr =>
    cases rr
    obtain ⟨t,rfl⟩ := r
    obtain ⟨t',rfl⟩ := r'
    obtain ⟨t'',rfl⟩ := r''
    refine call_range_3 c0 ?_ (.inl (PyProof.noPylong_small c1))
    refine wpAny_pyIter_range (IsRange.new ..) c2 ?_
    have I2 : Inv X pins σ H1 { s1 with heap := s1.heap.push { cls := .type "range",data := .fields #[.int i t,.int j t',.int k t''] } } := I1.kept (t' := s1.toks) fun b o e => Heap.get?_push_of_some _ e
    refine pi_one (tk := s1.toks) I2 _ (turn_rangeC _ i k n) ?_ q
    have e1 : i + ((0 : Nat) : Int) * k = i := by simp
    have e2 : (n : Int) - ((0 : Nat) : Int) = Builtin.Range.rangeSize i j k := by rw [c3]; simp
    show IsRangeIter _ _ (i + ((0 : Nat) : Int) * k) ((n : Int) - ((0 : Nat) : Int)) k
    rw [e1,e2]
    exact Heap.get?_push_size _ rfl
end
theorem for_rangeC {lo c : Int} {n : Nat} {g : TG} {tb : TS} {D : Ends} {σ : St} {H : Hp} (Pv : Nat -> St -> Hp -> Prop) (h0 : Pv 0 σ H)
  (hs : ∀ i σ H,i < n -> Pv i σ H -> g (.int (lo + (i : Nat) * c)) σ H fun σ2 H2 => tb { D with nx := Pv (i + 1),ct := Pv (i + 1),bk := D.nx } σ2 H2) (hd : ∀ σ H,Pv n σ H -> D.nx σ H) :
  ∃ W : Nat -> Nat -> St -> Hp -> Prop,(∃ m,W 0 m σ H) /\ ∀ i m σ H,W i m σ H ->
   ((Itc lo c n).stop i H /\ D.nx σ H) \/ ((Itc lo c n).go i H /\ ∃ N : St -> Hp -> Prop,(∀ σ' H',N σ' H' -> ∃ m',m' < m /\ W (i + 1) m' σ' H') /\ ∀ x H',(Itc lo c n).yld i H x H' -> g x σ H' fun σ2 H2 => tb { D with nx := N,ct := N,bk := D.nx } σ2 H2) := by
 refine ⟨fun i m σ H => m = n - i /\ i <= n /\ Pv i σ H,⟨n,by simp,Nat.zero_le _,h0⟩,?_⟩
 rintro i m σ H ⟨rfl,hi,p⟩
 by_cases hlt : i < n
 ·refine .inr ⟨hlt,Pv (i + 1),fun σ' H' p' => ⟨n - (i + 1),by omega,rfl,hlt,p'⟩,fun x H' y => ?_⟩
  obtain ⟨e,y⟩ := y
  subst e y
  exact hs i σ _ hlt p
 ·have e : i = n := by omega
  subst e
  exact .inl ⟨Nat.le_refl _,hd σ H p⟩
section
variable {X : Cx} {tg : Expr}
end
def Its (x : Str) : It := ⟨fun i _ => i < x.cps.size,fun i H v H' => H' = H /\ ∃ c,x.cps[i]? = some c /\ v = .str ⟨#[c]⟩,fun i _ => x.cps.size <= i⟩
theorem turn_str {P : Program} {w : World} {K : PySem.W.Frag} {tg : Expr} (it : Addr) (x : Str) (t : Tok) (ty : String) (hty : ty = "str_ascii_iterator" \/ ty = "str_iterator") :
  Turn P w K tg (Its x) [it] it (fun i h => h.IsStrIter it ty x t i) where
 mem := by simp
 obj := fun i h st b hb => by
  have e : b = it := by simpa using hb
  subst e
  obtain ⟨o,e,c,d⟩ := st
  exact ⟨o,e,fun v z => by rw [d] at z; cases z⟩
 keep := fun i h h' st k => let ⟨o,ho,r⟩ := st; ⟨o,k it (by simp) o ho,r⟩
 item := by
  intro X hP hw hK hc i pins s σ H E I hf st hg
  subst hP hw hK
  obtain ⟨f0,f1,f2,f3,f4,f5⟩ := hf it (by simp)
  have W : Walks X.prog X.w X.A it [it] [it] x.cps.size (SignAt x) (fun i h => h.IsStrIter it ty x t i) := by
   rcases hty with e | e
   ·rw [e]; exact Walks.strAscii (I.ok.hd hc) it x t
   ·rw [e]; exact Walks.strWide (I.ok.hd hc) it x t
  have hno : ["enumerate","zip","dict_itemiterator","dict_reverseitemiterator","odict_iterator","itertools.zip_longest","itertools.pairwise"].contains ty = false := by
   rcases hty with e | e
   ·rw [e]; decide
   ·rw [e]; decide
  refine W.item i s _ _ hg st fun v h' tk hv st' kk => ?_
  obtain ⟨c,u,hcx,rfl⟩ := hv
  have I1 : Inv X pins σ H { s with heap := h',toks := tk } := I.turned (fun b o hb e => kk b o (by simpa using hb) e) f0 f1 f3 f4 f5
  obtain ⟨oi,e,cc,dd⟩ := id st'
  exact ⟨_,rfl,go_of (s := { s with heap := h',toks := tk }) e cc dd hno ⟨.str ⟨#[c]⟩,H,I1,⟨u,rfl⟩,⟨rfl,c,hcx,rfl⟩,st',fun b hb => (hf b hb).1⟩⟩
 done := by
  intro X hP hw hK hc i pins s σ H E I hf st hg
  subst hP hw hK
  obtain ⟨f0,f1,f2,f3,f4,f5⟩ := hf it (by simp)
  have hx : x.cps[i]? = none := Array.getElem?_eq_none hg
  rcases hty with e | e
  ·rw [e] at st
   exact wpAny_pyNext_ascii_end (I.ok.hd hc) st hx fun h' eb => ⟨rfl,I.turned (t' := s.toks) (fun b o hb e => eb b o hb e) f0 f1 f3 f4 f5⟩
  ·rw [e] at st
   exact wpAny_pyNext_wide_end (I.ok.hd hc) st hx fun h' eb => ⟨rfl,I.turned (t' := s.toks) (fun b o hb e => eb b o hb e) f0 f1 f3 f4 f5⟩
 self := fun A i s Q E st h => by
  rcases hty with e | e
  ·rw [e] at st; exact wpAny_pyIter_striter_ascii st h
  ·rw [e] at st; exact wpAny_pyIter_striter_wide st h
def iStr (te : TE) : TI := fun σ H R => te σ H fun v H1 => ∃ x,v = .str x /\ R (Its x) H1
theorem pi_str {X : Cx} {tg e : Expr} {te : TE} (he : PE X e te) : PI X tg e (iStr te) := by
 intro pins s σ H R I h
 refine thn (he pins s σ H _ I h) fun v s1 ⟨y,H1,I1,r1,x,ex,q⟩ => ?_
 subst ex
 obtain ⟨t,rfl⟩ := r1
 cases ha : x.cps.all (· < 128)
 ·exact wpAny_pyIter_wide ha (pi_one (tk := s1.toks) I1 _ (turn_str _ x t "str_iterator" (.inr rfl)) ⟨_,Heap.get?_push_size _ rfl,rfl,rfl⟩ q)
 ·exact wpAny_pyIter_ascii ha (pi_one (tk := s1.toks) I1 _ (turn_str _ x t "str_ascii_iterator" (.inl rfl)) ⟨_,Heap.get?_push_size _ rfl,rfl,rfl⟩ q)
section
variable {prog : Program} {w : World} {A : Around} {E : Value -> Shared -> Prop} {s : Shared}
end
section
variable {X : Cx} {pins : List (Addr × Obj)} {σ : St} {H : Hp} {s : Shared} {d : Addr} {o : Obj}
end
section
variable {P : Program} {w : World} {K : PySem.W.Frag} {tg : Expr} {d : Addr} {o : Obj} {es : Array DictEntry} {ep : Nat}
end
section
variable {X : Cx} {tg e : Expr} {td : TE} {apos cpos : Pos}
end
def Ite (K : PySem.W.Frag) (a : Addr) : It :=
 ⟨fun i H => ∃ (xs : List V) (x : V),SqL K H a xs /\ xs[i]? = some x,fun i H v H' => ∃ T x,v = .ref T /\ H T = none /\ H' = upd H T (.tup [.int (i : Nat),x]) /\ ∀ xs,SqL K H a xs -> xs[i]? = some x,fun i H => ∃ xs : List V,SqL K H a xs /\ xs.length <= i⟩
theorem turn_enum {P : Program} {w : World} {K : PySem.W.Frag} {elts : List Expr} {kk : Nat} {tpos : Pos} (a e it : Addr) :
  Turn P w K (.Tuple elts kk tpos) (Ite K a) [e,it] e (fun i h => (∃ old,IsEnum h e it ((i : Nat) : Int) old) /\ h.IsListIter it a i /\ e ≠ it) where
 mem := by simp
 obj := fun i h st b hb => by
  obtain ⟨⟨old,he⟩,⟨o,ho,hc,hd⟩,_⟩ := st
  have e' : b = e \/ b = it := by simpa using hb
  rcases e' with z | z
  ·rw [z]; exact ⟨_,he,fun v q => nomatch q⟩
  ·rw [z]; exact ⟨o,ho,fun v q => by rw [hd] at q; cases q⟩
 keep := fun i h h' st k => let ⟨⟨old,he⟩,hi,hne⟩ := st; ⟨⟨old,k e (by simp) _ he⟩,hi.at fun o q => k it (by simp) o q,hne⟩
 item := by
  intro X hP hw hK hc i pins s σ H E I hf st hg
  subst hP hw hK
  obtain ⟨⟨old,he⟩,hit,hne⟩ := st
  obtain ⟨xs,x,hq,hx⟩ := hg
  obtain ⟨its,rv,p,hz⟩ := I.list hq
  obtain ⟨u,hu,ru⟩ := rv.get hx
  have hel : e < s.heap.objs.size := Heap.lt_size he
  have hil : it < s.heap.objs.size := by obtain ⟨_,q,_⟩ := hit; exact Heap.lt_size q
  refine wpAny_pyNext_enum_item he hit p.isList (x := u) (by simpa using hu) hne fun h' ho hit' hT hsz hk => ?_
  refine ⟨_,rfl,wpAny_letOwnedTupleGo_enum (s := { s with heap := h',toks := s.toks + 1 }) ho fun h'' he' sb => ?_⟩
  have hT2 : h''.get? s.heap.objs.size = some { cls := .type "tuple",data := .seq #[.int i s.toks,u] } := (sb.2 _ (Nat.ne_of_gt hel)).trans hT
  have new : ObjOk X.prog X.w (upd H s.heap.objs.size (.tup [.int (i : Nat),x])) h'' s.heap.objs.size (.tup [.int (i : Nat),x]) :=
   ⟨by show 2 <= sizeLine; decide,[.int i s.toks,u],.cons ⟨_,rfl⟩ (.cons ru .nil),⟨_,hT2,rfl,_,rfl⟩⟩
  have I1 : Inv X pins σ (upd H s.heap.objs.size (.tup [.int (i : Nat),x])) { s with heap := h'',toks := s.toks + 1 } :=
   I.turnedNew (ch := [e,it]) (fun b ob hb q => (sb.2 b (fun z => hb (by simp [z]))).trans (hk b ob (fun z => hb (by simp [z])) (fun z => hb (by simp [z])) q)) hf (Nat.le_refl _) new
  refine ⟨.ref s.heap.objs.size,_,I1,rfl,⟨_,x,rfl,I.hok.fresh (Nat.le_refl _),rfl,fun ys hy => by rw [I.list_inj hy hq]; exact hx⟩,⟨⟨u,?_⟩,hit'.at fun o q => (sb.2 it (Ne.symm hne)).trans q,hne⟩,fun b hb => ?_⟩
  ·have e1 : ((i + 1 : Nat) : Int) = (i : Int) + 1 := by omega
   rw [e1]; exact he'
  ·have hb' : b < s.heap.objs.size := by
    have e' : b = e \/ b = it := by simpa using hb
    rcases e' with z | z
    ·rw [z]; exact hel
    ·rw [z]; exact hil
   rw [upd_ne (Nat.ne_of_lt hb')]
   exact (hf b hb).1
 done := by
  intro X hP hw hK hc i pins s σ H E I hf st hg
  subst hP hw hK
  obtain ⟨⟨old,he⟩,hit,hne⟩ := st
  obtain ⟨xs,hq,hx⟩ := hg
  obtain ⟨its,rv,p,hz⟩ := I.list hq
  obtain ⟨f0,f1,f2,f3,f4,f5⟩ := hf it (by simp)
  have hl := rv.length
  exact wpAny_pyNext_enum_end (I.ok.hd hc) he hit p.isList (by simp; omega) fun h' eb => ⟨rfl,I.turned (t' := s.toks) (fun b o hb q => eb b o hb q) f0 f1 f3 f4 f5⟩
 self := fun A i s Q E st h => let ⟨⟨_,he⟩,_⟩ := st; wpAny_pyIter_enum he h
def iEnum (K : PySem.W.Frag) (ta : TA) : TI := fun σ H R => ta σ H fun vs H1 => ∃ a xs,vs = [.ref a] /\ SqL K H1 a xs /\ R (Ite K a) H1
theorem pi_enum {X : Cx} {e : Expr} {ta : TA} {p pos tpos : Pos} {elts : List Expr} {kk : Nat} (hg : Gl X "enumerate") (hm : X.mg "enumerate" = none) (ha : PA X [e] ta) (hs : starEach [e] X.env = [(false,eval e X.env)] := by rfl) :
  PI X (.Tuple elts kk tpos) (.Call (.Name "enumerate" p) [e] [] pos) (iEnum X.K ta) := by
 intro pins s σ H R I h
 refine Call_ (ld_blt I hg hm boot_enumerate (PyProof.Rows.callWith_type1 (thn (ha pos pins s σ H _ I h) fun us s1 ⟨vs,H1,I1,r1,q1⟩ => ?_) hs rfl))
 obtain ⟨a,xs,ex,hq,q⟩ := q1
 subst ex
 cases r1 with
 | cons r rr =>
  cases rr
  cases r
  obtain ⟨its,rv,p',hz⟩ := I1.list hq
  refine call_enumerate_list p'.isList fun h' he hit hsz hk => wpAny_pyIter_enum he ?_
  have I2 : Inv X pins σ H1 { s1 with heap := h' } := I1.kept (t' := s1.toks) hk
  refine ⟨s1.heap.objs.size + 1,[s1.heap.objs.size + 1,s1.heap.objs.size],_,_,H1,rfl,I2,turn_enum a (s1.heap.objs.size + 1) s1.heap.objs.size,⟨⟨.none,he⟩,hit,Nat.succ_ne_self _⟩,fun b hb => ?_,q⟩
  have e' : b = s1.heap.objs.size + 1 \/ b = s1.heap.objs.size := by simpa using hb
  have hle : s1.heap.objs.size <= b := by
   rcases e' with z | z
   ·rw [z]; exact Nat.le_add_right _ _
   ·rw [z]; exact Nat.le_refl _
  exact I1.fpOk hle (I1.hok.fresh hle)
theorem boot_zip5 : bootBuiltins "zip" = some (.type "zip") := by decide +kernel
def Itz (K : PySem.W.Frag) (a b : Addr) : It :=
 ⟨fun i H => ∃ (xs ys : List V) (x y : V),SqL K H a xs /\ SqL K H b ys /\ xs[i]? = some x /\ ys[i]? = some y,
  fun i H v H' => ∃ T x y,v = .ref T /\ H T = none /\ H' = upd H T (.tup [x,y]) /\ (∀ xs,SqL K H a xs -> xs[i]? = some x) /\ ∀ ys,SqL K H b ys -> ys[i]? = some y,
  fun i H => ∃ xs ys : List V,SqL K H a xs /\ SqL K H b ys /\ (xs.length <= i \/ ys.length <= i)⟩
theorem turn_zip {P : Program} {w : World} {K : PySem.W.Frag} {elts : List Expr} {kk : Nat} {tpos : Pos} {a b z TI TO i1 i2 : Addr} (D : ZipApart z TI TO i1 i2 a b) :
  Turn P w K (.Tuple elts kk tpos) (Itz K a b) [z,TI,TO,i1,i2] z (fun i h => IsZip h z TI TO .none /\ IsPair h TI (.ref i1) (.ref i2) /\ (∃ x y,IsPair h TO x y) /\ h.IsListIter i1 a i /\ h.IsListIter i2 b i) where
 mem := by simp
 obj := fun i h st c hc => by
  obtain ⟨hz,hTI,⟨x,y,hTO⟩,⟨o1,e1,_,d1⟩,⟨o2,e2,_,d2⟩⟩ := st
  have e' : c = z \/ c = TI \/ c = TO \/ c = i1 \/ c = i2 := by simpa using hc
  rcases e' with q | q | q | q | q
  ·rw [q]; exact ⟨_,hz,fun v q => nomatch q⟩
  ·rw [q]; exact ⟨_,hTI,fun v q => nomatch q⟩
  ·rw [q]; exact ⟨_,hTO,fun v q => nomatch q⟩
  ·rw [q]; exact ⟨o1,e1,fun v q => by rw [d1] at q; cases q⟩
  ·rw [q]; exact ⟨o2,e2,fun v q => by rw [d2] at q; cases q⟩
 keep := fun i h h' st k => by
  obtain ⟨hz,hTI,⟨x,y,hTO⟩,h1,h2⟩ := st
  exact ⟨k z (by simp) _ hz,k TI (by simp) _ hTI,⟨x,y,k TO (by simp) _ hTO⟩,h1.at fun o q => k i1 (by simp) o q,h2.at fun o q => k i2 (by simp) o q⟩
 item := by
  intro X hP hw hK hc i pins s σ H E I hf st hg
  subst hP hw hK
  obtain ⟨hz,hTI,⟨x0,y0,hTO⟩,h1,h2⟩ := st
  obtain ⟨xs,ys,x,y,hqx,hqy,hx,hy⟩ := hg
  obtain ⟨its,rv,p,_⟩ := I.list hqx
  obtain ⟨its2,rv2,p2,_⟩ := I.list hqy
  obtain ⟨u,hu,ru⟩ := rv.get hx
  obtain ⟨u2,hu2,ru2⟩ := rv2.get hy
  have hzl : z < s.heap.objs.size := Heap.lt_size hz
  refine wpAny_pyNext_zip_item D hz hTI hTO h1 h2 p.isList p2.isList (x := u) (y := u2) (by simpa using hu) (by simpa using hu2) fun h' z' TO' h1' h2' hT hsz hk => ?_
  refine ⟨_,rfl,wpAny_letOwnedTupleGo_zip (s := { s with heap := h' }) z' fun h'' z'' sb => ?_⟩
  have hT2 : h''.get? s.heap.objs.size = some { cls := .type "tuple",data := .seq #[u,u2] } := (sb.2 _ (Nat.ne_of_gt hzl)).trans hT
  have new : ObjOk X.prog X.w (upd H s.heap.objs.size (.tup [x,y])) h'' s.heap.objs.size (.tup [x,y]) :=
   ⟨by show 2 <= sizeLine; decide,[u,u2],.cons ru (.cons ru2 .nil),⟨_,hT2,rfl,_,rfl⟩⟩
  have I1 : Inv X pins σ (upd H s.heap.objs.size (.tup [x,y])) { s with heap := h'' } :=
   I.turnedNew (t' := s.toks) (ch := [z,TI,TO,i1,i2]) (fun c o hb q => (sb.2 c (fun q' => hb (by simp [q']))).trans (hk c o (fun q' => hb (by simp [q'])) (fun q' => hb (by simp [q'])) (fun q' => hb (by simp [q'])) (fun q' => hb (by simp [q'])) q)) hf (Nat.le_refl _) new
  refine ⟨.ref s.heap.objs.size,_,I1,rfl,⟨_,x,y,rfl,I.hok.fresh (Nat.le_refl _),rfl,fun l hl => by rw [I.list_inj hl hqx]; exact hx,fun l hl => by rw [I.list_inj hl hqy]; exact hy⟩,⟨z'',?_,⟨u,u2,?_⟩,?_,?_⟩,fun c hcm => ?_⟩
  ·exact (sb.2 _ D.TIz).trans (hk _ _ D.TIz D.TITO D.TIi1 D.TIi2 hTI)
  ·exact (sb.2 _ D.TOz).trans TO'
  ·exact h1'.at fun o q => (sb.2 _ D.i1z).trans q
  ·exact h2'.at fun o q => (sb.2 _ D.i2z).trans q
  ·have hlt : c < s.heap.objs.size := by
    have e' : c = z \/ c = TI \/ c = TO \/ c = i1 \/ c = i2 := by simpa using hcm
    rcases e' with q | q | q | q | q
    ·rw [q]; exact hzl
    ·rw [q]; exact Heap.lt_size hTI
    ·rw [q]; exact Heap.lt_size hTO
    ·rw [q]; obtain ⟨_,e1,_⟩ := h1; exact Heap.lt_size e1
    ·rw [q]; obtain ⟨_,e2,_⟩ := h2; exact Heap.lt_size e2
   rw [upd_ne (Nat.ne_of_lt hlt)]
   exact (hf c hcm).1
 done := by
  intro X hP hw hK hc i pins s σ H E I hf st hg
  subst hP hw hK
  obtain ⟨hz,hTI,⟨x0,y0,hTO⟩,h1,h2⟩ := st
  obtain ⟨xs,ys,hqx,hqy,hend⟩ := hg
  obtain ⟨its,rv,p,_⟩ := I.list hqx
  obtain ⟨its2,rv2,p2,_⟩ := I.list hqy
  have l1 := rv.length
  have l2 := rv2.length
  have he : its.toArray[i]? = none \/ its2.toArray[i]? = none := by
   rcases hend with q | q
   ·exact .inl (by simp; omega)
   ·exact .inr (by simp; omega)
  exact wpAny_pyNext_zip_end (I.ok.hd hc) D hz hTI hTO h1 h2 p.isList p2.isList he fun h' hk => ⟨rfl,I.turnedL (t' := s.toks) (ch := [z,TI,TO,i1,i2]) (fun c o hb q =>
   hk c o (fun q' => hb (by simp [q'])) (fun q' => hb (by simp [q'])) (fun q' => hb (by simp [q'])) (fun q' => hb (by simp [q'])) q) hf⟩
 self := fun A i s Q E st h => wpAny_pyIter_zip st.1 h
def iZip (K : PySem.W.Frag) (ta : TA) : TI := fun σ H R => ta σ H fun vs H1 => ∃ a b xs ys,vs = [.ref a,.ref b] /\ SqL K H1 a xs /\ SqL K H1 b ys /\ R (Itz K a b) H1
theorem pi_zip {X : Cx} {e e2 : Expr} {ta : TA} {p pos tpos : Pos} {elts : List Expr} {kk : Nat} (hg : Gl X "zip") (hm : X.mg "zip" = none) (ha : PA X [e,e2] ta)
  (hs : starEach [e,e2] X.env = (false,eval e X.env) :: starEach [e2] X.env := by rfl) (hpl : (backTo pos (starEach [e2] X.env)).any (·.1) = false := by rfl) :
  PI X (.Tuple elts kk tpos) (.Call (.Name "zip" p) [e,e2] [] pos) (iZip X.K ta) := by
 intro pins s σ H R I h
 refine Call_ (ld_blt I hg hm boot_zip5 (PyProof.Rows.callWith_type1 (thn (ha pos pins s σ H _ I h) fun us s1 ⟨vs,H1,I1,r1,q1⟩ => ?_) hs hpl))
 obtain ⟨a,b,xs,ys,ex,hqx,hqy,q⟩ := q1
 subst ex
 cases r1 with
 | cons r rr =>
  cases rr with
  | cons r' rr =>
   cases rr
   cases r
   cases r'
   obtain ⟨its,rv,p1,_⟩ := I1.list hqx
   obtain ⟨its2,rv2,p2,_⟩ := I1.list hqy
   have la : a < s1.heap.objs.size := p1.lt
   have lb : b < s1.heap.objs.size := p2.lt
   refine call_zip_2 p1.isList p2.isList fun h' hz hTI hTO h1 h2 hsz hk => wpAny_pyIter_zip hz ?_
   have I2 : Inv X pins σ H1 { s1 with heap := h' } := I1.kept (t' := s1.toks) hk
   refine ⟨s1.heap.objs.size + 4,[s1.heap.objs.size + 4,s1.heap.objs.size + 2,s1.heap.objs.size + 3,s1.heap.objs.size,s1.heap.objs.size + 1],_,_,H1,rfl,I2,turn_zip (PySem.W.ktu_apart s1.heap.objs.size a b la lb),⟨hz,hTI,⟨_,_,hTO⟩,h1,h2⟩,fun c hcm => ?_,q⟩
   have e' : c = s1.heap.objs.size + 4 \/ c = s1.heap.objs.size + 2 \/ c = s1.heap.objs.size + 3 \/ c = s1.heap.objs.size \/ c = s1.heap.objs.size + 1 := by simpa using hcm
   have hle : s1.heap.objs.size <= c := by
    rcases e' with z | z | z | z | z
    ·rw [z]; exact Nat.le_add_right _ _
    ·rw [z]; exact Nat.le_add_right _ _
    ·rw [z]; exact Nat.le_add_right _ _
    ·rw [z]; exact Nat.le_refl _
    ·rw [z]; exact Nat.le_add_right _ _
   exact I1.fpOk hle (I1.hok.fresh hle)
end L2
section
namespace Bits
open PySem PyProof.Rows
end Bits
end
section
namespace TL
open PySem PySem.Builtin PySem.Builtin.Str PySem.StrLaws
end TL
end
namespace L2
open PySem PySem.Spec PyProof.Rows
section
variable {X : Cx} {pins : List (Addr × Obj)} {σ : St} {H : Hp} {s : Shared} {Q : VK}
end
section
variable {X : Cx}
end
section
variable {X : Cx} {o e : Expr} {to te : TE}
end
end L2
namespace L2
open PySem PySem.Spec PyProof.Rows
section
variable {X : Cx}
end
end L2
namespace L2
open PySem PySem.Spec PyProof.Rows
open PySem.W (WData Codec OpenSpec Well WellAll ReadsW ReadsAllW)
mutual
inductive Dw (K : PySem.W.Frag) (H : Hp) : V -> WData -> Prop
 | non : Dw K H .non .none
 | bl (b : Bool) : Dw K H (.bl b) (.bool b)
 | int (i : Int) : Dw K H (.int i) (.int i)
 | str (x : Str) : Dw K H (.str x) (.str x)
 | byt (b : Array UInt8) : Dw K H (.byt b) (.bytes b.toList)
 | lst {a : Addr} {xs : List V} {ds : List WData} : SqL K H a xs -> DwAll K H xs ds -> Dw K H (.ref a) (.list ds)
 | tup {a : Addr} {xs : List V} {ds : List WData} : SqT K H a xs -> DwAll K H xs ds -> Dw K H (.ref a) (.tuple ds)
inductive DwAll (K : PySem.W.Frag) (H : Hp) : List V -> List WData -> Prop
 | nil : DwAll K H [] []
 | cons {v : V} {vs : List V} {d : WData} {ds : List WData} : Dw K H v d -> DwAll K H vs ds -> DwAll K H (v :: vs) (d :: ds)
end
theorem dw_ints {K : PySem.W.Frag} {H : Hp} : ∀ ns : List Int,DwAll K H (ns.map V.int) (ns.map WData.int)
 | [] => .nil
 | n :: r => .cons (.int n) (dw_ints r)
theorem ints_dw {K : PySem.W.Frag} {H : Hp} : ∀ (ns : List Int) (xs : List V),DwAll K H xs (ns.map WData.int) -> xs = ns.map V.int
 | [],xs,h => by
  cases h
  rfl
 | n :: r,xs,h => by
  cases h with
  | cons h1 h2 =>
   cases h1
   rw [ints_dw r _ h2] <;> rfl
section
variable {P : Program} {w : World} {K : PySem.W.Frag} {H : Hp} {h : Heap} {R : PySem.W.WRecords} {cl : Str -> Option Addr}
theorem sqL_at {a : Addr} {xs : List V} (hok : HOk P w H h) (KX : K.In h) (q : SqL K H a xs) : ∃ (its : List Value) (o : Obj) (n : Nat),Vals xs its /\ h.get? a = some o /\ o.cls = .type "list" /\ o.data = .seq its.toArray n := by
 rcases q with q | ⟨o,its,n,e,hc,_,hd,_,hv⟩
 ·obtain ⟨_,its,n,hv,e⟩ := (show ObjOk P w H h a (.lst xs) from q.ok hok)
  exact ⟨its,_,n,hv,e,rfl,rfl⟩
 ·exact ⟨its.toList,o,n,hv,KX _ _ e,hc,by simp [hd]⟩
theorem sqT_at {a : Addr} {xs : List V} (hok : HOk P w H h) (KX : K.In h) (q : SqT K H a xs) : ∃ (its : List Value) (o : Obj) (n : Nat),Vals xs its /\ h.get? a = some o /\ o.cls = .type "tuple" /\ o.data = .seq its.toArray n := by
 rcases q with q | ⟨o,its,n,e,hc,hd,_,hv⟩
 ·obtain ⟨_,its,hv,o,e,hc,n,hd⟩ := (show ObjOk P w H h a (.tup xs) from q.ok hok)
  exact ⟨its,o,n,hv,e,hc,hd⟩
 ·exact ⟨its.toList,o,n,hv,KX _ _ e,hc,by simp [hd]⟩
mutual
theorem Dw.reads (hok : HOk P w H h) (KX : K.In h) : ∀ (d : WData) (v : V) (u : Value),Dw K H v d -> RelV v u -> ∃ as,ReadsW R cl h u d as
 | .none,_,_,x,r => by
  cases x
  cases r
  exact ⟨_,ReadsW.none⟩
 | .bool b,_,_,x,r => by
  cases x
  cases r
  exact ⟨_,ReadsW.bool b⟩
 | .int i,_,_,x,r => by
  cases x
  obtain ⟨t,rfl⟩ := r
  exact ⟨_,ReadsW.int i t⟩
 | .str s,_,_,x,r => by
  cases x
  obtain ⟨t,rfl⟩ := r
  exact ⟨_,ReadsW.str s t⟩
 | .bytes b,_,_,x,r => by
  cases x
  obtain ⟨t,rfl⟩ := r
  exact ⟨_,ReadsW.bytes _ t⟩
 | .list ds,_,_,x,r => by
  cases x with
  | lst hs ha =>
   cases r
   obtain ⟨its,o,n,rv,ho,hc,hd⟩ := sqL_at hok KX hs
   obtain ⟨as,hr⟩ := Dw.readsAll hok KX ds _ its ha rv
   exact ⟨_,ReadsW.list ho hc hd hr⟩
 | .tuple ds,_,_,x,r => by
  cases x with
  | tup hs ha =>
   cases r
   obtain ⟨its,o,n,rv,ho,hc,hd⟩ := sqT_at hok KX hs
   obtain ⟨as,hr⟩ := Dw.readsAll hok KX ds _ its ha rv
   exact ⟨_,ReadsW.tuple ho hc hd hr⟩
 | .float _,_,_,x,_ => by cases x
 | .dict _,_,_,x,_ => by cases x
 | .bytearray _,_,_,x,_ => by cases x
 | .set _,_,_,x,_ => by cases x
 | .frozenset _,_,_,x,_ => by cases x
 | .obj _ _,_,_,x,_ => by cases x
theorem Dw.readsAll (hok : HOk P w H h) (KX : K.In h) : ∀ (ds : List WData) (vs : List V) (us : List Value),DwAll K H vs ds -> Vals vs us -> ∃ as,ReadsAllW R cl h us ds as
 | [],_,_,x,r => by
  cases x
  cases r
  exact ⟨_,ReadsAllW.nil⟩
 | d :: ds,_,_,x,r => by
  cases x with
  | cons h1 h2 =>
   cases r with
   | cons r1 r2 =>
    obtain ⟨as,q1⟩ := Dw.reads hok KX d _ _ h1 r1
    obtain ⟨bs,q2⟩ := Dw.readsAll hok KX ds _ _ h2 r2
    exact ⟨_,ReadsAllW.cons q1 q2⟩
end
end
mutual
def plW : WData -> Bool
 | .none => true
 | .bool _ => true
 | .int _ => true
 | .str _ => true
 | .bytes _ => true
 | .list xs => plWs xs
 | .tuple xs => plWs xs
 | _ => false
def plWs : List WData -> Bool
 | [] => true
 | x :: r => plW x && plWs r
end
theorem plWs_map {α : Type} {f : α -> WData} (h : ∀ a,plW (f a) = true) : ∀ l : List α,plWs (l.map f) = true
 | [] => rfl
 | x :: r => by
  show (plW (f x) && plWs (r.map f)) = true
  rw [h x,plWs_map h r] <;> rfl
theorem pl_enc : ∀ (c : Codec) (a : c.denote),plW (c.enc a) = true
 | .unit,_ => rfl
 | .bool,_ => rfl
 | .int _ _,_ => rfl
 | .nat _ _,_ => rfl
 | .u8,_ => rfl
 | .bytes _ _,_ => rfl
 | .text _ _ _ _,_ => rfl
 | .list _ _ c,a => plWs_map (fun x => pl_enc c x) a
 | .pair c d,a => by
  show (plW (c.enc a.1) && (plW (d.enc a.2) && true)) = true
  rw [pl_enc c a.1,pl_enc d a.2] <;> rfl
 | .triple c d e,a => by
  show (plW (c.enc a.1) && (plW (d.enc a.2.1) && (plW (e.enc a.2.2) && true))) = true
  rw [pl_enc c a.1,pl_enc d a.2.1,pl_enc e a.2.2] <;> rfl
 | .option c,none => rfl
 | .option c,some x => pl_enc c x
theorem pl_encAll : ∀ (cs : List Codec) (a : Codec.denoteAll cs),plWs (Codec.encAll cs a) = true
 | [],_ => rfl
 | c :: cs,a => by
  show (plW (c.enc a.1) && plWs (Codec.encAll cs a.2)) = true
  rw [pl_enc c a.1,pl_encAll cs a.2] <;> rfl
theorem weight_mem : ∀ {xs : List WData} {d : WData},d ∈ xs -> d.weight <= WData.weightAll xs
 | [],d,h => absurd h (by simp)
 | x :: r,d,h => by
  show d.weight <= x.weight + 1 + WData.weightAll r
  rcases List.mem_cons.mp h with e | m
  ·rw [e]
   omega
  ·have z := weight_mem m
   omega
def toV : Value -> V
 | .none => .non
 | .bool b => .bl b
 | .int i _ => .int i
 | .str x _ => .str x
 | .bytes b _ => .byt b
 | .ref a => .ref a
 | _ => .non
def OkU (A : List Addr) : Value -> Prop
 | .none => True
 | .bool _ => True
 | .int _ _ => True
 | .str _ _ => True
 | .bytes _ _ => True
 | .ref a => a ∈ A
 | _ => False
theorem OkU.mono {A B : List Addr} (h : ∀ a ∈ A,a ∈ B) : ∀ {u : Value},OkU A u -> OkU B u := fun {u} x => by
 cases u with
 | ref a => exact h a x
 | none => trivial
 | bool b => trivial
 | int i t => trivial
 | str s t => trivial
 | bytes b t => trivial
 | _ => exact False.elim x
theorem relV_toV {A : List Addr} {u : Value} (x : OkU A u) : RelV (toV u) u := by
 cases u with
 | ref a => rfl
 | none => rfl
 | bool b => rfl
 | int i t => exact ⟨t,rfl⟩
 | str s t => exact ⟨t,rfl⟩
 | bytes b t => exact ⟨t,rfl⟩
 | _ => exact False.elim x
theorem vals_toV {A : List Addr} : ∀ {vs : List Value},(∀ u ∈ vs,OkU A u) -> Vals (vs.map toV) vs
 | [],_ => .nil
 | u :: r,h => .cons (relV_toV (h u (List.mem_cons_self ..))) (vals_toV fun x hx => h x (List.mem_cons_of_mem _ hx))
def ArgOb (h : Heap) (A : List Addr) (a : Addr) : Prop := ∃ vs : List Value,vs.length <= sizeLine /\ (∀ u ∈ vs,OkU A u) /\
 (h.get? a = some { cls := .type "list",data := .seq vs.toArray } \/ h.get? a = some { cls := .type "tuple",data := .seq vs.toArray })
theorem ArgOb.mono {h : Heap} {A B : List Addr} {a : Addr} (k : ∀ a ∈ A,a ∈ B) (x : ArgOb h A a) : ArgOb h B a := by
 obtain ⟨vs,h1,h2,h3⟩ := x
 exact ⟨vs,h1,fun u hu => (h2 u hu).mono k,h3⟩
theorem wellAll_len {P : Params} {h : Heap} : ∀ {vs : List Value} {ds : List WData},WellAll P h vs ds -> vs.length = ds.length
 | _,_,.nil => rfl
 | _,_,.cons _ b => by
  show _ + 1 = _ + 1
  rw [wellAll_len b]
theorem well_list {P : Params} {h : Heap} {v : Value} {ds : List WData} (x : Well P h v (.list ds)) : ∃ (a : Addr) (vs : List Value),v = .ref a /\ h.get? a = some { cls := .type "list",data := .seq vs.toArray } /\ WellAll P h vs ds := by
 cases x with
 | list ho hall => exact ⟨_,_,rfl,ho,hall⟩
theorem well_tuple {P : Params} {h : Heap} {v : Value} {ds : List WData} (x : Well P h v (.tuple ds)) : ∃ (a : Addr) (vs : List Value),v = .ref a /\ h.get? a = some { cls := .type "tuple",data := .seq vs.toArray } /\ WellAll P h vs ds := by
 cases x with
 | tuple ho hall => exact ⟨_,_,rfl,ho,hall⟩
theorem well_cons {P : Params} {h : Heap} {us : List Value} {d : WData} {ds : List WData} (x : WellAll P h us (d :: ds)) : ∃ (v : Value) (vs : List Value),us = v :: vs /\ Well P h v d /\ WellAll P h vs ds := by
 cases x with
 | cons a b => exact ⟨_,_,rfl,a,b⟩
theorem line_of {n : Nat} (h : n <= 1048576) : n <= sizeLine := Nat.le_trans h (by decide)
section
variable {P : Params} {h : Heap}
mutual
theorem area_one : ∀ (d : WData) (v : Value),Well P h v d -> plW d = true -> d.weight <= 1048576 -> ∃ A : List Addr,OkU A v /\ ∀ a ∈ A,ArgOb h A a
 | .none,_,x,_,_ => by
  cases x
  exact ⟨[],trivial,fun a m => absurd m (by simp)⟩
 | .bool b,_,x,_,_ => by
  cases x
  exact ⟨[],trivial,fun a m => absurd m (by simp)⟩
 | .int i,_,x,_,_ => by
  cases x
  exact ⟨[],trivial,fun a m => absurd m (by simp)⟩
 | .str s,_,x,_,_ => by
  cases x
  exact ⟨[],trivial,fun a m => absurd m (by simp)⟩
 | .bytes b,_,x,_,_ => by
  cases x
  exact ⟨[],trivial,fun a m => absurd m (by simp)⟩
 | .list ds,_,x,p,z => by
  obtain ⟨a,vs,rfl,ho,hall⟩ := well_list x
  have z2 : WData.weightAll ds <= 1048576 := z
  obtain ⟨A,h1,h2⟩ := area_all ds _ hall p fun d hd => Nat.le_trans (weight_mem hd) z2
  have k : ∀ b ∈ A,b ∈ a :: A := fun b hb => List.mem_cons_of_mem _ hb
  refine ⟨a :: A,List.mem_cons_self ..,fun b hb => ?_⟩
  rcases List.mem_cons.mp hb with e | m
  ·rw [e]
   exact ⟨vs,line_of (by rw [wellAll_len hall]; exact Nat.le_trans (PySem.W.length_le_weightAllW ds) z2),fun u hu => (h1 u hu).mono k,.inl ho⟩
  ·exact (h2 b m).mono k
 | .tuple ds,_,x,p,z => by
  obtain ⟨a,vs,rfl,ho,hall⟩ := well_tuple x
  have z2 : WData.weightAll ds <= 1048576 := z
  obtain ⟨A,h1,h2⟩ := area_all ds _ hall p fun d hd => Nat.le_trans (weight_mem hd) z2
  have k : ∀ b ∈ A,b ∈ a :: A := fun b hb => List.mem_cons_of_mem _ hb
  refine ⟨a :: A,List.mem_cons_self ..,fun b hb => ?_⟩
  rcases List.mem_cons.mp hb with e | m
  ·rw [e]
   exact ⟨vs,line_of (by rw [wellAll_len hall]; exact Nat.le_trans (PySem.W.length_le_weightAllW ds) z2),fun u hu => (h1 u hu).mono k,.inr ho⟩
  ·exact (h2 b m).mono k
 | .float _,_,_,p,_ => Bool.noConfusion (show false = true from p)
 | .dict _,_,_,p,_ => Bool.noConfusion (show false = true from p)
 | .bytearray _,_,_,p,_ => Bool.noConfusion (show false = true from p)
 | .set _,_,_,p,_ => Bool.noConfusion (show false = true from p)
 | .frozenset _,_,_,p,_ => Bool.noConfusion (show false = true from p)
 | .obj _ _,_,_,p,_ => Bool.noConfusion (show false = true from p)
theorem area_all : ∀ (ds : List WData) (vs : List Value),WellAll P h vs ds -> plWs ds = true -> (∀ d ∈ ds,d.weight <= 1048576) -> ∃ A : List Addr,(∀ u ∈ vs,OkU A u) /\ ∀ a ∈ A,ArgOb h A a
 | [],_,x,_,_ => by
  cases x
  exact ⟨[],fun u m => absurd m (by simp),fun a m => absurd m (by simp)⟩
 | d :: ds,_,x,p,z => by
  obtain ⟨v,vs,rfl,x1,x2⟩ := well_cons x
  have q : plW d = true /\ plWs ds = true := Bool.and_eq_true_iff.mp p
  obtain ⟨A,a1,a2⟩ := area_one d v x1 q.1 (z d (List.mem_cons_self ..))
  obtain ⟨B,b1,b2⟩ := area_all ds vs x2 q.2 fun e he => z e (List.mem_cons_of_mem _ he)
  have kA : ∀ b ∈ A,b ∈ A ++ B := fun b hb => List.mem_append.mpr (.inl hb)
  have kB : ∀ b ∈ B,b ∈ A ++ B := fun b hb => List.mem_append.mpr (.inr hb)
  refine ⟨A ++ B,fun u hu => ?_,fun b hb => ?_⟩
  ·rcases List.mem_cons.mp hu with e | m
   ·rw [e]
    exact a1.mono kA
   ·exact (b1 u m).mono kB
  ·rcases List.mem_append.mp hb with m | m
   ·exact (a2 b m).mono kA
   ·exact (b2 b m).mono kB
end
end
def hoOf (o : Obj) : Option HO := match o.data with
 | .seq vs _ => if (o.cls == Value.type "list") = true then some (.frz o (.lst (vs.toList.map toV))) else some (.frz o (.tup (vs.toList.map toV)))
 | _ => none
def argH (K : PySem.W.Frag) (h : Heap) (A : List Addr) : Hp := fun b => if b ∈ A then (if (K.lookup b).isNone = true then (h.get? b).bind hoOf else none) else none
def OnlyF (H : Hp) : Prop := ∀ b,H b = none \/ ∃ o u,H b = some (.frz o u)
theorem hoOf_lst (vs : List Value) : hoOf { cls := .type "list",data := .seq vs.toArray } = some (.frz { cls := .type "list",data := .seq vs.toArray } (.lst (vs.map toV))) := by
 show (if (Value.type "list" == Value.type "list") = true then some (HO.frz { cls := .type "list",data := .seq vs.toArray } (.lst (vs.toArray.toList.map toV))) else some (HO.frz { cls := .type "list",data := .seq vs.toArray } (.tup (vs.toArray.toList.map toV)))) = _
 rw [if_pos (beq_self_eq_true _)]
theorem hoOf_tup (vs : List Value) : hoOf { cls := .type "tuple",data := .seq vs.toArray } = some (.frz { cls := .type "tuple",data := .seq vs.toArray } (.tup (vs.map toV))) := by
 show (if (Value.type "tuple" == Value.type "list") = true then some (HO.frz { cls := .type "tuple",data := .seq vs.toArray } (.lst (vs.toArray.toList.map toV))) else some (HO.frz { cls := .type "tuple",data := .seq vs.toArray } (.tup (vs.toArray.toList.map toV)))) = _
 rw [if_neg (by decide)]
section
variable {P : Program} {w : World} {K : PySem.W.Frag} {h : Heap} {A : List Addr}
theorem argH_at {b : Addr} {o : Obj} (hb : b ∈ A) (hk : K.lookup b = none) (e : h.get? b = some o) : argH K h A b = hoOf o := by
 unfold argH
 rw [if_pos hb,hk,if_pos (show (none : Option Obj).isNone = true from rfl),e] <;> rfl
theorem of_argH {b : Addr} {u : HO} (q : argH K h A b = some u) : b ∈ A /\ K.lookup b = none := by
 unfold argH at q
 by_cases hb : b ∈ A
 ·rw [if_pos hb] at q
  cases hk : K.lookup b with
  | none => exact ⟨hb,rfl⟩
  | some o =>
   rw [hk,if_neg (by simp)] at q
   cases q
 ·rw [if_neg hb] at q
  cases q
theorem argH_is (ar : ∀ a ∈ A,ArgOb h A a) {b : Addr} {u : HO} (q : argH K h A b = some u) : K.lookup b = none /\ ∃ vs : List Value,vs.length <= sizeLine /\ (∀ u ∈ vs,OkU A u) /\
    ((h.get? b = some { cls := .type "list",data := .seq vs.toArray } /\ u = .frz { cls := .type "list",data := .seq vs.toArray } (.lst (vs.map toV))) \/
     (h.get? b = some { cls := .type "tuple",data := .seq vs.toArray } /\ u = .frz { cls := .type "tuple",data := .seq vs.toArray } (.tup (vs.map toV)))) := by
  obtain ⟨hb,hk⟩ := of_argH q
  obtain ⟨vs,h1,h2,h3⟩ := ar b hb
  refine ⟨hk,vs,h1,h2,?_⟩
  rcases h3 with e | e
  · rw [argH_at hb hk e,hoOf_lst] at q
    exact .inl ⟨e,(Option.some.inj q).symm⟩
  · rw [argH_at hb hk e,hoOf_tup] at q
    exact .inr ⟨e,(Option.some.inj q).symm⟩
theorem argH_only (ar : ∀ a ∈ A,ArgOb h A a) : OnlyF (argH K h A) := fun b => by
 cases q : argH K h A b with
 | none => exact .inl rfl
 | some u =>
  obtain ⟨_,vs,_,_,⟨_,e⟩ | ⟨_,e⟩⟩ := argH_is ar q
  ·exact .inr ⟨_,_,by rw [e]⟩
  ·exact .inr ⟨_,_,by rw [e]⟩
theorem argH_ok (ar : ∀ a ∈ A,ArgOb h A a) : HOk P w (argH K h A) h := fun b u q => by
 obtain ⟨_,vs,h1,h2,⟨e,rfl⟩ | ⟨e,rfl⟩⟩ := argH_is ar q
 ·exact ⟨e,by rw [List.length_map]; exact h1,vs,_,vals_toV h2,e⟩
 ·exact ⟨e,by rw [List.length_map]; exact h1,vs,vals_toV h2,_,e,rfl,_,rfl⟩
theorem seq_inj {c c' : Value} {vs us : List Value} (e : (some { cls := c,data := .seq vs.toArray } : Option Obj) = some { cls := c',data := .seq us.toArray }) : c = c' /\ vs = us := by
 have e1 := Option.some.inj e
 have e2 : c = c' := congrArg Obj.cls e1
 have e3 : Data.seq vs.toArray = Data.seq us.toArray := congrArg Obj.data e1
 injection e3 with e4
 refine ⟨e2,?_⟩
 have e5 := congrArg Array.toList e4
 simpa using e5
theorem argL (KX : K.In h) (ar : ∀ a ∈ A,ArgOb h A a) {a : Addr} {vs : List Value} (ha : a ∈ A) (e : h.get? a = some { cls := .type "list",data := .seq vs.toArray }) : (∀ u ∈ vs,OkU A u) /\ SqL K (argH K h A) a (vs.map toV) := by
 obtain ⟨us,h1,h2,h3⟩ := ar a ha
 have hu : us = vs := by
  rcases h3 with q | q
  ·rw [e] at q
   exact (seq_inj q).2.symm
  ·rw [e] at q
   exact absurd (Value.type.inj (seq_inj q).1) (by decide)
 subst hu
 refine ⟨h2,?_⟩
 cases hk : K.lookup a with
 | none => exact .inl (.inr ⟨_,by rw [argH_at ha hk e,hoOf_lst]⟩)
 | some o =>
  have e2 := KX a o hk
  rw [e] at e2
  obtain rfl := Option.some.inj e2
  exact .inr ⟨_,us.toArray,_,hk,rfl,rfl,rfl,by rw [List.size_toArray]; exact h1,by simpa using vals_toV h2⟩
theorem argT (KX : K.In h) (ar : ∀ a ∈ A,ArgOb h A a) {a : Addr} {vs : List Value} (ha : a ∈ A) (e : h.get? a = some { cls := .type "tuple",data := .seq vs.toArray }) : (∀ u ∈ vs,OkU A u) /\ SqT K (argH K h A) a (vs.map toV) := by
 obtain ⟨us,h1,h2,h3⟩ := ar a ha
 have hu : us = vs := by
  rcases h3 with q | q
  ·rw [e] at q
   exact absurd (Value.type.inj (seq_inj q).1) (by decide)
  ·rw [e] at q
   exact (seq_inj q).2.symm
 subst hu
 refine ⟨h2,?_⟩
 cases hk : K.lookup a with
 | none => exact .inl (.inr ⟨_,by rw [argH_at ha hk e,hoOf_tup]⟩)
 | some o =>
  have e2 := KX a o hk
  rw [e] at e2
  obtain rfl := Option.some.inj e2
  exact .inr ⟨_,us.toArray,_,hk,rfl,rfl,by rw [List.size_toArray]; exact h1,by simpa using vals_toV h2⟩
mutual
theorem dw_one {Pm : Params} (KX : K.In h) (ar : ∀ a ∈ A,ArgOb h A a) : ∀ (d : WData) (v : Value),Well Pm h v d -> plW d = true -> OkU A v -> Dw K (argH K h A) (toV v) d
 | .none,_,x,_,_ => by
  cases x
  exact .non
 | .bool b,_,x,_,_ => by
  cases x
  exact .bl b
 | .int i,_,x,_,_ => by
  cases x
  exact .int i
 | .str s,_,x,_,_ => by
  cases x
  exact .str s
 | .bytes b,_,x,_,_ => by
  cases x
  have z := Dw.byt (K := K) (H := argH K h A) b.toArray
  exact z
 | .list ds,_,x,p,hu => by
  obtain ⟨a,vs,rfl,ho,hall⟩ := well_list x
  obtain ⟨h2,hs⟩ := argL KX ar hu ho
  exact .lst hs (dw_all KX ar ds _ hall p h2)
 | .tuple ds,_,x,p,hu => by
  obtain ⟨a,vs,rfl,ho,hall⟩ := well_tuple x
  obtain ⟨h2,hs⟩ := argT KX ar hu ho
  exact .tup hs (dw_all KX ar ds _ hall p h2)
 | .float _,_,_,p,_ => Bool.noConfusion (show false = true from p)
 | .dict _,_,_,p,_ => Bool.noConfusion (show false = true from p)
 | .bytearray _,_,_,p,_ => Bool.noConfusion (show false = true from p)
 | .set _,_,_,p,_ => Bool.noConfusion (show false = true from p)
 | .frozenset _,_,_,p,_ => Bool.noConfusion (show false = true from p)
 | .obj _ _,_,_,p,_ => Bool.noConfusion (show false = true from p)
theorem dw_all {Pm : Params} (KX : K.In h) (ar : ∀ a ∈ A,ArgOb h A a) : ∀ (ds : List WData) (vs : List Value),WellAll Pm h vs ds -> plWs ds = true -> (∀ u ∈ vs,OkU A u) -> DwAll K (argH K h A) (vs.map toV) ds
 | [],_,x,_,_ => by
  cases x
  exact .nil
 | d :: ds,_,x,p,hu => by
  obtain ⟨v,vs,rfl,x1,x2⟩ := well_cons x
  have q : plW d = true /\ plWs ds = true := Bool.and_eq_true_iff.mp p
  exact .cons (dw_one KX ar d v x1 q.1 (hu _ (List.mem_cons_self ..))) (dw_all KX ar ds vs x2 q.2 fun u m => hu u (List.mem_cons_of_mem _ m))
end
end
theorem spec_call {P : Program} {w : World} {K : PySem.W.Frag} {mg mb : Str -> Option Value} {CX : CXT} {k : Nat} {fa : Addr} {fd : FuncData} {ps : List Str} {sp : Sp} {s₁ : Shared} {vals : List Value} {ds : List WData} {R : PySem.W.WRecords} {cl : Str -> Option Addr} {d0 : WData}
  (KX : K.In s₁.heap) (hns : s₁.heap.Ns mainGlobals mg) (hb : s₁.heap.Ns builtinsNs mb) (hbb : ∀ x : Str,x ≠ "__name__" -> mb x = bootBuiltins x) (hlim : s₁.heap.NoLimit) (hdig : s₁.heap.NoDigits) (hg : s₁.gens = #[])
  (hwl : WellAll w.params s₁.heap vals ds) (hpl : plWs ds = true) (hwt : ∀ d ∈ ds,d.weight <= 1048576) (hr : Room k callerA)
  (F : ∀ base : Heap,K.In base -> base.Ns mainGlobals mg -> FnOk P w K mg base CX k fa fd ps sp) (hbind : ∀ (s : Shared) (us : List Value),us.length = ps.length -> BindsTo s fd ⟨us,[]⟩ (ps.zip us)) (hlen : ds.length = ps.length)
  (hsp : ∀ (H : Hp) (xs : List V),OnlyF H -> DwAll K H xs ds -> sp xs H (fun v H' => Dw K H' v d0) fun _ _ _ => False)
  (hCX : ∀ H e s',CX [] H s₁ (fun _ _ _ => False) e s' -> False) :
  codeAny (model P w) callerA (.call (.ref fa) ⟨vals,[]⟩) (fun r s' => ∃ u as,r = .ok (.ret u) /\ ReadsW R cl s'.heap u d0 as /\ OldK s₁.heap s'.heap /\ s'.os = s₁.os /\ AllBare s'.gens) s₁ := by
 obtain ⟨A,ho,ar⟩ := area_all ds vals hwl hpl hwt
 have hO : OnlyF (argH K s₁.heap A) := argH_only ar
 have hok : HOk P w (argH K s₁.heap A) s₁.heap := argH_ok ar
 have hS := dw_all KX ar ds vals hwl hpl ho
 have hV := vals_toV ho
 have hK : ∀ b u,argH K s₁.heap A b = some u -> K.lookup b = none := fun b u q => (argH_is ar q).1
 have noA : ∀ {b : Addr} {o : Obj} {es : Array DictEntry} {ep : Nat},s₁.heap.get? b = some o -> o.data = .dict es ep -> argH K s₁.heap A b = none := fun {b o es ep} e d => by
  cases q : argH K s₁.heap A b with
  | none => rfl
  | some u =>
   obtain ⟨_,vs,_,_,⟨e2,_⟩ | ⟨e2,_⟩⟩ := argH_is ar q
   ·rw [e2] at e
    cases e
    have d' : Data.seq vs.toArray _ = Data.dict es ep := d
    cases d'
   ·rw [e2] at e
    cases e
    have d' : Data.seq vs.toArray _ = Data.dict es ep := d
    cases d'
 generalize argH K s₁.heap A = H at hO hok hS hK noA
 have base_of : ∀ {b : Addr} {o : Obj},s₁.heap.get? b = some o -> H b = none -> (hidT s₁.heap H).get? b = some o := fun e n => hidT_get e n
 have nsK : ∀ {b : Addr} {m : Str -> Option Value},s₁.heap.Ns b m -> (hidT s₁.heap H).Ns b m := fun {b m} ⟨o,es,ep,e,d,r⟩ => ⟨o,es,ep,base_of e (noA e d),d,r⟩
 have nK : ∀ b o,K.lookup b = some o -> H b = none := fun b o e => by
  cases q : H b with
  | none => rfl
  | some u =>
   rw [hK b u q] at e
   cases e
 have hKb : K.In (hidT s₁.heap H) := fun b o e => base_of (KX b o e) (nK b o e)
 have hM : Mod K mg (hidT s₁.heap H) := ⟨hKb,nsK hns,⟨mb,nsK hb,hbb⟩,let ⟨mc,h1,h2⟩ := hlim; ⟨mc,nsK h1,h2⟩,let ⟨mc,h1,h2⟩ := hdig; ⟨mc,nsK h1,h2⟩⟩
 have e0 : Env0 P w K mg (hidT s₁.heap H) callerA [] s₁ H := ⟨rfl,hM,fun b o e => of_hidT e,Nat.le_of_eq (hidT_size _ _),trivial,fun b hb => absurd (show b ∈ ([] : List Addr) from hb) (by simp),hok,.of_eq hg⟩
 have hl : vals.length = ps.length := by rw [wellAll_len hwl]; exact hlen
 refine codeAny_mono ((F _ hKb (nsK hns)).run callerA [] s₁ H ⟨vals,[]⟩ vals (vals.map toV) _ _ hr e0 (hbind s₁ vals hl) hV (hsp H _ hO hS)) fun r s' x => ?_
 cases r with
 | error e => exact (hCX H e s' x).elim
 | ok fl =>
  cases fl with
  | next => exact False.elim x
  | brk => exact False.elim x
  | cont => exact False.elim x
  | ret u =>
   obtain ⟨v,H',os,bare,un,hok',r',q⟩ := x
   have kept : ∀ b o,s₁.heap.get? b = some o -> s'.heap.get? b = some o := fun b o e => by
    cases q2 : H b with
    | none => exact un.keep b o e q2 (by intro z; exact absurd (show b ∈ ([] : List Addr) from z) (by simp)) (by simp)
    | some u2 =>
     rcases hO b with z | ⟨ob,u3,z⟩
     ·rw [q2] at z
      cases z
     ·have z2 := un.frzs b ob _ z
      obtain ⟨e1,_⟩ := hok b _ z
      obtain ⟨e2,_⟩ := hok' b _ z2
      rw [e] at e1
      cases e1
      exact e2
   have KX' : K.In s'.heap := fun b o e => kept b o (KX b o e)
   obtain ⟨as,hrd⟩ := Dw.reads (R := R) (cl := cl) hok' KX' d0 v u q r'
   exact ⟨u,as,rfl,hrd,OldK.of_keep kept,os,bare⟩
theorem layable_weight {ds : List WData} (h : WData.layableAll ds = true) : ∀ d ∈ ds,d.weight <= 1048576 := fun d hd =>
 (PySem.W.layableW_iff.mp (List.all_eq_true.mp h d hd)).2.2
theorem encAll_len : ∀ (cs : List Codec) (a : Codec.denoteAll cs),(Codec.encAll cs a).length = cs.length
 | [],_ => rfl
 | c :: cs,a => by
  show (Codec.encAll cs a.2).length + 1 = cs.length + 1
  rw [encAll_len cs a.2]
theorem walk_spec {r : OpenSpec} {k : Nat} {q : Program} {loose : List Str} {XP : (Str -> Option Value) -> Heap -> Prop} {YP : World -> Heap -> Prop} {d : DefRec} {K : Params -> PySem.W.Frag} {CX : World -> CXT} {ps : List Str} {sp : World -> Sp}
  (hwell : r.wellSaid = true) (hdf : d.params.defaults = []) (hlen : r.args.length = ps.length) (hr : Room k callerA)
  (hY : ∀ (w : World) (h : Heap),YP w h -> (K w.params).In h)
  (F : ∀ (w : World) (mg : Str -> Option Value) (fa : Addr) (h : Heap),YP w h -> (K w.params).In h -> h.Ns mainGlobals mg -> mg d.name = some (.ref fa) ->
   ∃ fd : FuncData,(∀ (s : Shared) (us : List Value),us.length = ps.length -> BindsTo s fd ⟨us,[]⟩ (ps.zip us)) /\
    ∀ base : Heap,(K w.params).In base -> base.Ns mainGlobals mg -> FnOk r.prog w (K w.params) mg base (CX w) k fa fd ps (sp w))
  (hsp : ∀ (w : World) (H : Hp) (xs : List V) (a : Codec.denoteAll r.args),OnlyF H -> Codec.withinAll r.args a = true -> Codec.app r.args r.asked a = true -> DwAll (K w.params) H xs (Codec.encAll r.args a) ->
   sp w xs H (fun v H' => Dw (K w.params) H' v (r.ret.enc (Codec.app r.args r.f a))) fun _ _ _ => False)
  (hCX : ∀ (w : World) (H : Hp) (s : Shared) (e : Value) (s' : Shared),CX w [] H s (fun _ _ _ => False) e s' -> False) :
  PySem.W.WalkOS q loose XP YP r d [] (fun f vs => PySem.call f vs) := by
 intro w s_0 s₁ mg mb G Y fa o pm cd doc dV kV ho hd hcd hD hmg hg args vals as hpre hlay hrd hwl hlo
 obtain ⟨a,e1,e2⟩ := PySem.W.os_pre_some hpre
 obtain ⟨e3,hwi⟩ := Codec.encAll_of_decAll r.args args a e1
 subst e3
 have KX := hY w _ Y
 obtain ⟨fd,hb,hF⟩ := F w mg fa _ Y KX G.T.g hmg
 refine PySem.W.enter_call (codeAny_mono (spec_call (R := []) (cl := classAt s_0.heap) (d0 := r.ret.enc (Codec.app r.args r.f a)) KX G.T.g G.T.b G.T.builtins G.T.nolimit G.T.nodigits hg hwl (pl_encAll _ _) (layable_weight hlay) hr hF hb (by rw [encAll_len]; exact hlen)
  (fun H xs hO hS => hsp w H xs a hO hwi e2 hS) fun H e s' => hCX w H s₁ e s') fun r' s' hq => ?_)
 obtain ⟨u,as',rfl,h1,h2,h3,h4⟩ := hq
 exact ⟨.inl ⟨u,_,as',rfl,fun _ => rfl,h1,(OpenSpec.post_iff hwell hwi _ _).mpr rfl,fun z => Bool.noConfusion (show false = true from z)⟩,h2,h3,h4⟩
theorem walk_specK {r : OpenSpec} {k : Nat} {q : Program} {loose : List Str} {XP : (Str -> Option Value) -> Heap -> Prop} {YP : World -> Heap -> Prop} {d : DefRec} {K : Params -> PySem.W.Frag} {CX : CXT} {ps : List Str} {sp : PySem.W.Frag -> Sp}
  (hwell : r.wellSaid = true) (hdf : d.params.defaults = []) (hlen : r.args.length = ps.length) (hr : Room k callerA)
  (hY : ∀ (w : World) (h : Heap),YP w h -> (K w.params).In h)
  (F : ∀ (w : World) (mg : Str -> Option Value) (fa : Addr) (h : Heap),YP w h -> (K w.params).In h -> h.Ns mainGlobals mg -> mg d.name = some (.ref fa) ->
   ∃ fd : FuncData,(∀ (s : Shared) (us : List Value),us.length = ps.length -> BindsTo s fd ⟨us,[]⟩ (ps.zip us)) /\
    ∀ base : Heap,(K w.params).In base -> base.Ns mainGlobals mg -> FnOk r.prog w (K w.params) mg base CX k fa fd ps (sp (K w.params)))
  (hsp : ∀ (K : PySem.W.Frag) (H : Hp) (xs : List V) (a : Codec.denoteAll r.args),OnlyF H -> Codec.withinAll r.args a = true -> Codec.app r.args r.asked a = true -> DwAll K H xs (Codec.encAll r.args a) ->
   sp K xs H (fun v H' => Dw K H' v (r.ret.enc (Codec.app r.args r.f a))) fun _ _ _ => False)
  (hCX : ∀ (H : Hp) (s : Shared) (e : Value) (s' : Shared),CX [] H s (fun _ _ _ => False) e s' -> False) :
  PySem.W.WalkOS q loose XP YP r d [] (fun f vs => PySem.call f vs) :=
 walk_spec (K := K) (CX := fun _ => CX) (sp := fun w => sp (K w.params)) hwell hdf hlen hr hY F (fun w H xs a h1 h2 h3 h4 => hsp (K w.params) H xs a h1 h2 h3 h4) fun _ H s e s' => hCX H s e s'
end L2
namespace L2
open PySem PySem.Spec PyProof.Rows
def inClass (s : Stmt) (j : Nat) : Stmt := match s with
 | .ClassDef _ _ _ body _ _ _ _ _ _ _ => body.getD j (.Pass ⟨0,0,0,0⟩)
 | _ => .Pass ⟨0,0,0,0⟩
def defArgs (s : Stmt) : Arguments := match s with
 | .FunctionDef _ a _ _ _ _ _ _ _ _ => a
 | _ => { posonlyargs := [],args := [],vararg := none,kwonlyargs := [],kw_defaults := [],kwarg := none,defaults := [] }
def defBody (s : Stmt) : List Stmt := match s with
 | .FunctionDef _ _ b _ _ _ _ _ _ _ => b
 | _ => []
def defScope (s : Stmt) : Scope := match s with
 | .FunctionDef _ _ _ _ _ _ sc _ _ _ => sc
 | _ => { kind := .function,names := [],isGenerator := false,isCoroutine := false }
abbrev CX0 : CXT := fun _ _ _ _ _ _ => False
abbrev E0 : XK := fun _ _ _ => False
theorem pass0 {X : Cx} : Passes CX0 X E0 := fun _ _ _ _ _ _ _ h => h.elim
structure Fun (K : PySem.W.Frag) (x qual : Str) (st : Stmt) (f : Addr) (fd : FuncData) : Prop where
 ex : ∃ (oc : Value) (od : Option Addr) (kV doc pm : Value) (an : Option Addr) (cdv ct : Value) (osl : Array (Option Value)),
  fd = PySem.W.fnOf x qual (defArgs st) (defBody st) (defScope st) .none kV doc pm an cdv ct /\ K.lookup f = some ⟨oc,od,.func fd,osl⟩ /\ PySem.W.codeIn K cdv qual = true
 kp : PySem.W.keepIn K (.ref f) = true
section
variable {P : Program} {w : World} {K : PySem.W.Frag} {mg : Str -> Option Value} {base : Heap}
theorem Fun.ok {x qual : Str} {st : Stmt} {f : Addr} {fd : FuncData} {N ps : List Str} {k : Nat} {sp : Sp} (F : Fun K x qual st f fd) (S : FnScope N ps (defScope st)) (len : ∀ vs H Q E,sp vs H Q E -> vs.length = ps.length)
  (hbody : ∀ (cdv : Value) (A : Around) (outer : List Env) (s : Shared) (H : Hp) (vs : List V) (Q : VK) (E : XK),Room k (A.deeper (envOfC qual (defScope st) s.heap.objs.size f cdv)) -> sp vs H Q E ->
   ∃ t,PSs (cxOf CX0 P w K mg base N qual (defScope st) f cdv A outer s H E).nox (defBody st) t /\ t { nx := fun _ H' => Q .non H',rt := Q } (start N vs) H) : FnOk P w K mg base CX0 (k + 1) f fd ps sp := by
 obtain ⟨oc,od,kV,doc,pm,an,cdv,ct,osl,rfl,lk,hcd⟩ := F.ex
 refine fn_of lk hcd S len fun A outer s H vs Q E hr hsp => ?_
 obtain ⟨t,h,q⟩ := hbody cdv A outer s H vs Q E hr hsp
 exact ⟨t,h.nox,q⟩
theorem Fun.binds {x qual : Str} {st : Stmt} {f : Addr} {fd : FuncData} {ps : List Str} (F : Fun K x qual st f fd)
  (h : ∀ (kV doc pm : Value) (an : Option Addr) (cdv ct : Value) (us : List Value),us.length = ps.length -> bindArgs (PySem.W.fnOf x qual (defArgs st) (defBody st) (defScope st) .none kV doc pm an cdv ct) ⟨us,[]⟩ = pure (ps.zip us)) : Binds K fd ps [] := by
 obtain ⟨oc,od,kV,doc,pm,an,cdv,ct,osl,rfl,lk,hcd⟩ := F.ex
 exact .all (h kV doc pm an cdv ct)
theorem fun_mk {x qual : Str} {st : Stmt} {f : Addr} {oc : Value} {od an : Option Addr} {osl : Array (Option Value)} {kV doc pm cdv ct : Value} (l : K.lookup f = some ⟨oc,od,.func (PySem.W.fnOf x qual (defArgs st) (defBody st) (defScope st) .none kV doc pm an cdv ct),osl⟩)
  (c : PySem.W.codeIn K cdv qual = true) (k : PySem.W.keepIn K (.ref f) = true) : Fun K x qual st f (PySem.W.fnOf x qual (defArgs st) (defBody st) (defScope st) .none kV doc pm an cdv ct) := ⟨⟨oc,od,kV,doc,pm,an,cdv,ct,osl,rfl,l,c⟩,k⟩
end
theorem small1000 {n : Nat} (h : n <= 1000) : n < sizeLine := Nat.lt_of_le_of_lt h (by decide)
section
variable {X : Cx}
theorem pv (i : Nat) {x : Str} {pos : Pos} (hN : X.N[i]? = some x := by rfl) (hv : Vis X.env.scope x := by first | exact Or.inl rfl | exact Or.inr (Or.inl rfl) | exact Or.inr (Or.inr rfl)) (hd : (x == ("__debug__" : Str)) = false := by decide)
  (hcd : (x == ("__classdict__" : Str)) = false := by decide) : PE X (.Name x pos) (tVar i) := pe_var hN hv hd hcd
end
theorem iteF {A B : Prop} (h : B) : if false = true then A else B := by
 rw [if_neg Bool.false_ne_true]
 exact h
theorem iteT {A B : Prop} (h : A) : if true = true then A else B := by
 rw [if_pos rfl]
 exact h
def Same (H H' : Hp) : Prop := ∀ b o,H b = some o -> H' b = some o
theorem Same.refl (H : Hp) : Same H H := fun _ _ h => h
theorem Same.trans {H H1 H2 : Hp} (a : Same H H1) (b : Same H1 H2) : Same H H2 := fun c o h => b c o (a c o h)
theorem Same.free {H H' : Hp} (e : Same H H') {l : Addr} (h : H' l = Option.none) : H l = Option.none := by
 cases q : H l with
 | none => rfl
 | some o =>
  rw [e l o q] at h
  cases h
theorem Same.seq {K : PySem.W.Frag} {H H' : Hp} {a : Addr} {xs : List V} (e : Same H H') (h : SqL K H a xs) : SqL K H' a xs := by
 rcases h with (h | ⟨o,h⟩) | h
 ·exact .inl (.inl (e _ _ h))
 ·exact .inl (.inr ⟨o,e _ _ h⟩)
 ·exact .inr h
section
variable {κ : Type} [DecidableEq κ]
end
end L2
namespace CH
open Vbchal
def Wf (x : Frac) : Prop := 0 < x.den /\ Nat.gcd x.num.natAbs x.den = 1
def val (x : Frac) : Rat := mkRat x.num x.den
theorem gcd_pos {n : Int} {d : Nat} (h : 0 < d) : 0 < Nat.gcd n.natAbs d := Nat.gcd_pos_of_pos_right _ h
theorem lowest_den_pos {n : Int} {d : Nat} (h : 0 < d) : 0 < (lowest n d).den :=
 Nat.div_pos (Nat.le_of_dvd h (Nat.gcd_dvd_right _ _)) (gcd_pos h)
theorem lowest_wf (n : Int) {d : Nat} (h : 0 < d) : Wf (lowest n d) := by
 refine ⟨lowest_den_pos h,?_⟩
 show Nat.gcd (n / (Nat.gcd n.natAbs d : Int)).natAbs (d / Nat.gcd n.natAbs d) = 1
 have e : (n / (Nat.gcd n.natAbs d : Int)).natAbs = n.natAbs / Nat.gcd n.natAbs d := by
  rw [Int.natAbs_ediv_of_dvd (Int.ofNat_dvd_left.mpr (Nat.gcd_dvd_left _ _))]
  simp
 rw [e]
 exact Nat.gcd_div_gcd_div_gcd_of_pos_right h
theorem val_lowest (n : Int) {d : Nat} (h : 0 < d) : val (lowest n d) = mkRat n d := by
 show mkRat (n / (Nat.gcd n.natAbs d : Int)) (d / Nat.gcd n.natAbs d) = mkRat n d
 have g := gcd_pos (n := n) h
 have hd : d / Nat.gcd n.natAbs d ≠ 0 := Nat.ne_of_gt (lowest_den_pos h)
 rw [Rat.mkRat_eq_iff hd (Nat.ne_of_gt h)]
 have e1 : n / (Nat.gcd n.natAbs d : Int) * (Nat.gcd n.natAbs d : Int) = n := Int.ediv_mul_cancel (Int.ofNat_dvd_left.mpr (Nat.gcd_dvd_left _ _))
 have e2 : ((d / Nat.gcd n.natAbs d : Nat) : Int) * (Nat.gcd n.natAbs d : Int) = d := by
  rw [<- Int.natCast_mul,Nat.div_mul_cancel (Nat.gcd_dvd_right _ _)]
 generalize n / (Nat.gcd n.natAbs d : Int) = a at *
 generalize d / Nat.gcd n.natAbs d = b at *
 generalize Nat.gcd n.natAbs d = c at *
 rw [<- e1,<- e2]
 grind
theorem val_inj {x y : Frac} (hx : Wf x) (hy : Wf y) (h : val x = val y) : x = y := by
 obtain ⟨hx1,hx2⟩ := hx
 obtain ⟨hy1,hy2⟩ := hy
 have e1 : val x = ⟨x.num,x.den,Nat.ne_of_gt hx1,hx2⟩ := by
  unfold val; exact Rat.mkRat_self ⟨x.num,x.den,Nat.ne_of_gt hx1,hx2⟩
 have e2 : val y = ⟨y.num,y.den,Nat.ne_of_gt hy1,hy2⟩ := by
  unfold val; exact Rat.mkRat_self ⟨y.num,y.den,Nat.ne_of_gt hy1,hy2⟩
 rw [e1,e2] at h
 injection h with h1 h2
 cases x; cases y
 simp_all
theorem whole_wf (n : Int) : Wf (whole n) := ⟨Nat.one_pos,Nat.gcd_one_right _⟩
theorem val_whole (n : Int) : val (whole n) = (n : Rat) := by
 show mkRat n 1 = _
 exact Rat.mkRat_one n
theorem mkRat_div (n : Int) {d : Nat} (_h : 0 < d) : mkRat n d = (n : Rat) / (d : Rat) := by
 exact Rat.mkRat_eq_div n d
theorem cast_pos {d : Nat} (h : 0 < d) : (0 : Rat) < (d : Rat) := by
 exact_mod_cast h
theorem neg_wf {x : Frac} (h : Wf x) : Wf (neg x) := ⟨h.1,by show Nat.gcd (-x.num).natAbs x.den = 1; rw [Int.natAbs_neg]; exact h.2⟩
theorem add_wf {x y : Frac} (hx : Wf x) (hy : Wf y) : Wf (add x y) := lowest_wf _ (Nat.mul_pos hx.1 hy.1)
theorem sub_wf {x y : Frac} (hx : Wf x) (hy : Wf y) : Wf (sub x y) := add_wf hx (neg_wf hy)
theorem mul_wf {x y : Frac} (hx : Wf x) (hy : Wf y) : Wf (mul x y) := lowest_wf _ (Nat.mul_pos hx.1 hy.1)
theorem over_wf {x y : Frac} (hx : Wf x) (hy : y.num ≠ 0) : Wf (over x y) := lowest_wf _ (Nat.mul_pos hx.1 (Int.natAbs_pos.mpr hy))
theorem val_div {x : Frac} (h : Wf x) : val x = (x.num : Rat) / (x.den : Rat) := mkRat_div _ h.1
theorem den_ne {x : Frac} (h : Wf x) : (x.den : Rat) ≠ 0 := by
 have := cast_pos h.1
 grind
theorem val_add {x y : Frac} (hx : Wf x) (hy : Wf y) : val (add x y) = val x + val y := by
 unfold add
 rw [val_lowest _ (Nat.mul_pos hx.1 hy.1),mkRat_div _ (Nat.mul_pos hx.1 hy.1),val_div hx,val_div hy]
 have h1 := den_ne hx
 have h2 := den_ne hy
 push_cast
 grind
theorem val_neg {x : Frac} (hx : Wf x) : val (neg x) = - val x := by
 rw [val_div (neg_wf hx),val_div hx]
 show ((-x.num : Int) : Rat) / (x.den : Rat) = _
 have h1 := den_ne hx
 push_cast
 grind
theorem val_sub {x y : Frac} (hx : Wf x) (hy : Wf y) : val (sub x y) = val x - val y := by
 unfold sub
 rw [val_add hx (neg_wf hy),val_neg hy]
 grind
theorem val_mul {x y : Frac} (hx : Wf x) (hy : Wf y) : val (mul x y) = val x * val y := by
 unfold mul
 rw [val_lowest _ (Nat.mul_pos hx.1 hy.1),mkRat_div _ (Nat.mul_pos hx.1 hy.1),val_div hx,val_div hy]
 have h1 := den_ne hx
 have h2 := den_ne hy
 push_cast
 grind
theorem num_pos_of {y : Frac} (hy : Wf y) (h : 0 < val y) : 0 < y.num := by
 rw [val_div hy] at h
 have h1 := cast_pos hy.1
 have : (0 : Rat) < (y.num : Rat) := by
  have e : (y.num : Rat) = (y.num : Rat) / (y.den : Rat) * (y.den : Rat) := by grind
  rw [e]
  exact Rat.mul_pos h h1
 exact_mod_cast this
theorem over_pos {x y : Frac} (h : 0 < y.num) : over x y = lowest (x.num * (y.den : Int)) (x.den * y.num.natAbs) := by
 unfold over
 rw [if_neg (by omega)]
theorem val_over {x y : Frac} (hx : Wf x) (hy : Wf y) (h : 0 < y.num) : val (over x y) = val x / val y := by
 have hp : 0 < x.den * y.num.natAbs := Nat.mul_pos hx.1 (by omega)
 rw [over_pos h,val_lowest _ hp,mkRat_div _ hp,val_div hx,val_div hy]
 have h1 := den_ne hx
 have h2 := den_ne hy
 have h3 : (y.num : Rat) ≠ 0 := by
  have : (0 : Rat) < (y.num : Rat) := by exact_mod_cast h
  grind
 have h4 : ((y.num.natAbs : Nat) : Rat) = (y.num : Rat) := by
  have : ((y.num.natAbs : Nat) : Int) = y.num := by omega
  rw [<- this]
  norm_cast
 push_cast
 rw [h4]
 grind
theorem val_mk {x : Frac} (h : Wf x) : val x = ⟨x.num,x.den,Nat.ne_of_gt h.1,h.2⟩ := Rat.mkRat_self ⟨x.num,x.den,Nat.ne_of_gt h.1,h.2⟩
theorem le_iff {x y : Frac} (hx : Wf x) (hy : Wf y) : le x y = true ↔ val x <= val y := by
 unfold le
 rw [decide_eq_true_iff,val_mk hx,val_mk hy,Rat.le_iff]
theorem same_iff {x y : Frac} : same x y = true ↔ x = y := by
 unfold same
 cases x; cases y
 simp
theorem less_iff {x y : Frac} (hx : Wf x) (hy : Wf y) : less x y = true ↔ val x < val y := by
 unfold less
 rw [Bool.and_eq_true,le_iff hx hy,Bool.not_eq_true']
 constructor
 ·rintro ⟨h1,h2⟩
  refine Rat.lt_of_le_of_ne h1 fun e => ?_
  have := same_iff.mpr (val_inj hx hy e)
  rw [h2] at this
  cases this
 ·intro h
  refine ⟨Rat.le_of_lt h,?_⟩
  cases e : same x y with
  | false => rfl
  | true =>
   rw [same_iff.mp e] at h
   exact absurd h Rat.lt_irrefl
theorem cross_less {x y : Frac} (hx : Wf x) (hy : Wf y) : decide (x.num * (y.den : Int) < y.num * (x.den : Int)) = less x y := by
 rw [Bool.eq_iff_iff,decide_eq_true_iff,less_iff hx hy,val_mk hx,val_mk hy,Rat.lt_iff]
theorem le_not_less {x y : Frac} (hx : Wf x) (hy : Wf y) : (!less y x) = le x y := by
 rw [Bool.eq_iff_iff,Bool.not_eq_true',le_iff hx hy,<- Rat.not_lt,<- less_iff hy hx,Bool.not_eq_true]
theorem greater_by {x y : Frac} (hx : Wf x) (hy : Wf y) : (if less x y = true then y else x) = greater x y := by
 unfold greater
 by_cases h : less x y = true
 ·have h' := (less_iff hx hy).mp h
  rw [if_pos h,if_pos ((le_iff hx hy).mpr (Rat.le_of_lt h'))]
 ·rw [if_neg h]
  by_cases h2 : le x y = true
  ·rw [if_pos h2]
   have a := (le_iff hx hy).mp h2
   have b := Rat.not_lt.mp (fun z => h ((less_iff hx hy).mpr z))
   exact val_inj hx hy (Rat.le_antisymm a b)
  ·rw [if_neg h2]
theorem lesser_by {x y : Frac} (hx : Wf x) (hy : Wf y) : (if less x y = true then x else y) = lesser x y := by
 unfold lesser
 by_cases h : less x y = true
 ·have h' := (less_iff hx hy).mp h
  rw [if_pos h,if_pos ((le_iff hx hy).mpr (Rat.le_of_lt h'))]
 ·rw [if_neg h]
  by_cases h2 : le x y = true
  ·rw [if_pos h2]
   have a := (le_iff hx hy).mp h2
   have b := Rat.not_lt.mp (fun z => h ((less_iff hx hy).mpr z))
   exact (val_inj hx hy (Rat.le_antisymm a b)).symm
  ·rw [if_neg h2]
theorem greater_wf {x y : Frac} (hx : Wf x) (hy : Wf y) : Wf (greater x y) := by unfold greater; split <;> assumption
theorem lesser_wf {x y : Frac} (hx : Wf x) (hy : Wf y) : Wf (lesser x y) := by unfold lesser; split <;> assumption
theorem val_greater {x y : Frac} (hx : Wf x) (hy : Wf y) : val (greater x y) = max (val x) (val y) := by
 unfold greater
 by_cases h : le x y = true
 ·rw [if_pos h]; have := (le_iff hx hy).mp h; grind
 ·rw [if_neg h]; have := fun z => h ((le_iff hx hy).mpr z); grind
theorem val_lesser {x y : Frac} (hx : Wf x) (hy : Wf y) : val (lesser x y) = min (val x) (val y) := by
 unfold lesser
 by_cases h : le x y = true
 ·rw [if_pos h]; have := (le_iff hx hy).mp h; grind
 ·rw [if_neg h]; have := fun z => h ((le_iff hx hy).mpr z); grind
theorem taken_by {x : Frac} {a b : Nat} (hx : Wf x) (ha : 0 < a) : over (mul x (whole (b : Int))) (whole (a : Int)) = mul x (lowest (b : Int) a) := by
 have ha' : (0 : Int) < (whole (a : Int)).num := by show (0 : Int) < (a : Int); omega
 have w1 := mul_wf hx (whole_wf (b : Int))
 refine val_inj (over_wf w1 (by show (a : Int) ≠ 0; omega)) (mul_wf hx (lowest_wf _ ha)) ?_
 rw [val_over w1 (whole_wf _) ha',val_mul hx (whole_wf _),val_mul hx (lowest_wf _ ha),val_lowest _ ha,val_whole,val_whole,mkRat_div _ ha]
 have e : (((a : Nat) : Int) : Rat) = (a : Rat) := by norm_cast
 rw [e]
 have := cast_pos ha
 grind
end CH
namespace CH
open Vbchal
structure PtWf (p : Point) : Prop where
 q : Wf p.q
 v : Wf p.v
def Lt (p r : Point) : Prop := val p.q < val r.q
def SRow (l : List Point) : Prop := (∀ p ∈ l,PtWf p) /\ l.Pairwise Lt
theorem Point.ext' {p r : Point} (h1 : p.q = r.q) (h2 : p.v = r.v) : p = r := by
 cases p; cases r; simp_all
theorem SRow.nil : SRow [] := ⟨by simp,.nil⟩
theorem SRow.tail {p : Point} {l : List Point} (h : SRow (p :: l)) : SRow l := ⟨fun r hr => h.1 r (List.mem_cons_of_mem _ hr),(List.pairwise_cons.mp h.2).2⟩
theorem SRow.sub {l l' : List Point} (h : SRow l) (s : l'.Sublist l) : SRow l' := ⟨fun p hp => h.1 p (s.subset hp),h.2.sublist s⟩
theorem SRow.lt {p r : Point} {l : List Point} (h : SRow (p :: l)) (hr : r ∈ l) : val p.q < val r.q := (List.pairwise_cons.mp h.2).1 r hr
theorem srow_ext : ∀ {l l' : List Point},SRow l -> SRow l' -> (∀ p,p ∈ l ↔ p ∈ l') -> l = l'
 | [],[],_,_,_ => rfl
 | [],p :: l',_,_,h => by have := (h p).mpr (by simp); simp at this
 | p :: l,[],_,_,h => by have := (h p).mp (by simp); simp at this
 | p :: l,p' :: l',h1,h2,h => by
  have e : p = p' := by
   have a := List.mem_cons.mp ((h p).mp (by simp))
   have b := List.mem_cons.mp ((h p').mpr (by simp))
   rcases a with a | a
   ·exact a
   ·rcases b with b | b
    ·exact b.symm
    ·have x := h2.lt a
     have y := h1.lt b
     grind
  subst e
  have ih : l = l' := srow_ext h1.tail h2.tail fun x => by
   constructor
   ·intro hx
    rcases List.mem_cons.mp ((h x).mp (List.mem_cons_of_mem _ hx)) with e | e
    ·subst e; have := h1.lt hx; exact absurd this Rat.lt_irrefl
    ·exact e
   ·intro hx
    rcases List.mem_cons.mp ((h x).mpr (List.mem_cons_of_mem _ hx)) with e | e
    ·subst e; have := h2.lt hx; exact absurd this Rat.lt_irrefl
    ·exact e
  rw [ih]
theorem SRow.same_q : ∀ {l : List Point},SRow l -> ∀ {p r : Point},p ∈ l -> r ∈ l -> p.q = r.q -> p = r
 | [],_,_,_,hp,_,_ => by simp at hp
 | a :: l,h,p,r,hp,hr,e => by
  rcases List.mem_cons.mp hp with e1 | hp'
  ·rcases List.mem_cons.mp hr with e2 | hr'
   ·exact e1.trans e2.symm
   ·subst e1; have := h.lt hr'; rw [e] at this; exact absurd this Rat.lt_irrefl
  ·rcases List.mem_cons.mp hr with e2 | hr'
   ·subst e2; have := h.lt hp'; rw [e] at this; exact absurd this Rat.lt_irrefl
   ·exact h.tail.same_q hp' hr' e
structure Rep (S l : List Point) : Prop where
 row : SRow S
 mem : ∀ p ∈ S,p ∈ l
 top : ∀ p ∈ l,∃ r ∈ S,r.q = p.q /\ val p.v <= val r.v
theorem Rep.unique {S S' l : List Point} (h : Rep S l) (h' : Rep S' l) : S = S' := by
 have go : ∀ {S S' : List Point},Rep S l -> Rep S' l -> ∀ p,p ∈ S -> p ∈ S' := by
  intro S S' h h' p hp
  obtain ⟨r,hr,e1,e2⟩ := h'.top p (h.mem p hp)
  obtain ⟨p',hp',e3,e4⟩ := h.top r (h'.mem r hr)
  have e5 : p' = p := h.row.same_q hp' hp (e3.trans e1)
  subst e5
  have e6 : p'.v = r.v := val_inj (h.row.1 _ hp').v (h'.row.1 _ hr).v (Rat.le_antisymm e2 e4)
  have : r = p' := Point.ext' e1 e6.symm
  rw [<- this]; exact hr
 exact srow_ext h.row h'.row fun p => ⟨go h h' p,go h' h p⟩
theorem Rep.of_mem {S l l' : List Point} (h : Rep S l) (e : ∀ p,p ∈ l ↔ p ∈ l') : Rep S l' :=
 ⟨h.row,fun p hp => (e p).mp (h.mem p hp),fun p hp => h.top p ((e p).mpr hp)⟩
theorem insert_mem {p : Point} : ∀ {S : List Point} {x : Point},x ∈ insertPoint p S -> x = p \/ x ∈ S
 | [],x,h => by
  have : x = p := by simpa [insertPoint] using h
  exact .inl this
 | a :: S,x,h => by
  unfold insertPoint at h
  split at h
  ·rcases List.mem_cons.mp h with h | h
   ·exact .inl h
   ·exact .inr h
  ·split at h
   ·rename_i hs
    have hq : p.q = a.q := same_iff.mp hs
    rcases List.mem_cons.mp h with h | h
    ·unfold greater at h
     split at h
     ·right; have : x = a := by rw [h]
      rw [this]; simp
     ·left; rw [h]; exact Point.ext' hq.symm rfl
    ·exact .inr (List.mem_cons_of_mem _ h)
   ·rcases List.mem_cons.mp h with h | h
    ·right; rw [h]; simp
    ·rcases insert_mem h with h | h
     ·exact .inl h
     ·exact .inr (List.mem_cons_of_mem _ h)
theorem insert_row {p : Point} (hp : PtWf p) : ∀ {S : List Point},SRow S -> SRow (insertPoint p S) /\ ∀ x : Rat,(∀ r ∈ S,x < val r.q) -> x < val p.q -> ∀ r ∈ insertPoint p S,x < val r.q
 | [],_ => by
  refine ⟨⟨fun r hr => ?_,by simp [insertPoint]⟩,fun x _ h2 r hr => ?_⟩
  ·have : r = p := by simpa [insertPoint] using hr
   rw [this]; exact hp
  ·have : r = p := by simpa [insertPoint] using hr
   rw [this]; exact h2
 | a :: S,h => by
  have ha := h.1 a (by simp)
  refine ⟨?_,fun x h1 h2 r hr => ?_⟩
  ·unfold insertPoint
   split
   ·rename_i hl
    have hl := (less_iff hp.q ha.q).mp hl
    refine ⟨fun r hr => ?_,List.pairwise_cons.mpr ⟨fun r hr => ?_,h.2⟩⟩
    ·rcases List.mem_cons.mp hr with rfl | hr
     ·exact hp
     ·exact h.1 r hr
    ·rcases List.mem_cons.mp hr with rfl | hr
     ·exact hl
     ·have := h.lt hr
      show val p.q < val r.q
      grind
   ·split
    ·refine ⟨fun r hr => ?_,List.pairwise_cons.mpr ⟨fun r hr => ?_,h.tail.2⟩⟩
     ·rcases List.mem_cons.mp hr with rfl | hr
      ·exact ⟨ha.q,greater_wf hp.v ha.v⟩
      ·exact h.tail.1 r hr
     ·exact h.lt hr
    ·rename_i h1 h2
     have hlt : val a.q < val p.q := by
      have n1 := fun z => h1 ((less_iff hp.q ha.q).mpr z)
      have n2 : val p.q ≠ val a.q := fun z => h2 (same_iff.mpr (val_inj hp.q ha.q z))
      grind
     obtain ⟨i1,i2⟩ := insert_row hp h.tail
     refine ⟨fun r hr => ?_,List.pairwise_cons.mpr ⟨fun r hr => ?_,i1.2⟩⟩
     ·rcases List.mem_cons.mp hr with rfl | hr
      ·exact ha
      ·exact i1.1 r hr
     ·exact i2 (val a.q) (fun r hr => h.lt hr) hlt r hr
  ·rcases insert_mem hr with e | e
   ·rw [e]; exact h2
   ·exact h1 r e
theorem insert_top {p : Point} (hp : PtWf p) : ∀ {S : List Point},SRow S -> (∃ r ∈ insertPoint p S,r.q = p.q /\ val p.v <= val r.v) /\ ∀ x ∈ S,∃ r ∈ insertPoint p S,r.q = x.q /\ val x.v <= val r.v
 | [],_ => ⟨⟨p,by simp [insertPoint],rfl,Rat.le_refl⟩,by simp⟩
 | a :: S,h => by
  have ha := h.1 a (by simp)
  unfold insertPoint
  split
  ·exact ⟨⟨p,by simp,rfl,Rat.le_refl⟩,fun x hx => ⟨x,List.mem_cons_of_mem _ hx,rfl,Rat.le_refl⟩⟩
  ·split
   ·rename_i hs
    have hq : p.q = a.q := same_iff.mp hs
    have hg := val_greater hp.v ha.v
    refine ⟨⟨{ q := a.q,v := greater p.v a.v },List.mem_cons_self,hq.symm,by show val p.v <= val (greater p.v a.v); grind⟩,fun x hx => ?_⟩
    rcases List.mem_cons.mp hx with rfl | hx
    ·exact ⟨_,List.mem_cons_self,rfl,by show val x.v <= val (greater p.v x.v); grind⟩
    ·exact ⟨x,List.mem_cons_of_mem _ hx,rfl,Rat.le_refl⟩
   ·obtain ⟨⟨r,hr,e1,e2⟩,i2⟩ := insert_top hp h.tail
    refine ⟨⟨r,List.mem_cons_of_mem _ hr,e1,e2⟩,fun x hx => ?_⟩
    rcases List.mem_cons.mp hx with rfl | hx
    ·exact ⟨x,by simp,rfl,Rat.le_refl⟩
    ·obtain ⟨r,hr,e⟩ := i2 x hx
     exact ⟨r,List.mem_cons_of_mem _ hr,e⟩
theorem rep_insert : ∀ (l : List Point),(∀ p ∈ l,PtWf p) -> Rep (l.foldr insertPoint []) l
 | [],_ => ⟨.nil,by simp,by simp⟩
 | p :: l,h => by
  have hp := h p (by simp)
  have ih := rep_insert l fun r hr => h r (List.mem_cons_of_mem _ hr)
  rw [List.foldr_cons]
  obtain ⟨t1,t2⟩ := insert_top hp ih.row
  refine ⟨(insert_row hp ih.row).1,fun x hx => ?_,fun x hx => ?_⟩
  ·rcases insert_mem hx with e | e
   ·rw [e]; simp
   ·exact List.mem_cons_of_mem _ (ih.mem x e)
  ·rcases List.mem_cons.mp hx with rfl | hx
   ·exact t1
   ·obtain ⟨r,hr,e1,e2⟩ := ih.top x hx
    obtain ⟨r',hr',e3,e4⟩ := t2 r hr
    exact ⟨r',hr',e3.trans e1,Rat.le_trans e2 e4⟩
def Lex (p r : Point) : Prop := val p.q < val r.q \/ (p.q = r.q /\ val p.v <= val r.v)
def before (x p : Point) : Bool := if same x.q p.q = true then less x.v p.v else less x.q p.q
def mergeP : List Point -> List Point -> List Point
 | [],r => r
 | p :: l,r => r.takeWhile (before · p) ++ p :: mergeP l (r.dropWhile (before · p))
theorem before_lex {x p : Point} (hx : PtWf x) (hp : PtWf p) (h : before x p = true) : Lex x p := by
 unfold before at h
 split at h
 ·rename_i e
  exact .inr ⟨same_iff.mp e,Rat.le_of_lt ((less_iff hx.v hp.v).mp h)⟩
 ·exact .inl ((less_iff hx.q hp.q).mp h)
theorem not_before {x p : Point} (hx : PtWf x) (hp : PtWf p) (h : before x p = false) : Lex p x := by
 unfold before at h
 split at h
 ·rename_i e
  refine .inr ⟨(same_iff.mp e).symm,Rat.not_lt.mp fun z => ?_⟩
  rw [(less_iff hx.v hp.v).mpr z] at h; cases h
 ·rename_i e
  have n1 : ¬ val x.q < val p.q := fun z => by rw [(less_iff hx.q hp.q).mpr z] at h; cases h
  have n2 : val x.q ≠ val p.q := fun z => e (same_iff.mpr (val_inj hx.q hp.q z))
  left
  grind
theorem Lex.trans {p q r : Point} (h : Lex p q) (h' : Lex q r) : Lex p r := by
 unfold Lex at *
 rcases h with h | ⟨h,h2⟩
 ·rcases h' with h' | ⟨h',_⟩
  ·left; grind
  ·left; rw [<- h']; exact h
 ·rcases h' with h' | ⟨h',h3⟩
  ·left; rw [h]; exact h'
  ·right; exact ⟨h.trans h',Rat.le_trans h2 h3⟩
theorem Lt.lex {p r : Point} (h : Lt p r) : Lex p r := .inl h
theorem merge_mem : ∀ (l r : List Point) (x : Point),x ∈ mergeP l r ↔ x ∈ l ++ r
 | [],r,x => by simp [mergeP]
 | p :: l,r,x => by
  unfold mergeP
  have e : x ∈ r ↔ x ∈ r.takeWhile (before · p) \/ x ∈ r.dropWhile (before · p) := by
   rw [<- List.mem_append,List.takeWhile_append_dropWhile]
  rw [List.mem_append,List.mem_cons,merge_mem l,List.mem_append,List.mem_append,List.mem_cons,e]
  generalize (x ∈ r.takeWhile (before · p)) = A
  generalize (x ∈ r.dropWhile (before · p)) = B
  grind
theorem mem_takeWhile {α : Type} {f : α -> Bool} : ∀ {l : List α} {x : α},x ∈ l.takeWhile f -> f x = true
 | [],_,h => by simp at h
 | a :: l,x,h => by
  rw [List.takeWhile_cons] at h
  split at h
  ·rcases List.mem_cons.mp h with rfl | h
   ·assumption
   ·exact mem_takeWhile h
  ·simp at h
theorem drop_lex {p : Point} (hp : PtWf p) : ∀ {r : List Point},SRow r -> ∀ x ∈ r.dropWhile (before · p),Lex p x
 | [],_,x,h => by simp at h
 | a :: r,hr,x,h => by
  rw [List.dropWhile_cons] at h
  split at h
  ·exact drop_lex hp hr.tail x h
  ·rename_i hb
   have hb : before a p = false := by simpa using hb
   have ha := not_before (hr.1 a (by simp)) hp hb
   rcases List.mem_cons.mp h with rfl | h
   ·exact ha
   ·exact ha.trans (.inl (hr.lt h))
theorem merge_lex : ∀ {l r : List Point},SRow l -> SRow r -> (mergeP l r).Pairwise Lex
 | [],r,_,h => h.2.imp fun h => Lt.lex h
 | p :: l,r,hl,hr => by
  have hp := hl.1 p (by simp)
  have hd : SRow (r.dropWhile (before · p)) := hr.sub (List.dropWhile_sublist _)
  have low : ∀ x ∈ mergeP l (r.dropWhile (before · p)),Lex p x := fun x hx => by
   rcases List.mem_append.mp ((merge_mem _ _ _).mp hx) with hx | hx
   ·exact .inl (hl.lt hx)
   ·exact drop_lex hp hr x hx
  unfold mergeP
  refine List.pairwise_append.mpr ⟨(hr.2.imp fun h => Lt.lex h).sublist (List.takeWhile_sublist _),List.pairwise_cons.mpr ⟨low,merge_lex hl.tail hd⟩,fun x hx y hy => ?_⟩
  have hx1 := before_lex (hr.1 x ((List.takeWhile_sublist _).subset hx)) hp (mem_takeWhile (f := (before · p)) hx)
  rcases List.mem_cons.mp hy with rfl | hy
  ·exact hx1
  ·exact hx1.trans (low y hy)
def dd : List Point -> List Point
 | [] => []
 | [p] => [p]
 | p :: r :: l => if same p.q r.q = true then dd (r :: l) else p :: dd (r :: l)
theorem dd_mem : ∀ (l : List Point) (x : Point),x ∈ dd l -> x ∈ l
 | [],_,h => by simp [dd] at h
 | [p],x,h => by simpa [dd] using h
 | p :: r :: l,x,h => by
  unfold dd at h
  split at h
  ·exact List.mem_cons_of_mem _ (dd_mem (r :: l) x h)
  ·rcases List.mem_cons.mp h with rfl | h
   ·simp
   ·exact List.mem_cons_of_mem _ (dd_mem (r :: l) x h)
theorem rep_dd : ∀ (l : List Point),(∀ p ∈ l,PtWf p) -> l.Pairwise Lex -> Rep (dd l) l
 | [],_,_ => ⟨.nil,by simp [dd],by simp⟩
 | [p],h,_ => ⟨⟨by simpa [dd] using h,by simp [dd]⟩,by simp [dd],fun x hx => ⟨x,by simpa [dd] using hx,rfl,Rat.le_refl⟩⟩
 | p :: r :: l,h,hs => by
  obtain ⟨h1,h2⟩ := List.pairwise_cons.mp hs
  have ih := rep_dd (r :: l) (fun x hx => h x (List.mem_cons_of_mem _ hx)) h2
  unfold dd
  split
  ·rename_i e
   have e := same_iff.mp e
   refine ⟨ih.row,fun x hx => List.mem_cons_of_mem _ (ih.mem x hx),fun x hx => ?_⟩
   rcases List.mem_cons.mp hx with rfl | hx
   ·obtain ⟨r',hr',e1,e2⟩ := ih.top r (by simp)
    refine ⟨r',hr',e1.trans e.symm,?_⟩
    rcases h1 r (by simp) with z | ⟨_,z⟩
    ·rw [e] at z; exact absurd z Rat.lt_irrefl
    ·exact Rat.le_trans z e2
   ·exact ih.top x hx
  ·rename_i e
   have hpr : val p.q < val r.q := by
    rcases h1 r (by simp) with z | ⟨z,_⟩
    ·exact z
    ·exact absurd (same_iff.mpr z) e
   have low : ∀ x ∈ dd (r :: l),Lt p x := fun x hx => by
    have hx := dd_mem _ _ hx
    show val p.q < val x.q
    rcases List.mem_cons.mp hx with rfl | hx
    ·exact hpr
    ·rcases (List.pairwise_cons.mp h2).1 x hx with z | ⟨z,_⟩
     ·grind
     ·rw [<- z]; exact hpr
   refine ⟨⟨fun x hx => ?_,List.pairwise_cons.mpr ⟨low,ih.row.2⟩⟩,fun x hx => ?_,fun x hx => ?_⟩
   ·rcases List.mem_cons.mp hx with rfl | hx
    ·exact h x (by simp)
    ·exact ih.row.1 x hx
   ·rcases List.mem_cons.mp hx with rfl | hx
    ·simp
    ·exact List.mem_cons_of_mem _ (ih.mem x hx)
   ·rcases List.mem_cons.mp hx with rfl | hx
    ·exact ⟨x,by simp,rfl,Rat.le_refl⟩
    ·obtain ⟨r',hr',e'⟩ := ih.top x hx
     exact ⟨r',List.mem_cons_of_mem _ hr',e'⟩
theorem dd_merge {l r : List Point} (hl : SRow l) (hr : SRow r) : dd (mergeP l r) = (l ++ r).foldr insertPoint [] := by
 have hw : ∀ p ∈ mergeP l r,PtWf p := fun p hp => by
  rcases List.mem_append.mp ((merge_mem _ _ _).mp hp) with h | h
  ·exact hl.1 p h
  ·exact hr.1 p h
 have a := (rep_dd _ hw (merge_lex hl hr)).of_mem fun p => merge_mem l r p
 have b := rep_insert (l ++ r) fun p hp => hw p ((merge_mem _ _ _).mpr hp)
 exact a.unique b
end CH
namespace CH
open Vbchal
def pops (p : Point) : List Point -> List Point
 | [] => []
 | [t] => [t]
 | t :: s :: r => if under s t p = true then pops p (s :: r) else t :: s :: r
theorem push_pops (p : Point) : ∀ st : List Point,push p st = p :: pops p st
 | [] => rfl
 | [t] => rfl
 | t :: s :: r => by
  unfold push pops
  split
  ·exact push_pops p (s :: r)
  ·rfl
theorem pops_sub (p : Point) : ∀ st : List Point,(pops p st).Sublist st
 | [] => .refl _
 | [t] => .refl _
 | t :: s :: r => by
  unfold pops
  split
  ·exact (pops_sub p (s :: r)).trans (List.sublist_cons_self _ _)
  ·exact .refl _
theorem pops_last (p : Point) : ∀ st : List Point,(pops p st).getLast? = st.getLast?
 | [] => rfl
 | [t] => rfl
 | t :: s :: r => by
  unfold pops
  split
  ·rw [pops_last p (s :: r)]; rfl
  ·rfl
theorem under_iff {s t p : Point} (hs : PtWf s) (ht : PtWf t) (hp : PtWf p) :
  under s t p = true ↔ (val t.v - val s.v) * (val p.q - val s.q) <= (val p.v - val s.v) * (val t.q - val s.q) := by
 unfold under
 rw [le_iff (mul_wf (sub_wf ht.v hs.v) (sub_wf hp.q hs.q)) (mul_wf (sub_wf hp.v hs.v) (sub_wf ht.q hs.q)),val_mul (sub_wf ht.v hs.v) (sub_wf hp.q hs.q),val_mul (sub_wf hp.v hs.v) (sub_wf ht.q hs.q),
  val_sub ht.v hs.v,val_sub hp.q hs.q,val_sub hp.v hs.v,val_sub ht.q hs.q]
theorem under_mono {s t p r : Point} (hs : PtWf s) (ht : PtWf t) (hp : PtWf p) (hr : PtWf r) (hq : p.q = r.q) (hv : val p.v <= val r.v) (hst : val s.q < val t.q) (h : under s t p = true) : under s t r = true := by
 rw [under_iff hs ht hp] at h
 rw [under_iff hs ht hr,<- hq]
 have : (val p.v - val s.v) * (val t.q - val s.q) <= (val r.v - val s.v) * (val t.q - val s.q) := Rat.mul_le_mul_of_nonneg_right (by grind) (by grind)
 exact Rat.le_trans h this
def Stk (st : List Point) : Prop := (∀ p ∈ st,PtWf p) /\ st.Pairwise fun p r => val r.q < val p.q
theorem Stk.tail {p : Point} {l : List Point} (h : Stk (p :: l)) : Stk l := ⟨fun r hr => h.1 r (List.mem_cons_of_mem _ hr),(List.pairwise_cons.mp h.2).2⟩
theorem Stk.sub {l l' : List Point} (h : Stk l) (s : l'.Sublist l) : Stk l' := ⟨fun p hp => h.1 p (s.subset hp),h.2.sublist s⟩
theorem pops_pops {p r : Point} (hp : PtWf p) (hr : PtWf r) (hq : p.q = r.q) (hv : val p.v <= val r.v) : ∀ {st : List Point},Stk st -> pops r (pops p st) = pops r st
 | [],_ => rfl
 | [t],_ => rfl
 | t :: s :: l,h => by
  have hlt : val s.q < val t.q := (List.pairwise_cons.mp h.2).1 s (by simp)
  by_cases e : under s t p = true
  ·have e2 := under_mono (h.1 s (by simp)) (h.1 t (by simp)) hp hr hq hv hlt e
   have a : pops p (t :: s :: l) = pops p (s :: l) := by rw [pops,if_pos e]
   have b : pops r (t :: s :: l) = pops r (s :: l) := by rw [pops,if_pos e2]
   rw [a,b]
   exact pops_pops hp hr hq hv h.tail
  ·have a : pops p (t :: s :: l) = t :: s :: l := by rw [pops,if_neg e]
   rw [a]
def unsame (p : Point) : List Point -> List Point
 | [] => []
 | t :: r => if same t.q p.q = true then r else t :: r
def turnP (st : List Point) (p : Point) : List Point := p :: pops p (unsame p st)
def upperP (l : List Point) : List Point := (l.foldl turnP []).reverse
theorem unsame_lt {p : Point} {st : List Point} (h : ∀ t ∈ st,val t.q < val p.q) : unsame p st = st := by
 cases st with
 | nil => rfl
 | cons t r =>
  have := h t (by simp)
  show (if same t.q p.q = true then r else t :: r) = t :: r
  rw [if_neg]
  intro e
  rw [same_iff.mp e] at this
  exact absurd this Rat.lt_irrefl
theorem push_stk {p : Point} {st : List Point} (hp : PtWf p) (h : Stk st) (hl : ∀ t ∈ st,val t.q < val p.q) : Stk (p :: pops p st) := by
 have h' := h.sub (pops_sub p st)
 refine ⟨fun x hx => ?_,List.pairwise_cons.mpr ⟨fun x hx => hl x ((pops_sub p st).subset hx),h'.2⟩⟩
 rcases List.mem_cons.mp hx with rfl | hx
 ·exact hp
 ·exact h'.1 x hx
theorem fold_dd : ∀ (l st : List Point),(∀ p ∈ l,PtWf p) -> l.Pairwise Lex -> Stk st -> (∀ p ∈ l,∀ t ∈ st,val t.q < val p.q) -> l.foldl turnP st = (dd l).foldl (fun a p => push p a) st
 | [],_,_,_,_,_ => rfl
 | [p],st,hw,_,_,hl => by
  show turnP st p = push p st
  rw [push_pops,turnP,unsame_lt fun t ht => hl p (by simp) t ht]
 | p :: r :: l,st,hw,hs,hst,hl => by
  have hp := hw p (by simp)
  have hr := hw r (by simp)
  obtain ⟨h1,h2⟩ := List.pairwise_cons.mp hs
  have e0 : turnP st p = p :: pops p st := by rw [turnP,unsame_lt fun t ht => hl p (by simp) t ht]
  have hst' : Stk (p :: pops p st) := push_stk hp hst fun t ht => hl p (by simp) t ht
  by_cases e : same p.q r.q = true
  ·have eq := same_iff.mp e
   have ev : val p.v <= val r.v := by
    rcases h1 r (by simp) with z | ⟨_,z⟩
    ·rw [eq] at z; exact absurd z Rat.lt_irrefl
    ·exact z
   have e1 : turnP (turnP st p) r = turnP st r := by
    rw [e0]
    unfold turnP
    have u1 : unsame r (p :: pops p st) = pops p st := by rw [unsame,if_pos e]
    rw [u1,unsame_lt fun t ht => hl r (by simp) t ht,pops_pops hp hr eq ev hst]
   have e2 : dd (p :: r :: l) = dd (r :: l) := by rw [dd,if_pos e]
   rw [e2,<- fold_dd (r :: l) st (fun x hx => hw x (List.mem_cons_of_mem _ hx)) h2 hst fun x hx => hl x (List.mem_cons_of_mem _ hx)]
   rw [List.foldl_cons,List.foldl_cons,List.foldl_cons,e1]
  ·have e2 : dd (p :: r :: l) = p :: dd (r :: l) := by rw [dd,if_neg e]
   have hlt : ∀ x ∈ r :: l,val p.q < val x.q := by
    have hpr : val p.q < val r.q := by
     rcases h1 r (by simp) with z | ⟨z,_⟩
     ·exact z
     ·exact absurd (same_iff.mpr z) e
    intro x hx
    rcases List.mem_cons.mp hx with rfl | hx
    ·exact hpr
    ·rcases (List.pairwise_cons.mp h2).1 x hx with z | ⟨z,_⟩
     ·grind
     ·rw [<- z]; exact hpr
   rw [e2,List.foldl_cons]
   show List.foldl turnP (turnP st p) (r :: l) = List.foldl (fun a p => push p a) (push p st) (dd (r :: l))
   rw [push_pops,e0]
   refine fold_dd (r :: l) (p :: pops p st) (fun x hx => hw x (List.mem_cons_of_mem _ hx)) h2 hst' fun x hx t ht => ?_
   rcases List.mem_cons.mp ht with rfl | ht
   ·exact hlt x hx
   ·have := hl p (by simp) t ((pops_sub p st).subset ht)
    have := hlt x hx
    grind
theorem upper_hull {l r : List Point} (hl : SRow l) (hr : SRow r) : upperP (mergeP l r) = hull (l ++ r) := by
 unfold upperP hull
 have hw : ∀ p ∈ mergeP l r,PtWf p := fun p hp => by
  rcases List.mem_append.mp ((merge_mem _ _ _).mp hp) with h | h
  ·exact hl.1 p h
  ·exact hr.1 p h
 rw [fold_dd _ [] hw (merge_lex hl hr) ⟨by simp,.nil⟩ (by simp),dd_merge hl hr]
theorem fold_sub : ∀ (l st : List Point),(l.foldl (fun a p => push p a) st).Sublist (l.reverse ++ st)
 | [],st => by simp
 | p :: l,st => by
  rw [List.foldl_cons,push_pops]
  refine (fold_sub l _).trans ?_
  rw [List.reverse_cons,List.append_assoc]
  exact List.Sublist.append (.refl _) (List.Sublist.cons_cons _ (pops_sub p st))
theorem hull_sub (l : List Point) : (hull l).Sublist (l.foldr insertPoint []) := by
 have := (fold_sub (l.foldr insertPoint []) []).reverse
 simpa [hull] using this
theorem hull_row {l : List Point} (h : ∀ p ∈ l,PtWf p) : SRow (hull l) := (rep_insert l h).row.sub (hull_sub l)
theorem hull_mem {l : List Point} (h : ∀ p ∈ l,PtWf p) {p : Point} (hp : p ∈ hull l) : p ∈ l := (rep_insert l h).mem p ((hull_sub l).subset hp)
theorem fold_ends : ∀ (l st : List Point),(l.foldl (fun a p => push p a) st).getLast? = (st.reverse ++ l).head? /\ (l.foldl (fun a p => push p a) st).head? = (st.reverse ++ l).getLast?
 | [],st => by simp
 | p :: l,st => by
  rw [List.foldl_cons,push_pops]
  obtain ⟨a,b⟩ := fold_ends l (p :: pops p st)
  rw [a,b]
  have e := pops_last p st
  constructor
  ·simp only [List.reverse_cons,List.append_assoc,List.head?_append,List.head?_reverse,e]
   rfl
  ·simp [List.getLast?_append,List.getLast?_cons]
theorem hull_head (l : List Point) : (hull l).head? = (l.foldr insertPoint []).head? := by
 unfold hull
 rw [List.head?_reverse,(fold_ends _ []).1]; rfl
theorem hull_last (l : List Point) : (hull l).getLast? = (l.foldr insertPoint []).getLast? := by
 unfold hull
 rw [List.getLast?_reverse,(fold_ends _ []).2]; rfl
theorem SRow.head_le : ∀ {l : List Point} {a : Point},SRow l -> l.head? = some a -> ∀ p ∈ l,val a.q <= val p.q
 | [],_,_,h,_,_ => by simp at h
 | b :: l,a,hs,h,p,hp => by
  have : b = a := by simpa using h
  subst this
  rcases List.mem_cons.mp hp with rfl | hp
  ·exact Rat.le_refl
  ·exact Rat.le_of_lt (hs.lt hp)
theorem SRow.le_last : ∀ {l : List Point} {a : Point},SRow l -> l.getLast? = some a -> ∀ p ∈ l,val p.q <= val a.q
 | [],_,_,h,_,_ => by simp at h
 | [b],a,hs,h,p,hp => by
  have e1 : b = a := by simpa using h
  have e2 : p = b := by simpa using hp
  rw [e2,e1]; exact Rat.le_refl
 | b :: c :: l,a,hs,h,p,hp => by
  have h' : (c :: l).getLast? = some a := by rw [<- h]; rfl
  have ih := SRow.le_last hs.tail h'
  rcases List.mem_cons.mp hp with rfl | hp
  ·have := hs.lt (r := c) (by simp)
   have := ih c (by simp)
   grind
  ·exact ih p hp
theorem firstQ_of {l : List Point} {a : Point} (h : l.head? = some a) : firstQ l = a.q := by unfold firstQ; rw [h]; rfl
theorem lastQ_of {l : List Point} {a : Point} (h : l.getLast? = some a) : lastQ l = a.q := by unfold lastQ; rw [h]; rfl
theorem head_of {l : List Point} (h : l ≠ []) : ∃ a,l.head? = some a := by
 cases l with
 | nil => exact absurd rfl h
 | cons a r => exact ⟨a,rfl⟩
theorem last_of {l : List Point} (h : l ≠ []) : ∃ a,l.getLast? = some a := ⟨_,List.getLast?_eq_some_getLast h⟩
theorem hull_ne {l : List Point} (hw : ∀ p ∈ l,PtWf p) (h : l ≠ []) : hull l ≠ [] := by
 obtain ⟨p,hp⟩ := List.exists_mem_of_ne_nil l h
 obtain ⟨r,hr,_⟩ := (rep_insert l hw).top p hp
 intro e
 have := hull_head l
 rw [e] at this
 cases hS : l.foldr insertPoint [] with
 | nil => rw [hS] at hr; simp at hr
 | cons a b => rw [hS] at this; simp at this
theorem hull_first {d u : List Point} (hd : SRow d) (hu : SRow u) (nd : d ≠ []) (nu : u ≠ []) : val (firstQ (hull (d ++ u))) = min (val (firstQ d)) (val (firstQ u)) := by
 have hw : ∀ p ∈ d ++ u,PtWf p := fun p hp => (List.mem_append.mp hp).elim (hd.1 p) (hu.1 p)
 have R := rep_insert _ hw
 have nh : hull (d ++ u) ≠ [] := hull_ne hw (by simp [nd])
 obtain ⟨a,ha⟩ := head_of nh
 obtain ⟨b,hb⟩ := head_of nd
 obtain ⟨c,hc⟩ := head_of nu
 rw [firstQ_of ha,firstQ_of hb,firstQ_of hc]
 have hS := (hull_head (d ++ u)).symm.trans ha
 have low : ∀ p ∈ d ++ u,val a.q <= val p.q := fun p hp => by
  obtain ⟨r,hr,e,_⟩ := R.top p hp
  rw [<- e]
  exact R.row.head_le hS r hr
 have l1 := low b (List.mem_append_left _ (List.mem_of_mem_head? hb))
 have l2 := low c (List.mem_append_right _ (List.mem_of_mem_head? hc))
 have m := R.mem a (List.mem_of_mem_head? hS)
 rcases List.mem_append.mp m with m | m
 ·have := hd.head_le hb a m
  grind
 ·have := hu.head_le hc a m
  grind
theorem hull_lastQ {d u : List Point} (hd : SRow d) (hu : SRow u) (nd : d ≠ []) (nu : u ≠ []) : val (lastQ (hull (d ++ u))) = max (val (lastQ d)) (val (lastQ u)) := by
 have hw : ∀ p ∈ d ++ u,PtWf p := fun p hp => (List.mem_append.mp hp).elim (hd.1 p) (hu.1 p)
 have R := rep_insert _ hw
 have nh : hull (d ++ u) ≠ [] := hull_ne hw (by simp [nd])
 obtain ⟨a,ha⟩ := last_of nh
 obtain ⟨b,hb⟩ := last_of nd
 obtain ⟨c,hc⟩ := last_of nu
 rw [lastQ_of ha,lastQ_of hb,lastQ_of hc]
 have hS := (hull_last (d ++ u)).symm.trans ha
 have low : ∀ p ∈ d ++ u,val p.q <= val a.q := fun p hp => by
  obtain ⟨r,hr,e,_⟩ := R.top p hp
  rw [<- e]
  exact R.row.le_last hS r hr
 have l1 := low b (List.mem_append_left _ (List.mem_of_getLast? hb))
 have l2 := low c (List.mem_append_right _ (List.mem_of_getLast? hc))
 have m := R.mem a (List.mem_of_getLast? hS)
 rcases List.mem_append.mp m with m | m
 ·have := hd.le_last hb a m
  grind
 ·have := hu.le_last hc a m
  grind
end CH
namespace CH
open Vbchal
def interp (p r : Point) (q : Frac) : Frac := add p.v (mul (over (sub r.v p.v) (sub r.q p.q)) (sub q p.q))
theorem diff_pos {p r : Point} (hp : PtWf p) (hr : PtWf r) (h : val p.q < val r.q) : 0 < (sub r.q p.q).num := by
 refine num_pos_of (sub_wf hr.q hp.q) ?_
 rw [val_sub hr.q hp.q]
 grind
theorem interp_wf {p r : Point} {q : Frac} (hp : PtWf p) (hr : PtWf r) (hq : Wf q) (h : val p.q < val r.q) : Wf (interp p r q) := by
 have := diff_pos hp hr h
 exact add_wf hp.v (mul_wf (over_wf (sub_wf hr.v hp.v) (by omega)) (sub_wf hq hp.q))
theorem valueAt_cons {q : Frac} {p r : Point} {l : List Point} : valueAt q (p :: r :: l) = if le q p.q = true then p.v else if less q r.q = true then interp p r q else valueAt q (r :: l) := rfl
theorem value_split {q : Frac} (hq : Wf q) : ∀ (pre : List Point) (right : Point) (post : List Point),SRow (pre ++ right :: post) -> (∀ p ∈ pre,val p.q < val q) -> val q <= val right.q -> (pre = [] -> val right.q <= val q) ->
  valueAt q (pre ++ right :: post) = if same right.q q = true then right.v else match pre.getLast? with | some left => interp left right q | none => right.v
 | [],right,post,hs,_,h1,h2 => by
  have hr := hs.1 right (by simp)
  have e : right.q = q := val_inj hr.q hq (Rat.le_antisymm (h2 rfl) h1)
  rw [if_pos (same_iff.mpr e)]
  cases post with
  | nil => rfl
  | cons a l =>
   show valueAt q (right :: a :: l) = _
   rw [valueAt_cons,if_pos ((le_iff hq hr.q).mpr h1)]
 | [p],right,post,hs,hl,h1,_ => by
  have hp := hs.1 p (by simp)
  have hr := hs.1 right (by simp)
  have n1 : ¬ le q p.q = true := fun z => by
   have a := (le_iff hq hp.q).mp z
   have b := hl p (by simp)
   grind
  show valueAt q (p :: right :: post) = _
  rw [valueAt_cons,if_neg n1]
  by_cases e : same right.q q = true
  ·have e' := same_iff.mp e
   have n2 : ¬ less q right.q = true := fun z => by
    have a := (less_iff hq hr.q).mp z
    rw [e'] at a
    exact absurd a Rat.lt_irrefl
   rw [if_pos e,if_neg n2]
   cases post with
   | nil => rfl
   | cons a l => rw [valueAt_cons,if_pos ((le_iff hq hr.q).mpr h1)]
  ·have n2 : less q right.q = true := (less_iff hq hr.q).mpr (Rat.lt_of_le_of_ne h1 fun z => e (same_iff.mpr (val_inj hr.q hq z.symm)))
   rw [if_neg e,if_pos n2]
   rfl
 | p :: p2 :: pre,right,post,hs,hl,h1,_ => by
  have hp := hs.1 p (by simp)
  have hp2 := hs.1 p2 (by simp)
  have n1 : ¬ le q p.q = true := fun z => by
   have a := (le_iff hq hp.q).mp z
   have b := hl p (by simp)
   grind
  have n2 : ¬ less q p2.q = true := fun z => by
   have a := (less_iff hq hp2.q).mp z
   have b := hl p2 (by simp)
   grind
  have ih := value_split hq (p2 :: pre) right post hs.tail (fun x hx => hl x (List.mem_cons_of_mem _ hx)) h1 (by simp)
  show valueAt q (p :: p2 :: (pre ++ right :: post)) = _
  rw [valueAt_cons,if_neg n1,if_neg n2]
  exact ih
theorem value_wf {q : Frac} (hq : Wf q) : ∀ {l : List Point},SRow l -> l ≠ [] -> Wf (valueAt q l)
 | [],_,h => absurd rfl h
 | [p],hs,_ => (hs.1 p (by simp)).v
 | p :: r :: l,hs,_ => by
  rw [valueAt_cons]
  have hp := hs.1 p (by simp)
  have hr := hs.1 r (by simp)
  split
  ·exact hp.v
  ·split
   ·exact interp_wf hp hr hq (hs.lt (by simp))
   ·exact value_wf hq hs.tail (by simp)
theorem value_ind {P : Frac -> Prop} {q : Frac} : ∀ {l : List Point},SRow l -> l ≠ [] -> (∀ p ∈ l,P p.v) -> (∀ p ∈ l,∀ r ∈ l,val p.q < val r.q -> P (interp p r q)) -> P (valueAt q l)
 | [],_,h,_,_ => absurd rfl h
 | [p],_,_,h1,_ => h1 p (by simp)
 | p :: r :: l,hs,_,h1,h2 => by
  rw [valueAt_cons]
  split
  ·exact h1 p (by simp)
  ·split
   ·exact h2 p (by simp) r (by simp) (hs.lt (by simp))
   ·exact value_ind hs.tail (by simp) (fun x hx => h1 x (List.mem_cons_of_mem _ hx)) fun x hx y hy => h2 x (List.mem_cons_of_mem _ hx) y (List.mem_cons_of_mem _ hy)
theorem first_wf {l : List Point} (hs : SRow l) (h : l ≠ []) : Wf (firstQ l) := by
 obtain ⟨a,ha⟩ := head_of h
 rw [firstQ_of ha]
 exact (hs.1 a (List.mem_of_mem_head? ha)).q
theorem last_wf {l : List Point} (hs : SRow l) (h : l ≠ []) : Wf (lastQ l) := by
 obtain ⟨a,ha⟩ := last_of h
 rw [lastQ_of ha]
 exact (hs.1 a (List.mem_of_getLast? ha)).q
def cutA (lo : Frac) (l : List Point) : Frac := greater lo (firstQ l)
def cutB (hi : Frac) (l : List Point) : Frac := lesser hi (lastQ l)
theorem between_def (lo hi : Frac) {l : List Point} (h : l ≠ []) : between lo hi l =
  if less (cutB hi l) (cutA lo l) = true then [] else if same (cutA lo l) (cutB hi l) = true then [{ q := cutA lo l,v := valueAt (cutA lo l) l }]
  else { q := cutA lo l,v := valueAt (cutA lo l) l } :: ((l.filter fun p => less (cutA lo l) p.q && less p.q (cutB hi l)) ++ [{ q := cutB hi l,v := valueAt (cutB hi l) l }]) := by
 unfold between
 have : ¬ l.isEmpty = true := by cases l <;> simp_all
 by_cases e : less (cutB hi l) (cutA lo l) = true
 ·rw [if_pos e]
  exact if_pos (.inr e)
 ·rw [if_neg e]
  refine (if_neg ?_).trans ?_
  ·rintro (z | z)
   ·exact this z
   ·exact e z
  ·rfl
theorem between_row {lo hi : Frac} {l : List Point} (hs : SRow l) (hn : l ≠ []) (h1 : Wf lo) (h2 : Wf hi) :
  SRow (between lo hi l) /\ (between lo hi l = [] ↔ val (cutB hi l) < val (cutA lo l)) /\ (between lo hi l ≠ [] -> firstQ (between lo hi l) = cutA lo l /\ lastQ (between lo hi l) = cutB hi l) := by
 have wa : Wf (cutA lo l) := greater_wf h1 (first_wf hs hn)
 have wb : Wf (cutB hi l) := lesser_wf h2 (last_wf hs hn)
 rw [between_def lo hi hn]
 by_cases e : less (cutB hi l) (cutA lo l) = true
 ·rw [if_pos e]
  exact ⟨.nil,⟨fun _ => (less_iff wb wa).mp e,fun _ => rfl⟩,fun z => absurd rfl z⟩
 ·rw [if_neg e]
  have e' : ¬ val (cutB hi l) < val (cutA lo l) := fun z => e ((less_iff wb wa).mpr z)
  by_cases e2 : same (cutA lo l) (cutB hi l) = true
  ·rw [if_pos e2]
   refine ⟨⟨fun p hp => ?_,by simp⟩,⟨fun z => by simp at z,fun z => absurd z e'⟩,fun _ => ⟨rfl,?_⟩⟩
   ·have : p = { q := cutA lo l,v := valueAt (cutA lo l) l } := by simpa using hp
    rw [this]
    exact ⟨wa,value_wf wa hs hn⟩
   ·rw [<- same_iff.mp e2]; rfl
  ·rw [if_neg e2]
   have e3 : val (cutA lo l) < val (cutB hi l) := by
    have n : val (cutA lo l) ≠ val (cutB hi l) := fun z => e2 (same_iff.mpr (val_inj wa wb z))
    grind
   have mid : ∀ p ∈ l.filter (fun p => less (cutA lo l) p.q && less p.q (cutB hi l)),p ∈ l /\ val (cutA lo l) < val p.q /\ val p.q < val (cutB hi l) := fun p hp => by
    obtain ⟨m,f⟩ := List.mem_filter.mp hp
    rw [Bool.and_eq_true] at f
    exact ⟨m,(less_iff wa (hs.1 p m).q).mp f.1,(less_iff (hs.1 p m).q wb).mp f.2⟩
   refine ⟨⟨fun p hp => ?_,?_⟩,⟨fun z => by simp at z,fun z => absurd z e'⟩,fun _ => ⟨rfl,?_⟩⟩
   ·rcases List.mem_cons.mp hp with rfl | hp
    ·exact ⟨wa,value_wf wa hs hn⟩
    ·rcases List.mem_append.mp hp with hp | hp
     ·exact hs.1 p (mid p hp).1
     ·have : p = { q := cutB hi l,v := valueAt (cutB hi l) l } := by simpa using hp
      rw [this]
      exact ⟨wb,value_wf wb hs hn⟩
   ·refine List.pairwise_cons.mpr ⟨fun p hp => ?_,List.pairwise_append.mpr ⟨hs.2.sublist List.filter_sublist,by simp,fun p hp r hr => ?_⟩⟩
    ·rcases List.mem_append.mp hp with hp | hp
     ·exact (mid p hp).2.1
     ·have : p = { q := cutB hi l,v := valueAt (cutB hi l) l } := by simpa using hp
      rw [this]
      exact e3
    ·have : r = { q := cutB hi l,v := valueAt (cutB hi l) l } := by simpa using hr
     rw [this]
     exact (mid p hp).2.2
   ·rw [<- List.cons_append]
    exact lastQ_of (a := { q := cutB hi l,v := valueAt (cutB hi l) l }) List.getLast?_concat
theorem taken_wf {a b : Nat} {p : Point} (hp : PtWf p) (ha : 0 < a) : PtWf (taken a b p) := by
 have na : (whole (a : Int)).num ≠ 0 := by show (a : Int) ≠ 0; omega
 exact ⟨over_wf (mul_wf hp.q (whole_wf _)) na,over_wf (mul_wf hp.v (whole_wf _)) na⟩
theorem val_taken {a b : Nat} {x : Frac} (hx : Wf x) (ha : 0 < a) : val (over (mul x (whole (b : Int))) (whole (a : Int))) = val x * ((b : Rat) / (a : Rat)) := by
 rw [taken_by hx ha,val_mul hx (lowest_wf _ ha),val_lowest _ ha,mkRat_div _ ha]
 congr 2
theorem ratio_pos {a b : Nat} (ha : 0 < a) (hb : 0 < b) : (0 : Rat) < (b : Rat) / (a : Rat) := by
 have h1 := cast_pos ha
 have h2 := cast_pos hb
 rw [Rat.div_def]
 exact Rat.mul_pos h2 (Rat.inv_pos.mpr h1)
theorem taken_row {a b : Nat} {l : List Point} (hs : SRow l) (ha : 0 < a) (hb : 0 < b) : SRow (l.map (taken a b)) := by
 refine ⟨fun p hp => ?_,?_⟩
 ·obtain ⟨r,hr,rfl⟩ := List.mem_map.mp hp
  exact taken_wf (hs.1 r hr) ha
 ·refine List.pairwise_map.mpr (hs.2.imp_of_mem fun {p r} hp hr h => ?_)
  show val (over (mul p.q _) _) < val (over (mul r.q _) _)
  rw [val_taken (hs.1 p hp).q ha,val_taken (hs.1 r hr).q ha]
  exact Rat.mul_lt_mul_of_pos_right h (ratio_pos ha hb)
theorem taken_first {a b : Nat} {l : List Point} (h : l ≠ []) : firstQ (l.map (taken a b)) = over (mul (firstQ l) (whole (b : Int))) (whole (a : Int)) := by
 obtain ⟨p,hp⟩ := head_of h
 rw [firstQ_of hp]
 exact firstQ_of (a := taken a b p) (by rw [List.head?_map,hp]; rfl)
theorem taken_last {a b : Nat} {l : List Point} (h : l ≠ []) : lastQ (l.map (taken a b)) = over (mul (lastQ l) (whole (b : Int))) (whole (a : Int)) := by
 obtain ⟨p,hp⟩ := last_of h
 rw [lastQ_of hp]
 exact lastQ_of (a := taken a b p) (by rw [List.getLast?_map,hp]; rfl)
theorem joined_row {a b : Nat} {d u : List Point} (hd : SRow d) (hu : SRow u) (ha : 0 < a) (_hb : 0 < b) : SRow (joined a b d u) := by
 refine hull_row fun p hp => ?_
 obtain ⟨r,hr,rfl⟩ := List.mem_map.mp hp
 exact taken_wf ((List.mem_append.mp hr).elim (hd.1 r) (hu.1 r)) ha
theorem joined_ne {a b : Nat} {d u : List Point} (hd : SRow d) (hu : SRow u) (ha : 0 < a) (nd : d ≠ []) : joined a b d u ≠ [] := by
 refine hull_ne (fun p hp => ?_) (by simp [nd])
 obtain ⟨r,hr,rfl⟩ := List.mem_map.mp hp
 exact taken_wf ((List.mem_append.mp hr).elim (hd.1 r) (hu.1 r)) ha
theorem joined_by {a b : Nat} {d u : List Point} (hd : SRow d) (hu : SRow u) (ha : 0 < a) (hb : 0 < b) : joined a b d u = upperP (mergeP (d.map (taken a b)) (u.map (taken a b))) := by
 unfold joined
 rw [List.map_append,upper_hull (taken_row hd ha hb) (taken_row hu ha hb)]
structure Alike (l l' : List Point) : Prop where
 ne : l ≠ []
 ne' : l' ≠ []
 first : firstQ l = firstQ l'
 last : lastQ l = lastQ l'
theorem joined_alike {a b : Nat} {d u d' u' : List Point} (hd : SRow d) (hu : SRow u) (hd' : SRow d') (hu' : SRow u') (ha : 0 < a) (hb : 0 < b) (ed : Alike d d') (eu : Alike u u') : Alike (joined a b d u) (joined a b d' u') := by
 have n1 := joined_ne (b := b) hd hu ha ed.ne
 have n2 := joined_ne (b := b) hd' hu' ha ed.ne'
 have r1 := joined_row hd hu ha hb
 have r2 := joined_row hd' hu' ha hb
 have t1 := taken_row hd ha hb
 have t2 := taken_row hu ha hb
 have t3 := taken_row hd' ha hb
 have t4 := taken_row hu' ha hb
 have m1 : ∀ {l : List Point},l ≠ [] -> l.map (taken a b) ≠ [] := fun h => by simpa using h
 refine ⟨n1,n2,val_inj (first_wf r1 n1) (first_wf r2 n2) ?_,val_inj (last_wf r1 n1) (last_wf r2 n2) ?_⟩
 ·unfold joined
  rw [List.map_append,List.map_append,hull_first t1 t2 (m1 ed.ne) (m1 eu.ne),hull_first t3 t4 (m1 ed.ne') (m1 eu.ne'),taken_first ed.ne,taken_first eu.ne,taken_first ed.ne',taken_first eu.ne',ed.first,eu.first]
 ·unfold joined
  rw [List.map_append,List.map_append,hull_lastQ t1 t2 (m1 ed.ne) (m1 eu.ne),hull_lastQ t3 t4 (m1 ed.ne') (m1 eu.ne'),taken_last ed.ne,taken_last eu.ne,taken_last ed.ne',taken_last eu.ne',ed.last,eu.last]
theorem between_alike {lo hi : Frac} {l l' : List Point} (hs : SRow l) (hs' : SRow l') (h1 : Wf lo) (h2 : Wf hi) (e : Alike l l') (n : between lo hi l ≠ []) : Alike (between lo hi l) (between lo hi l') := by
 obtain ⟨_,a2,a3⟩ := between_row hs e.ne h1 h2
 obtain ⟨_,b2,b3⟩ := between_row hs' e.ne' h1 h2
 have ea : cutA lo l = cutA lo l' := by unfold cutA; rw [e.first]
 have eb : cutB hi l = cutB hi l' := by unfold cutB; rw [e.last]
 have n' : between lo hi l' ≠ [] := fun z => n (a2.mpr (by rw [ea,eb]; exact b2.mp z))
 exact ⟨n,n',by rw [(a3 n).1,(b3 n').1,ea],by rw [(a3 n).2,(b3 n').2,eb]⟩
theorem most_wf {x : Frac} (hx : Wf x) : ∀ {l : List Point},(∀ p ∈ l,PtWf p) -> Wf (most x l)
 | [],_ => whole_wf 0
 | [p],h => sub_wf (h p (by simp)).v (mul_wf (h p (by simp)).q hx)
 | p :: r :: l,h => greater_wf (sub_wf (h p (by simp)).v (mul_wf (h p (by simp)).q hx)) (most_wf hx fun y hy => h y (List.mem_cons_of_mem _ hy))
def mostP (x : Frac) (f : Frac) (l : List Point) : Frac := l.foldl (fun f p => greater f (sub p.v (mul p.q x))) f
theorem mostP_wf {x : Frac} (hx : Wf x) : ∀ {l : List Point} {f : Frac},Wf f -> (∀ p ∈ l,PtWf p) -> Wf (mostP x f l)
 | [],f,hf,_ => hf
 | p :: l,f,hf,h => mostP_wf (l := l) hx (greater_wf hf (sub_wf (h p (by simp)).v (mul_wf (h p (by simp)).q hx))) fun y hy => h y (List.mem_cons_of_mem _ hy)
theorem val_mostP {x : Frac} (hx : Wf x) : ∀ {l : List Point} {f : Frac},Wf f -> (∀ p ∈ l,PtWf p) -> l ≠ [] -> val (mostP x f l) = max (val f) (val (most x l))
 | [],_,_,_,h => absurd rfl h
 | [p],f,hf,h,_ => val_greater hf (sub_wf (h p (by simp)).v (mul_wf (h p (by simp)).q hx))
 | p :: r :: l,f,hf,h,_ => by
  have w := sub_wf (h p (by simp)).v (mul_wf (h p (by simp)).q hx)
  have h' : ∀ y ∈ r :: l,PtWf y := fun y hy => h y (List.mem_cons_of_mem _ hy)
  show val (mostP x (greater f (sub p.v (mul p.q x))) (r :: l)) = max (val f) (val (greater (sub p.v (mul p.q x)) (most x (r :: l))))
  rw [val_mostP hx (greater_wf hf w) h' (by simp),val_greater hf w,val_greater w (most_wf hx h')]
  grind
theorem mostP_eq {x : Frac} (hx : Wf x) {p : Point} {l : List Point} (h : ∀ y ∈ p :: l,PtWf y) : mostP x (sub p.v (mul p.q x)) (p :: l) = most x (p :: l) := by
 have w := sub_wf (h p (by simp)).v (mul_wf (h p (by simp)).q hx)
 refine val_inj (mostP_wf hx w h) (most_wf hx h) ?_
 rw [val_mostP hx w h (by simp)]
 cases l with
 | nil => show max _ (val (sub p.v (mul p.q x))) = val (sub p.v (mul p.q x)); grind
 | cons r l =>
  have h' : ∀ y ∈ r :: l,PtWf y := fun y hy => h y (List.mem_cons_of_mem _ hy)
  show max _ (val (greater (sub p.v (mul p.q x)) (most x (r :: l)))) = val (greater (sub p.v (mul p.q x)) (most x (r :: l)))
  rw [val_greater w (most_wf hx h')]
  grind
end CH
namespace CH
open Vbchal
def Sz (n d : Nat) (x : Frac) : Prop := x.num.natAbs <= 2 ^ n /\ x.den <= 2 ^ d
theorem pow_le {m n : Nat} (h : m <= n) : 2 ^ m <= 2 ^ n := Nat.pow_le_pow_right (by decide) h
theorem Sz.mono {n d n' d' : Nat} {x : Frac} (h : Sz n d x) (hn : n <= n') (hd : d <= d') : Sz n' d' x := ⟨Nat.le_trans h.1 (pow_le hn),Nat.le_trans h.2 (pow_le hd)⟩
theorem lowest_le (n : Int) (d : Nat) : (lowest n d).num.natAbs <= n.natAbs /\ (lowest n d).den <= d := by
 refine ⟨?_,Nat.div_le_self _ _⟩
 show (n / (Nat.gcd n.natAbs d : Int)).natAbs <= n.natAbs
 rw [Int.natAbs_ediv_of_dvd (Int.ofNat_dvd_left.mpr (Nat.gcd_dvd_left _ _))]
 exact Nat.div_le_self _ _
theorem lowest_sz {n : Int} {d a b : Nat} (h1 : n.natAbs <= 2 ^ a) (h2 : d <= 2 ^ b) : Sz a b (lowest n d) := ⟨Nat.le_trans (lowest_le n d).1 h1,Nat.le_trans (lowest_le n d).2 h2⟩
theorem mul_pow_le {a b m n : Nat} (h1 : a <= 2 ^ m) (h2 : b <= 2 ^ n) : a * b <= 2 ^ (m + n) := by
 rw [Nat.pow_add]
 exact Nat.mul_le_mul h1 h2
theorem mul_sz {n1 d1 n2 d2 : Nat} {x y : Frac} (hx : Sz n1 d1 x) (hy : Sz n2 d2 y) : Sz (n1 + n2) (d1 + d2) (mul x y) :=
 lowest_sz (by rw [Int.natAbs_mul]; exact mul_pow_le hx.1 hy.1) (mul_pow_le hx.2 hy.2)
theorem cross_le {n1 d1 n2 d2 : Nat} {x y : Frac} (hx : Sz n1 d1 x) (hy : Sz n2 d2 y) : (x.num * (y.den : Int)).natAbs <= 2 ^ (n1 + d2) := by
 rw [Int.natAbs_mul]
 exact mul_pow_le hx.1 (by simpa using hy.2)
theorem sum_le {a b : Int} {m n : Nat} (h1 : a.natAbs <= 2 ^ m) (h2 : b.natAbs <= 2 ^ n) : (a + b).natAbs <= 2 ^ (max m n + 1) := by
 have a1 := Nat.le_trans h1 (pow_le (Nat.le_max_left m n))
 have a2 := Nat.le_trans h2 (pow_le (Nat.le_max_right m n))
 have := Int.natAbs_add_le a b
 rw [Nat.pow_succ]
 omega
theorem add_sz {n1 d1 n2 d2 : Nat} {x y : Frac} (hx : Sz n1 d1 x) (hy : Sz n2 d2 y) : Sz (max (n1 + d2) (n2 + d1) + 1) (d1 + d2) (add x y) :=
 lowest_sz (sum_le (cross_le hx hy) (cross_le hy hx)) (mul_pow_le hx.2 hy.2)
theorem neg_sz {n d : Nat} {x : Frac} (h : Sz n d x) : Sz n d (neg x) := ⟨by show (-x.num).natAbs <= _; rw [Int.natAbs_neg]; exact h.1,h.2⟩
theorem sub_sz {n1 d1 n2 d2 : Nat} {x y : Frac} (hx : Sz n1 d1 x) (hy : Sz n2 d2 y) : Sz (max (n1 + d2) (n2 + d1) + 1) (d1 + d2) (sub x y) := add_sz hx (neg_sz hy)
theorem over_sz {n1 d1 n2 d2 : Nat} {x y : Frac} (hx : Sz n1 d1 x) (hy : Sz n2 d2 y) (h : 0 < y.num) : Sz (n1 + d2) (d1 + n2) (over x y) := by
 rw [over_pos h]
 exact lowest_sz (cross_le hx hy) (mul_pow_le hx.2 hy.1)
theorem greater_ind {P : Frac -> Prop} {x y : Frac} (hx : P x) (hy : P y) : P (greater x y) := by unfold greater; split <;> assumption
theorem lesser_ind {P : Frac -> Prop} {x y : Frac} (hx : P x) (hy : P y) : P (lesser x y) := by unfold lesser; split <;> assumption
theorem whole_sz {n : Int} {a : Nat} (h : n.natAbs <= 2 ^ a) : Sz a 0 (whole n) := ⟨h,Nat.le_refl _⟩
def RSz (nq dq nv dv : Nat) (l : List Point) : Prop := ∀ p ∈ l,Sz nq dq p.q /\ Sz nv dv p.v
theorem interp_sz {nq dq nv dv : Nat} {p r : Point} {q : Frac} (hp : PtWf p) (hr : PtWf r) (h : val p.q < val r.q) (sp : Sz nq dq p.q /\ Sz nv dv p.v) (sr : Sz nq dq r.q /\ Sz nv dv r.v) (sq : Sz nq dq q) :
  Sz (nv + 2 * dv + nq + 3 * dq + 3) (3 * dv + nq + 3 * dq + 1) (interp p r q) := by
 have a := over_sz (sub_sz sr.2 sp.2) (sub_sz sr.1 sp.1) (diff_pos hp hr h)
 have b := mul_sz a (sub_sz sq sp.1)
 exact (add_sz sp.2 b).mono (by omega) (by omega)
theorem taken_sz {n d a b : Nat} {x : Frac} (hx : Wf x) (h : Sz n d x) (ha : 0 < a) (ha2 : a <= 100) (hb2 : b <= 100) : Sz (n + 7) (d + 7) (over (mul x (whole (b : Int))) (whole (a : Int))) := by
 rw [taken_by hx ha]
 exact mul_sz h (lowest_sz (by omega) (by omega))
def NV : Nat -> Nat
 | 0 => 34
 | k + 1 => (NV k + 7) + 2 * (DV k + 7) + (14 + 7 * (k + 1)) + 3 * (7 * (k + 1)) + 3
where DV : Nat -> Nat
 | 0 => 0
 | k + 1 => 3 * (DV k + 7) + (14 + 7 * (k + 1)) + 3 * (7 * (k + 1)) + 1
abbrev DV := NV.DV
structure Good (k : Nat) (l : List Point) : Prop where
 row : SRow l
 ne : l ≠ []
 sz : RSz (14 + 7 * k) (7 * k) (NV k) (DV k) l
structure GoodR (k : Nat) (l : List Point) : Prop where
 row : SRow l
 ne : l ≠ []
 sz : RSz (14 + 7 * (k + 1)) (7 * (k + 1)) (NV k + 7) (DV k + 7) l
theorem joined_good {k a b : Nat} {d u : List Point} (hd : Good k d) (hu : Good k u) (ha : 0 < a) (hb : 0 < b) (ha2 : a <= 100) (hb2 : b <= 100) : GoodR k (joined a b d u) := by
 refine ⟨joined_row hd.row hu.row ha hb,joined_ne hd.row hu.row ha hd.ne,fun p hp => ?_⟩
 have hw : ∀ p ∈ (d ++ u).map (taken a b),PtWf p := fun p hp => by
  obtain ⟨r,hr,rfl⟩ := List.mem_map.mp hp
  exact taken_wf ((List.mem_append.mp hr).elim (hd.row.1 r) (hu.row.1 r)) ha
 obtain ⟨r,hr,rfl⟩ := List.mem_map.mp (hull_mem hw hp)
 have w : PtWf r := (List.mem_append.mp hr).elim (hd.row.1 r) (hu.row.1 r)
 have s := (List.mem_append.mp hr).elim (hd.sz r) (hu.sz r)
 exact ⟨(taken_sz w.q s.1 ha ha2 hb2).mono (by omega) (by omega),taken_sz w.v s.2 ha ha2 hb2⟩
theorem between_good {k : Nat} {lo hi : Frac} {l : List Point} (h : GoodR k l) (h1 : Wf lo) (h2 : Wf hi) (s1 : Sz 14 0 lo) (s2 : Sz 14 0 hi) (n : between lo hi l ≠ []) : Good (k + 1) (between lo hi l) := by
 obtain ⟨a1,_,_⟩ := between_row h.row h.ne h1 h2
 refine ⟨a1,n,fun p hp => ?_⟩
 have fs : Sz (14 + 7 * (k + 1)) (7 * (k + 1)) (firstQ l) := by
  obtain ⟨a,ha⟩ := head_of h.ne
  rw [firstQ_of ha]; exact (h.sz a (List.mem_of_mem_head? ha)).1
 have ls : Sz (14 + 7 * (k + 1)) (7 * (k + 1)) (lastQ l) := by
  obtain ⟨a,ha⟩ := last_of h.ne
  rw [lastQ_of ha]; exact (h.sz a (List.mem_of_getLast? ha)).1
 have sa : Sz (14 + 7 * (k + 1)) (7 * (k + 1)) (cutA lo l) := greater_ind (s1.mono (by omega) (by omega)) fs
 have sb : Sz (14 + 7 * (k + 1)) (7 * (k + 1)) (cutB hi l) := lesser_ind (s2.mono (by omega) (by omega)) ls
 have sv : ∀ q,Sz (14 + 7 * (k + 1)) (7 * (k + 1)) q -> Sz (NV (k + 1)) (DV (k + 1)) (valueAt q l) := fun q sq => by
  refine value_ind h.row h.ne (fun p hp => (h.sz p hp).2.mono ?_ ?_) fun p hp r hr hlt => (interp_sz (h.row.1 p hp) (h.row.1 r hr) hlt (h.sz p hp) (h.sz r hr) sq).mono ?_ ?_
  ·show NV k + 7 <= (NV k + 7) + 2 * (DV k + 7) + (14 + 7 * (k + 1)) + 3 * (7 * (k + 1)) + 3; omega
  ·show DV k + 7 <= 3 * (DV k + 7) + (14 + 7 * (k + 1)) + 3 * (7 * (k + 1)) + 1; omega
  ·exact Nat.le_refl _
  ·exact Nat.le_refl _
 rw [between_def lo hi h.ne] at hp
 split at hp
 ·simp at hp
 ·split at hp
  ·have : p = { q := cutA lo l,v := valueAt (cutA lo l) l } := by simpa using hp
   rw [this]; exact ⟨sa,sv _ sa⟩
  ·rcases List.mem_cons.mp hp with rfl | hp
   ·exact ⟨sa,sv _ sa⟩
   ·rcases List.mem_append.mp hp with hp | hp
    ·have s := h.sz p (List.mem_filter.mp hp).1
     refine ⟨s.1,s.2.mono ?_ ?_⟩
     ·show NV k + 7 <= (NV k + 7) + 2 * (DV k + 7) + (14 + 7 * (k + 1)) + 3 * (7 * (k + 1)) + 3; omega
     ·show DV k + 7 <= 3 * (DV k + 7) + (14 + 7 * (k + 1)) + 3 * (7 * (k + 1)) + 1; omega
    ·have : p = { q := cutB hi l,v := valueAt (cutB hi l) l } := by simpa using hp
     rw [this]; exact ⟨sb,sv _ sb⟩
theorem lastPoints_good {x : Quote} {cash units : Int} (h1 : x.bid <= x.ask) (h2 : x.ask <= 10000) (hc : cash.natAbs <= 1000000) (hu : units.natAbs <= 1000000) : Good 0 (lastPoints x cash units) := by
 have sz : ∀ p : Nat,p <= 10000 -> Sz 14 0 (whole (p : Int)) /\ Sz 34 0 (whole (cash + units * (p : Int))) := fun p hp => by
  refine ⟨whole_sz (by simp; omega),whole_sz ?_⟩
  have a := Int.natAbs_add_le cash (units * (p : Int))
  have b : (units * (p : Int)).natAbs <= 1000000 * 10000 := by rw [Int.natAbs_mul]; exact Nat.mul_le_mul hu (by simpa using hp)
  omega
 unfold lastPoints bidF askF
 by_cases e : x.bid = x.ask
 ·rw [if_pos e]
  refine ⟨⟨fun p hp => ?_,by simp⟩,by simp,fun p hp => ?_⟩
  ·rw [List.mem_singleton.mp hp]; exact ⟨whole_wf _,whole_wf _⟩
  ·rw [List.mem_singleton.mp hp]; exact sz x.bid (by omega)
 ·rw [if_neg e]
  refine ⟨⟨fun p hp => ?_,?_⟩,by simp,fun p hp => ?_⟩
  ·rcases List.mem_cons.mp hp with rfl | hp
   ·exact ⟨whole_wf _,whole_wf _⟩
   ·rw [List.mem_singleton.mp hp]; exact ⟨whole_wf _,whole_wf _⟩
  ·refine List.pairwise_cons.mpr ⟨fun p hp => ?_,by simp⟩
   rw [List.mem_singleton.mp hp]
   show val (whole _) < val (whole _)
   rw [val_whole,val_whole]
   have : (x.bid : Int) < (x.ask : Int) := by omega
   exact_mod_cast this
  ·rcases List.mem_cons.mp hp with rfl | hp
   ·exact sz x.bid (by omega)
   ·rw [List.mem_singleton.mp hp]; exact sz x.ask h2
end CH
namespace CH
open Vbchal
structure QOk (x : Quote) : Prop where
 lo : 1 <= x.bid
 le : x.bid <= x.ask
 hi : x.ask <= 10000
structure TOk (n : Nat) (t : Tree) : Prop where
 n1 : 1 <= n
 n4 : n <= 4
 len : t.rows.length = n + 1
 wid : ∀ i,i <= n -> (t.rows.getD i []).length = i + 1
 quo : ∀ i j,i <= n -> j <= i -> QOk (quoteAt t i j)
 b1 : 1 <= t.b
 ba : t.b <= t.a
 a2 : t.a <= 100
structure COk (n : Nat) (c : Claim) : Prop where
 cl : c.cash.length = n + 1
 ul : c.units.length = n + 1
 cs : ∀ z ∈ c.cash,z.natAbs <= 1000000
 us : ∀ z ∈ c.units,z.natAbs <= 1000000
theorem TOk.steps {n : Nat} {t : Tree} (h : TOk n t) : steps t = n := by unfold Vbchal.steps; rw [h.len]; rfl
theorem nothing_ok {n : Nat} {t : Tree} (h : TOk n t) : COk n (nothing t) := by
 unfold nothing
 rw [h.steps]
 refine ⟨by simp,by simp,fun z hz => ?_,fun z hz => ?_⟩ <;> (have := (List.mem_replicate.mp hz).2; omega)
def lev (t : Tree) (c : Claim) (i : Nat) : List (List Point) := (points t.a t.b c (t.rows.drop i)).headD []
theorem points_getD (a b : Nat) (c : Claim) : ∀ (rows : List (List Quote)) (i : Nat),(points a b c rows).getD i [] = (points a b c (rows.drop i)).headD []
 | [],i => by simp [points]
 | [now],0 => rfl
 | [now],i + 1 => by simp [points]
 | now :: next :: r,0 => rfl
 | now :: next :: r,i + 1 => by
  show (rowPoints a b now _ :: points a b c (next :: r)).getD (i + 1) [] = _
  rw [List.getD_cons_succ,points_getD a b c (next :: r) i]
  rfl
theorem at_lev (t : Tree) (c : Claim) (i j : Nat) : at_ (allPoints t c) i j = (lev t c i).getD j [] := by
 unfold at_ allPoints lev
 rw [points_getD]
theorem drop_get {α : Type} {d : α} : ∀ {l : List α} {i : Nat},i < l.length -> l.drop i = l.getD i d :: l.drop (i + 1)
 | [],i,h => by simp at h
 | a :: l,0,_ => rfl
 | a :: l,i + 1,h => by
  show l.drop i = l.getD i d :: l.drop (i + 1)
  exact drop_get (by simpa using h)
theorem lev_last {n : Nat} {t : Tree} (h : TOk n t) (c : Claim) : lev t c n = (List.range (n + 1)).map fun j => lastPoints (quoteAt t n j) (c.cash.getD j 0) (c.units.getD j 0) := by
 have e : t.rows.drop n = [t.rows.getD n []] := by
  rw [drop_get (d := []) (by rw [h.len]; omega),List.drop_eq_nil_of_le (by rw [h.len]; omega)]
 unfold lev
 rw [e]
 show (List.range (t.rows.getD n []).length).map _ = _
 rw [h.wid n (Nat.le_refl _)]
 rfl
theorem lev_step {n : Nat} {t : Tree} (h : TOk n t) (c : Claim) {i : Nat} (hi : i < n) :
  lev t c i = (List.range (i + 1)).map fun j => between (bidF (quoteAt t i j)) (askF (quoteAt t i j)) (joined t.a t.b ((lev t c (i + 1)).getD j []) ((lev t c (i + 1)).getD (j + 1) [])) := by
 have e1 : t.rows.drop i = t.rows.getD i [] :: t.rows.drop (i + 1) := drop_get (by rw [h.len]; omega)
 have e2 : t.rows.drop (i + 1) = t.rows.getD (i + 1) [] :: t.rows.drop (i + 1 + 1) := drop_get (by rw [h.len]; omega)
 have e3 : lev t c i = rowPoints t.a t.b (t.rows.getD i []) (lev t c (i + 1)) := by
  unfold lev
  rw [e1,e2]
  rfl
 rw [e3]
 show (List.range (t.rows.getD i []).length).map _ = _
 rw [h.wid i (by omega)]
 rfl
theorem getD_map_range {α : Type} {f : Nat -> α} {d : α} {m j : Nat} (h : j < m) : ((List.range m).map f).getD j d = f j := by
 rw [List.getD_eq_getElem?_getD,List.getElem?_map,List.getElem?_range h]
 rfl
theorem lev_last_at {n : Nat} {t : Tree} (h : TOk n t) (c : Claim) {j : Nat} (hj : j <= n) : (lev t c n).getD j [] = lastPoints (quoteAt t n j) (c.cash.getD j 0) (c.units.getD j 0) := by
 rw [lev_last h,getD_map_range (by omega)]
theorem lev_step_at {n : Nat} {t : Tree} (h : TOk n t) (c : Claim) {i j : Nat} (hi : i < n) (hj : j <= i) :
  (lev t c i).getD j [] = between (bidF (quoteAt t i j)) (askF (quoteAt t i j)) (joined t.a t.b ((lev t c (i + 1)).getD j []) ((lev t c (i + 1)).getD (j + 1) [])) := by
 rw [lev_step h c hi,getD_map_range (by omega)]
theorem lev_len {n : Nat} {t : Tree} (h : TOk n t) (c : Claim) {i : Nat} (hi : i <= n) : (lev t c i).length = i + 1 := by
 by_cases e : i = n
 ·subst e; rw [lev_last h]; simp
 ·rw [lev_step h c (by omega)]; simp
theorem bidF_sz {x : Quote} (h : QOk x) : Sz 14 0 (bidF x) := whole_sz (by have := h.le; have := h.hi; simp; omega)
theorem askF_sz {x : Quote} (h : QOk x) : Sz 14 0 (askF x) := whole_sz (by have := h.hi; simp; omega)
theorem last_alike {x : Quote} {a b c d : Int} : Alike (lastPoints x a b) (lastPoints x c d) := by
 unfold lastPoints
 by_cases e : x.bid = x.ask
 ·rw [if_pos e,if_pos e]; exact ⟨by simp,by simp,rfl,rfl⟩
 ·rw [if_neg e,if_neg e]; exact ⟨by simp,by simp,rfl,rfl⟩
theorem getD_all {l : List Int} {j : Nat} {B : Nat} (h : ∀ z ∈ l,z.natAbs <= B) : (l.getD j 0).natAbs <= B := by
 rw [List.getD_eq_getElem?_getD]
 cases e : l[j]? with
 | none => simp
 | some z => exact h z (List.mem_of_getElem? e)
theorem good_lev {n : Nat} {t : Tree} (h : TOk n t) {c : Claim} (hc : COk n c) : ∀ (k i : Nat),i + k = n -> (∀ i' j',i <= i' -> i' <= n -> j' <= i' -> (lev t (nothing t) i').getD j' [] ≠ []) ->
  ∀ j,j <= i -> Good k ((lev t c i).getD j []) /\ Good k ((lev t (nothing t) i).getD j []) /\ Alike ((lev t (nothing t) i).getD j []) ((lev t c i).getD j [])
 | 0,i,e,_,j,hj => by
  have e : i = n := by omega
  subst e
  have q := h.quo i j (Nat.le_refl _) hj
  have hc0 := nothing_ok h
  rw [lev_last_at h c hj,lev_last_at h _ hj]
  exact ⟨lastPoints_good q.le q.hi (getD_all hc.cs) (getD_all hc.us),lastPoints_good q.le q.hi (getD_all hc0.cs) (getD_all hc0.us),last_alike⟩
 | k + 1,i,e,hn,j,hj => by
  have q := h.quo i j (by omega) hj
  have ih := good_lev h hc k (i + 1) (by omega) fun i' j' h1 h2 h3 => hn i' j' (by omega) h2 h3
  obtain ⟨d1,d2,d3⟩ := ih j (by omega)
  obtain ⟨u1,u2,u3⟩ := ih (j + 1) (by omega)
  have ha : 0 < t.a := by have := h.b1; have := h.ba; omega
  have hb : 0 < t.b := h.b1
  have ha2 := h.a2
  have hb2 : t.b <= 100 := Nat.le_trans h.ba h.a2
  have g1 := joined_good d1 u1 ha hb ha2 hb2
  have g2 := joined_good d2 u2 ha hb ha2 hb2
  have al := joined_alike d2.row u2.row d1.row u1.row ha hb d3 u3
  have n0 := hn i j (Nat.le_refl _) (by omega) hj
  rw [lev_step_at h _ (by omega) hj] at n0
  have al2 := between_alike g2.row g1.row (whole_wf _) (whole_wf _) al n0
  rw [lev_step_at h c (by omega) hj,lev_step_at h _ (by omega) hj]
  exact ⟨between_good g1 (whole_wf _) (whole_wf _) (bidF_sz q) (askF_sz q) al2.ne',between_good g2 (whole_wf _) (whole_wf _) (bidF_sz q) (askF_sz q) n0,al2⟩
theorem points_len (a b : Nat) (c : Claim) : ∀ rows : List (List Quote),(points a b c rows).length = rows.length
 | [] => rfl
 | [now] => rfl
 | now :: next :: r => by
  show (rowPoints a b now _ :: points a b c (next :: r)).length = _
  rw [List.length_cons,points_len a b c (next :: r)]
  rfl
theorem mem_getD {α : Type} {d : α} {l : List α} {x : α} (h : x ∈ l) : ∃ i,i < l.length /\ l.getD i d = x := by
 obtain ⟨i,hi,e⟩ := List.getElem_of_mem h
 refine ⟨i,hi,?_⟩
 rw [List.getD_eq_getElem?_getD,List.getElem?_eq_getElem hi,e]; rfl
theorem getD_mem {α : Type} {d : α} {l : List α} {i : Nat} (h : i < l.length) : l.getD i d ∈ l := by
 rw [List.getD_eq_getElem?_getD,List.getElem?_eq_getElem h]
 exact List.getElem_mem h
theorem fair_iff {n : Nat} {t : Tree} (h : TOk n t) : fair t = true ↔ ∀ i j,i <= n -> j <= i -> (lev t (nothing t) i).getD j [] ≠ [] := by
 unfold fair
 have L : (allPoints t (nothing t)).length = n + 1 := by unfold allPoints; rw [points_len,h.len]
 have G : ∀ i,(allPoints t (nothing t)).getD i [] = lev t (nothing t) i := fun i => by unfold allPoints lev; rw [points_getD]
 constructor
 ·intro hf i j hi hj e
  have a := List.all_eq_true.mp hf _ (getD_mem (d := []) (l := allPoints t (nothing t)) (i := i) (by omega))
  rw [G] at a
  have b := List.all_eq_true.mp a _ (getD_mem (d := []) (l := lev t (nothing t) i) (i := j) (by rw [lev_len h _ hi]; omega))
  rw [e] at b
  simp at b
 ·intro hf
  refine List.all_eq_true.mpr fun row hr => List.all_eq_true.mpr fun l hl => ?_
  obtain ⟨i,hi,e1⟩ := mem_getD (d := []) hr
  rw [G] at e1
  subst e1
  obtain ⟨j,hj,e2⟩ := mem_getD (d := []) hl
  rw [lev_len h _ (by omega)] at hj
  have := hf i j (by omega) (by omega)
  rw [e2] at this
  cases l with
  | nil => exact absurd rfl this
  | cons _ _ => rfl
theorem good_at {n : Nat} {t : Tree} (h : TOk n t) (hf : fair t = true) {c : Claim} (hc : COk n c) {i j : Nat} (hi : i <= n) (hj : j <= i) : Good (n - i) ((lev t c i).getD j []) :=
 (good_lev h hc (n - i) i (by omega) (fun i' j' _ h2 h3 => (fair_iff h).mp hf i' j' h2 h3) j hj).1
theorem goodR_at {n : Nat} {t : Tree} (h : TOk n t) (hf : fair t = true) {c : Claim} (hc : COk n c) {i j k : Nat} (hi : i + k + 1 = n) (hj : j <= i) : GoodR k (joined t.a t.b ((lev t c (i + 1)).getD j []) ((lev t c (i + 1)).getD (j + 1) [])) := by
 have a := good_at h hf hc (i := i + 1) (j := j) (by omega) (by omega)
 have b := good_at h hf hc (i := i + 1) (j := j + 1) (by omega) (by omega)
 have e : n - (i + 1) = k := by omega
 rw [e] at a b
 exact joined_good a b (by have := h.b1; have := h.ba; omega) h.b1 h.a2 (Nat.le_trans h.ba h.a2)
theorem cutRows_len : ∀ (k w : Nat) (l : List Quote),(cutRows k w l).length = k
 | 0,_,_ => rfl
 | k + 1,w,l => by
  show (_ :: cutRows k (w + 1) (l.drop w)).length = _
  rw [List.length_cons,cutRows_len]
def tri (i : Nat) : Nat := i * (i + 1) / 2
theorem tri_succ (i : Nat) : tri (i + 1) = tri i + (i + 1) := by
 unfold tri
 have : (i + 1) * (i + 1 + 1) = i * (i + 1) + 2 * (i + 1) := by grind
 omega
theorem cutRows_at : ∀ (k w : Nat) (l : List Quote) (i : Nat),i < k -> (cutRows k w l).getD i [] = (l.drop (i * w + tri i - i)).take (w + i)
 | 0,_,_,_,h => by omega
 | k + 1,w,l,0,_ => by simp [cutRows,tri]
 | k + 1,w,l,i + 1,h => by
  show (cutRows k (w + 1) (l.drop w)).getD i [] = _
  rw [cutRows_at k (w + 1) (l.drop w) i (by omega),List.drop_drop]
  have e : i <= tri i := by
   unfold tri
   cases i with
   | zero => simp
   | succ i =>
    have : 2 * (i + 1) <= (i + 1) * (i + 1 + 1) := by
     rw [Nat.mul_comm 2]; exact Nat.mul_le_mul_left _ (by omega)
    omega
  have e2 := tri_succ i
  have e3 : i * (w + 1) = i * w + i := by grind
  have e4 : (i + 1) * w = i * w + w := by grind
  congr 1
  ·omega
  ·congr 1
   omega
end CH
namespace CH
open Vbchal
def treeOf (n : Nat) (a b : Nat) (bids asks : List Int) : Tree := { a := a,b := b,rows := cutRows (n + 1) 1 (quotesOf (nats bids) (nats asks)) }
theorem count_tri (n : Nat) : count n = tri (n + 1) := by
 unfold count tri
 rfl
theorem tri_mono {i j : Nat} (h : i <= j) : tri i <= tri j := by
 unfold tri
 exact Nat.div_le_div_right (Nat.mul_le_mul h (by omega))
theorem tri_lt {n i j : Nat} (hi : i <= n) (hj : j <= i) : tri i + j < tri (n + 1) := by
 have := tri_mono (i := i + 1) (j := n + 1) (by omega)
 rw [tri_succ] at this
 omega
theorem row_of {n : Nat} {a b : Nat} {bids asks : List Int} {i : Nat} (hi : i <= n) : (treeOf n a b bids asks).rows.getD i [] = ((quotesOf (nats bids) (nats asks)).drop (tri i)).take (i + 1) := by
 show (cutRows (n + 1) 1 _).getD i [] = _
 rw [cutRows_at (n + 1) 1 _ i (by omega)]
 have : i * 1 + tri i - i = tri i := by omega
 rw [this,Nat.add_comm 1 i]
theorem quotes_len {bids asks : List Int} (h : bids.length = asks.length) : (quotesOf (nats bids) (nats asks)).length = bids.length := by
 unfold quotesOf nats
 simp
 omega
theorem quotes_at {bids asks : List Int} {k : Nat} (h1 : k < bids.length) (h2 : k < asks.length) : (quotesOf (nats bids) (nats asks))[k]? = some { bid := (bids.getD k 0).toNat,ask := (asks.getD k 0).toNat } := by
 unfold quotesOf nats
 have e : ((bids.map Int.toNat).zip (asks.map Int.toNat))[k]? = some ((bids.getD k 0).toNat,(asks.getD k 0).toNat) := by
  refine List.getElem?_zip_eq_some.mpr ⟨?_,?_⟩
  ·show _ = some (bids.getD k 0).toNat
   rw [List.getElem?_map,List.getD_eq_getElem?_getD,List.getElem?_eq_getElem h1]; rfl
  ·show _ = some (asks.getD k 0).toNat
   rw [List.getElem?_map,List.getD_eq_getElem?_getD,List.getElem?_eq_getElem h2]; rfl
 rw [List.getElem?_map,e]
 rfl
theorem quote_of {n : Nat} {a b : Nat} {bids asks : List Int} (hb : bids.length = tri (n + 1)) (ha : asks.length = tri (n + 1)) {i j : Nat} (hi : i <= n) (hj : j <= i) :
  quoteAt (treeOf n a b bids asks) i j = { bid := (bids.getD (tri i + j) 0).toNat,ask := (asks.getD (tri i + j) 0).toNat } := by
 have hl := tri_lt hi hj
 unfold quoteAt
 rw [row_of hi,List.getD_eq_getElem?_getD,List.getElem?_take,if_pos (by omega),List.getElem?_drop,quotes_at (by omega) (by omega)]
 rfl
theorem getD_in {l : List Int} {k : Nat} (h : k < l.length) : l.getD k 0 ∈ l := by
 rw [List.getD_eq_getElem?_getD,List.getElem?_eq_getElem h]
 exact List.getElem_mem h
theorem within_iff {n : Int} {lo hi : Nat} : Vbchal.within n lo hi = true ↔ (lo : Int) <= n /\ n <= (hi : Int) := by
 unfold Vbchal.within
 rw [Bool.and_eq_true,decide_eq_true_iff,decide_eq_true_iff]
theorem tree_ok {n : Nat} {a b : Nat} {bids asks : List Int} (n1 : 1 <= n) (n4 : n <= 4) (b1 : 1 <= b) (ba : b <= a) (a2 : a <= 100) (hb : bids.length = tri (n + 1)) (ha : asks.length = tri (n + 1))
  (h4 : ((bids ++ asks).all fun p => Vbchal.within p 1 TOP) = true) (h5 : ((bids.zip asks).all fun x => decide (x.1 <= x.2)) = true) : TOk n (treeOf n a b bids asks) := by
 refine ⟨n1,n4,cutRows_len _ _ _,fun i hi => ?_,fun i j hi hj => ?_,b1,ba,a2⟩
 ·have := tri_mono (i := i + 1) (j := n + 1) (by omega)
  rw [tri_succ] at this
  rw [row_of hi,List.length_take,List.length_drop,quotes_len (by omega)]
  omega
 ·have hl := tri_lt hi hj
  rw [quote_of hb ha hi hj]
  have m1 := within_iff.mp (List.all_eq_true.mp h4 _ (List.mem_append_left _ (getD_in (l := bids) (k := tri i + j) (by omega))))
  have m2 := within_iff.mp (List.all_eq_true.mp h4 _ (List.mem_append_right _ (getD_in (l := asks) (k := tri i + j) (by omega))))
  have z : (bids.getD (tri i + j) 0,asks.getD (tri i + j) 0) ∈ bids.zip asks := by
   refine List.mem_of_getElem? (i := tri i + j) (List.getElem?_zip_eq_some.mpr ⟨?_,?_⟩)
   ·show _ = some (bids.getD (tri i + j) 0)
    rw [List.getD_eq_getElem?_getD,List.getElem?_eq_getElem (by omega)]; rfl
   ·show _ = some (asks.getD (tri i + j) 0)
    rw [List.getD_eq_getElem?_getD,List.getElem?_eq_getElem (by omega)]; rfl
  have m3 := of_decide_eq_true (List.all_eq_true.mp h5 _ z)
  have t : (TOP : Int) = 10000 := rfl
  have m3' : bids.getD (tri i + j) 0 <= asks.getD (tri i + j) 0 := m3
  refine ⟨?_,?_,?_⟩ <;> (dsimp only; omega)
end CH
namespace CH
open Vbchal
def slope (p r : Point) : Frac := over (sub r.v p.v) (sub r.q p.q)
theorem slope_wf {p r : Point} (hp : PtWf p) (hr : PtWf r) (h : val p.q < val r.q) : Wf (slope p r) := by
 have := diff_pos hp hr h
 exact over_wf (sub_wf hr.v hp.v) (by omega)
theorem slope_sz {nq dq nv dv : Nat} {p r : Point} (hp : PtWf p) (hr : PtWf r) (h : val p.q < val r.q) (sp : Sz nq dq p.q /\ Sz nv dv p.v) (sr : Sz nq dq r.q /\ Sz nv dv r.v) :
  Sz (nv + dv + 1 + 2 * dq) (2 * dv + nq + dq + 1) (slope p r) :=
 (over_sz (sub_sz sr.2 sp.2) (sub_sz sr.1 sp.1) (diff_pos hp hr h)).mono (by omega) (by omega)
theorem above_cons {q : Frac} {p r : Point} {l : List Point} : slopeAbove q (p :: r :: l) = if le p.q q = true /\ less q r.q = true then some (slope p r) else slopeAbove q (r :: l) := rfl
theorem below_cons {q : Frac} {p r : Point} {l : List Point} : slopeBelow q (p :: r :: l) = if less p.q q = true /\ le q r.q = true then some (slope p r) else slopeBelow q (r :: l) := rfl
theorem above_ind {P : Frac -> Prop} {q : Frac} : ∀ {l : List Point},SRow l -> (∀ p ∈ l,∀ r ∈ l,val p.q < val r.q -> P (slope p r)) -> ∀ y,slopeAbove q l = some y -> P y
 | [],_,_,y,e => by simp [slopeAbove] at e
 | [p],_,_,y,e => by simp [slopeAbove] at e
 | p :: r :: l,hs,h,y,e => by
  rw [above_cons] at e
  split at e
  ·rw [<- Option.some.inj e]
   exact h p (by simp) r (by simp) (hs.lt (by simp))
  ·exact above_ind hs.tail (fun x hx z hz => h x (List.mem_cons_of_mem _ hx) z (List.mem_cons_of_mem _ hz)) y e
theorem below_ind {P : Frac -> Prop} {q : Frac} : ∀ {l : List Point},SRow l -> (∀ p ∈ l,∀ r ∈ l,val p.q < val r.q -> P (slope p r)) -> ∀ y,slopeBelow q l = some y -> P y
 | [],_,_,y,e => by simp [slopeBelow] at e
 | [p],_,_,y,e => by simp [slopeBelow] at e
 | p :: r :: l,hs,h,y,e => by
  rw [below_cons] at e
  split at e
  ·rw [<- Option.some.inj e]
   exact h p (by simp) r (by simp) (hs.lt (by simp))
  ·exact below_ind hs.tail (fun x hx z hz => h x (List.mem_cons_of_mem _ hx) z (List.mem_cons_of_mem _ hz)) y e
def SN (k : Nat) : Nat := (NV k + 7) + (DV k + 7) + 1 + 2 * (7 * (k + 1))
def SD (k : Nat) : Nat := 2 * (DV k + 7) + (14 + 7 * (k + 1)) + 7 * (k + 1) + 1
theorem slope_good {k : Nat} {l : List Point} (h : GoodR k l) {p r : Point} (hp : p ∈ l) (hr : r ∈ l) (hlt : val p.q < val r.q) : Wf (slope p r) /\ Sz (SN k) (SD k) (slope p r) :=
 ⟨slope_wf (h.row.1 p hp) (h.row.1 r hr) hlt,slope_sz (h.row.1 p hp) (h.row.1 r hr) hlt (h.sz p hp) (h.sz r hr)⟩
def planBy (bid ask : Frac) (l : List Point) (x : Frac) : Frac :=
 match slopeAbove ask l,slopeBelow bid l with
 | some y,some z => if less x y = true then y else if less z x = true then z else x
 | some y,none => if less x y = true then y else x
 | none,some z => if less z x = true then z else x
 | none,none => x
theorem plan_by (t : Tree) (w : List (List (List Point))) (i j : Nat) (x : Frac) : plan t w i j x = planBy (bidF (quoteAt t i j)) (askF (quoteAt t i j)) (ahead t w i j) x := rfl
theorem plan_ind {P : Frac -> Prop} {bid ask : Frac} {l : List Point} {x : Frac} (hs : SRow l) (h : ∀ p ∈ l,∀ r ∈ l,val p.q < val r.q -> P (slope p r)) (hx : P x) : P (planBy bid ask l x) := by
 unfold planBy
 split
 ·rename_i y z e1 e2
  split
  ·exact above_ind hs h _ e1
  ·split
   ·exact below_ind hs h _ e2
   ·exact hx
 ·rename_i y e1 e2
  split
  ·exact above_ind hs h _ e1
  ·exact hx
 ·rename_i z e1 e2
  split
  ·exact below_ind hs h _ e2
  ·exact hx
 ·exact hx
def Vb (m : Nat) (x : Frac) : Prop := x.num.natAbs <= 2 ^ m * x.den
theorem Sz.vb {n d : Nat} {x : Frac} (w : Wf x) (h : Sz n d x) : Vb n x := Nat.le_trans h.1 (Nat.le_mul_of_pos_right _ w.1)
theorem Vb.mono {m m' : Nat} {x : Frac} (h : Vb m x) (l : m <= m') : Vb m' x := Nat.le_trans h (Nat.mul_le_mul_right _ (pow_le l))
theorem Vb.sz {m d : Nat} {x : Frac} (h : Vb m x) (hd : x.den <= 2 ^ d) : Sz (m + d) d x := ⟨Nat.le_trans h (by rw [Nat.pow_add]; exact Nat.mul_le_mul_left _ hd),hd⟩
theorem vb_iff {m : Nat} {x : Frac} (w : Wf x) : Vb m x ↔ val x <= ((2 ^ m : Nat) : Rat) /\ -((2 ^ m : Nat) : Rat) <= val x := by
 have hd := cast_pos w.1
 have e : (x.num : Rat) = val x * (x.den : Rat) := by rw [val_div w]; have := den_ne w; grind
 have key : Vb m x ↔ (x.num <= ((2 ^ m * x.den : Nat) : Int) /\ -((2 ^ m * x.den : Nat) : Int) <= x.num) := by unfold Vb; omega
 have c1 : (x.num <= ((2 ^ m * x.den : Nat) : Int)) ↔ ((x.num : Rat) <= (((2 ^ m * x.den : Nat) : Int) : Rat)) := (Rat.intCast_le_intCast).symm
 have c2 : (-((2 ^ m * x.den : Nat) : Int) <= x.num) ↔ (((-((2 ^ m * x.den : Nat) : Int) : Int) : Rat) <= (x.num : Rat)) := (Rat.intCast_le_intCast).symm
 have c3 : ((((2 ^ m * x.den : Nat) : Int)) : Rat) = ((2 ^ m : Nat) : Rat) * (x.den : Rat) := by push_cast; rfl
 have c4 : (((-((2 ^ m * x.den : Nat) : Int) : Int)) : Rat) = -(((2 ^ m : Nat) : Rat)) * (x.den : Rat) := by push_cast; grind
 rw [key,c1,c2,c3,c4,e]
 generalize ((2 ^ m : Nat) : Rat) = M at *
 constructor
 ·rintro ⟨h1,h2⟩
  exact ⟨Rat.le_of_mul_le_mul_right h1 hd,Rat.le_of_mul_le_mul_right h2 hd⟩
 ·rintro ⟨h1,h2⟩
  exact ⟨Rat.mul_le_mul_of_nonneg_right h1 (Rat.le_of_lt hd),Rat.mul_le_mul_of_nonneg_right h2 (Rat.le_of_lt hd)⟩
theorem sub_vb {m : Nat} {x y : Frac} (wx : Wf x) (wy : Wf y) (hx : Vb m x) (hy : Vb m y) : Vb (m + 1) (sub x y) := by
 rw [vb_iff wx] at hx
 rw [vb_iff wy] at hy
 rw [vb_iff (sub_wf wx wy),val_sub wx wy]
 have : ((2 ^ (m + 1) : Nat) : Rat) = 2 * ((2 ^ m : Nat) : Rat) := by
  rw [Nat.pow_succ]; push_cast; grind
 rw [this]
 grind
theorem abs_mul {a b c d : Rat} (h1 : a <= c) (h2 : -c <= a) (h3 : b <= d) (h4 : -d <= b) (hc : 0 <= c) (hd : 0 <= d) : a * b <= c * d /\ -(c * d) <= a * b := by
 by_cases hb : 0 <= b
 ·have x1 := Rat.mul_le_mul_of_nonneg_right h1 hb
  have x2 := Rat.mul_le_mul_of_nonneg_right h2 hb
  have x3 := Rat.mul_le_mul_of_nonneg_left h3 hc
  grind
 ·have hb' : 0 <= -b := by grind
  have x1 := Rat.mul_le_mul_of_nonneg_right h1 hb'
  have x2 := Rat.mul_le_mul_of_nonneg_right h2 hb'
  have x3 := Rat.mul_le_mul_of_nonneg_left (show -b <= d by grind) hc
  grind
theorem mul_vb {m n : Nat} {x y : Frac} (wx : Wf x) (wy : Wf y) (hx : Vb m x) (hy : Vb n y) : Vb (m + n) (mul x y) := by
 rw [vb_iff wx] at hx
 rw [vb_iff wy] at hy
 rw [vb_iff (mul_wf wx wy),val_mul wx wy]
 have : ((2 ^ (m + n) : Nat) : Rat) = ((2 ^ m : Nat) : Rat) * ((2 ^ n : Nat) : Rat) := by
  rw [Nat.pow_add]; push_cast; rfl
 rw [this]
 have p1 : (0 : Rat) <= ((2 ^ m : Nat) : Rat) := Rat.le_of_lt (cast_pos (Nat.two_pow_pos m))
 have p2 : (0 : Rat) <= ((2 ^ n : Nat) : Rat) := Rat.le_of_lt (cast_pos (Nat.two_pow_pos n))
 exact abs_mul hx.1 hx.2 hy.1 hy.2 p1 p2
end CH
namespace CH
open Vbchal
theorem sub_self {x : Frac} (h : Wf x) : sub x x = whole 0 := by
 refine val_inj (sub_wf h h) (whole_wf 0) ?_
 rw [val_sub h h,val_whole]
 grind
theorem sub_zero {x : Frac} (h : Wf x) : sub x (whole 0) = x := by
 refine val_inj (sub_wf h (whole_wf 0)) h ?_
 rw [val_sub h (whole_wf 0),val_whole]
 grind
theorem cost_wf {x : Quote} {d : Frac} (h : Wf d) : Wf (cost x d) := by
 unfold cost
 split <;> exact mul_wf h (whole_wf _)
theorem cost_zero (x : Quote) : cost x (whole 0) = whole 0 := by
 unfold cost
 rw [if_pos (show (0 : Int) <= (whole 0).num by decide)]
 refine val_inj (mul_wf (whole_wf 0) (whole_wf _)) (whole_wf 0) ?_
 rw [val_mul (whole_wf 0) (show Wf (askF x) from whole_wf _),val_whole]
 grind
theorem cost_sz {n d : Nat} {x : Quote} {y : Frac} (q : QOk x) (h : Sz n d y) : Sz (n + 14) d (cost x y) := by
 unfold cost
 split
 ·exact (mul_sz h (askF_sz q)).mono (by omega) (by omega)
 ·exact (mul_sz h (bidF_sz q)).mono (by omega) (by omega)
theorem whole_vb {n : Int} {a : Nat} (h : n.natAbs <= 2 ^ a) : Vb a (whole n) := (whole_sz h).vb (whole_wf n)
theorem cost_vb {m : Nat} {x : Quote} {y : Frac} (q : QOk x) (w : Wf y) (h : Vb m y) : Vb (m + 14) (cost x y) := by
 have := q.le
 have := q.hi
 unfold cost
 split
 ·exact mul_vb w (whole_wf _) h (whole_vb (by simp; omega))
 ·exact mul_vb w (whole_wf _) h (whole_vb (by simp; omega))
def PH (r : Nat) : Nat := if r = 4 then 3092 else if r = 3 then 7157 else if r = 2 then 8442 else if r = 1 then 8819 else 8912
def PM (r : Nat) : Nat := 3135 + 8 * (4 - r)
structure PuOk (r : Nat) (p : Purse) : Prop where
 wc : Wf p.cash
 wu : Wf p.units
 ex : ∃ cd un ud,p.cash.den <= 2 ^ cd /\ Sz un ud p.units /\ cd + ud <= PH r /\ un <= 2055 /\ ud <= 2029
 vb : Vb (PM r) p.cash
theorem PH_step {r : Nat} (h : r <= 3) : PH (r + 1) + 2 * SD r + 7 <= PH r /\ SN r <= 2055 /\ SD r <= 2029 /\ PH r <= 8912 := by
 rcases (by omega : r = 0 \/ r = 1 \/ r = 2 \/ r = 3) with rfl | rfl | rfl | rfl <;> decide
theorem trade_ok {r : Nat} {p : Purse} {q : Quote} {y : Frac} (hr : r <= 3) (h : PuOk (r + 1) p) (hq : QOk q) (hy : y = p.units \/ (Wf y /\ Sz (SN r) (SD r) y)) :
  Wf y /\ Wf (sub y p.units) /\ Wf (cost q (sub y p.units)) /\ Wf (sub p.cash (cost q (sub y p.units))) /\
  (∃ cd un ud,(sub p.cash (cost q (sub y p.units))).den <= 2 ^ cd /\ Sz un ud y /\ cd + ud + 7 <= PH r /\ un <= 2055 /\ ud <= 2029) /\ Vb (PM (r + 1) + 1) (sub p.cash (cost q (sub y p.units))) /\
  Sz 5000 4100 (sub y p.units) /\ Sz 5000 4100 (cost q (sub y p.units)) /\ p.cash.den * (cost q (sub y p.units)).den <= 2 ^ 8912 := by
 obtain ⟨h1,h2,⟨cd,un,ud,e1,e2,e3,e4,e5⟩,h4⟩ := h
 obtain ⟨s1,s2,s3,s4⟩ := PH_step hr
 have mono : PM (r + 1) + 1 <= PM (r + 1) + 1 := Nat.le_refl _
 rcases hy with rfl | ⟨wy,sy⟩
 ·rw [sub_self h2,cost_zero,sub_zero h1]
  refine ⟨h2,whole_wf 0,whole_wf 0,h1,⟨cd,un,ud,e1,e2,by omega,e4,e5⟩,h4.mono (by omega),(whole_sz (a := 0) (by decide)).mono (by omega) (by omega),(whole_sz (a := 0) (by decide)).mono (by omega) (by omega),?_⟩
  exact Nat.le_trans (by show p.cash.den * 1 <= 2 ^ cd; omega) (pow_le (by omega))
 ·have ws := sub_wf wy h2
  have wc := cost_wf (x := q) ws
  have a := sub_sz sy e2
  have b := cost_sz hq a
  have c : p.cash.den * (cost q (sub y p.units)).den <= 2 ^ (cd + (SD r + ud)) := mul_pow_le e1 b.2
  have d : (sub p.cash (cost q (sub y p.units))).den <= 2 ^ (cd + (SD r + ud)) := Nat.le_trans (lowest_le _ _).2 c
  refine ⟨wy,ws,wc,sub_wf h1 wc,⟨cd + (SD r + ud),SN r,SD r,d,sy,by omega,s2,s3⟩,?_,a.mono (by omega) (by omega),b.mono (by omega) (by omega),Nat.le_trans c (pow_le (by omega))⟩
  have v1 := sy.vb wy
  have v2 := e2.vb h2
  have v3 := sub_vb wy h2 (v1.mono (show SN r <= 2055 from s2)) (v2.mono e4)
  have v4 := cost_vb hq ws v3
  exact sub_vb h1 wc h4 (v4.mono (by unfold PM; omega))
theorem grow_by {x : Frac} {a b : Nat} (hx : Wf x) (hb : 0 < b) : over (mul x (whole (a : Int))) (whole (b : Int)) = mul x (lowest (a : Int) b) := taken_by hx hb
theorem grow_vb {m : Nat} {x : Frac} {a b : Nat} (hx : Wf x) (h : Vb m x) (hb : 0 < b) (ha : a <= 100) : Vb (m + 7) (over (mul x (whole (a : Int))) (whole (b : Int))) := by
 rw [grow_by hx hb]
 exact mul_vb hx (lowest_wf _ hb) h ((lowest_sz (n := (a : Int)) (d := b) (a := 7) (b := b) (by omega) (Nat.le_of_lt Nat.lt_two_pow_self)).vb (lowest_wf _ hb))
theorem grow_den {d : Nat} {x : Frac} {a b : Nat} (hx : Wf x) (h : x.den <= 2 ^ d) (hb : 0 < b) (hb2 : b <= 100) : (over (mul x (whole (a : Int))) (whole (b : Int))).den <= 2 ^ (d + 7) := by
 rw [grow_by hx hb]
 have : (lowest (a : Int) b).den <= 2 ^ 7 := Nat.le_trans (lowest_le _ _).2 (by omega)
 exact Nat.le_trans (lowest_le _ _).2 (mul_pow_le h this)
theorem stepped_ok {n : Nat} {t : Tree} (ht : TOk n t) {r i j : Nat} {p : Purse} {y : Frac} (hr : r <= 3) (hi : i <= n) (hj : j <= i) (h : PuOk (r + 1) p) (hy : y = p.units \/ (Wf y /\ Sz (SN r) (SD r) y)) : PuOk r (stepped t i j y p) := by
 obtain ⟨a1,a2,a3,a4,⟨cd,un,ud,b1,b2,b3,b4,b5⟩,a6,_,_,_⟩ := trade_ok hr h (ht.quo i j hi hj) hy
 have hb : 0 < t.b := ht.b1
 have hb2 : t.b <= 100 := Nat.le_trans ht.ba ht.a2
 refine ⟨?_,a1,⟨cd + 7,un,ud,grow_den a4 b1 hb hb2,b2,by omega,b4,b5⟩,(grow_vb a4 a6 hb ht.a2).mono ?_⟩
 ·show Wf (over (mul _ _) _)
  rw [grow_by a4 hb]
  exact mul_wf a4 (lowest_wf _ hb)
 ·unfold PM; omega
theorem start_ok {n : Nat} {l : List Point} {x : Int} (h : Good n l) (h1 : 1 <= n) (h4 : n <= 4) (hx : x.natAbs <= 1000000) : PuOk n { cash := most (whole x) l,units := whole x } /\ Sz 3135 3092 (most (whole x) l) := by
 have sx : Sz 20 0 (whole x) := whole_sz (by omega)
 have key : ∀ l : List Point,l ≠ [] -> RSz (14 + 7 * n) (7 * n) (NV n) (DV n) l -> Sz (max (NV n + 7 * n) (14 + 7 * n + 20 + DV n) + 1) (DV n + 7 * n) (most (whole x) l) := by
  intro l
  induction l with
  | nil => intro h; exact absurd rfl h
  | cons p r ih =>
   intro _ hs
   have s := hs p (by simp)
   have a : Sz (max (NV n + 7 * n) (14 + 7 * n + 20 + DV n) + 1) (DV n + 7 * n) (sub p.v (mul p.q (whole x))) := (sub_sz s.2 (mul_sz s.1 sx)).mono (by omega) (by omega)
   cases r with
   | nil => exact a
   | cons r l => exact greater_ind a (ih (by simp) fun y hy => hs y (List.mem_cons_of_mem _ hy))
 have k := key l h.ne h.sz
 have w : Wf (most (whole x) l) := most_wf (whole_wf x) h.row.1
 have num : max (NV n + 7 * n) (14 + 7 * n + 20 + DV n) + 1 <= PM n /\ DV n + 7 * n <= PH n /\ max (NV n + 7 * n) (14 + 7 * n + 20 + DV n) + 1 <= 3135 /\ DV n + 7 * n <= 3092 := by
  rcases (by omega : n = 1 \/ n = 2 \/ n = 3 \/ n = 4) with rfl | rfl | rfl | rfl <;> decide
 exact ⟨⟨w,whole_wf x,⟨DV n + 7 * n,20,0,k.2,sx,by omega,by omega,by omega⟩,(k.vb w).mono num.1⟩,k.mono num.2.2.1 num.2.2.2⟩
end CH
namespace CH
open Vbchal
theorem insert_len (p : Point) : ∀ S : List Point,(insertPoint p S).length <= S.length + 1
 | [] => by simp [insertPoint]
 | x :: r => by
  unfold insertPoint
  split
  ·simp
  ·split
   ·simp
   ·have := insert_len p r
    simp only [List.length_cons]
    omega
theorem foldr_len : ∀ l : List Point,(l.foldr insertPoint []).length <= l.length
 | [] => by simp
 | p :: l => by
  rw [List.foldr_cons]
  have := insert_len p (l.foldr insertPoint [])
  have := foldr_len l
  simp only [List.length_cons]
  omega
theorem hull_len (l : List Point) : (hull l).length <= l.length := Nat.le_trans (hull_sub l).length_le (foldr_len l)
theorem joined_len (a b : Nat) (d u : List Point) : (joined a b d u).length <= d.length + u.length := by
 unfold joined
 have := hull_len ((d ++ u).map (taken a b))
 rw [List.length_map,List.length_append] at this
 exact this
theorem between_len (lo hi : Frac) {l : List Point} (h : l ≠ []) : (between lo hi l).length <= l.length + 2 := by
 rw [between_def lo hi h]
 split
 ·simp
 ·split
  ·simp
  ·have := List.length_filter_le (fun p : Point => less (cutA lo l) p.q && less p.q (cutB hi l)) l
   simp only [List.length_cons,List.length_append,List.length_nil]
   omega
theorem last_len (x : Quote) (c u : Int) : (lastPoints x c u).length <= 2 := by
 unfold lastPoints
 split <;> simp
theorem between_nil (lo hi : Frac) : between lo hi [] = [] := by
 unfold between
 exact if_pos (.inl rfl)
theorem between_len' (lo hi : Frac) (l : List Point) : (between lo hi l).length <= l.length + 2 := by
 cases l with
 | nil => rw [between_nil]; simp
 | cons a r => exact between_len lo hi (by simp)
theorem lev_row_len {n : Nat} {t : Tree} (h : TOk n t) (c : Claim) : ∀ (k i : Nat),i + k = n -> ∀ j,j <= i -> ((lev t c i).getD j []).length + 2 <= 2 ^ (k + 2)
 | 0,i,e,j,hj => by
  have e : i = n := by omega
  subst e
  rw [lev_last_at h c hj]
  have := last_len (quoteAt t i j) (c.cash.getD j 0) (c.units.getD j 0)
  show _ <= 4
  omega
 | k + 1,i,e,j,hj => by
  rw [lev_step_at h c (by omega) hj]
  have a := lev_row_len h c k (i + 1) (by omega) j (by omega)
  have b := lev_row_len h c k (i + 1) (by omega) (j + 1) (by omega)
  have d := joined_len t.a t.b ((lev t c (i + 1)).getD j []) ((lev t c (i + 1)).getD (j + 1) [])
  have f := between_len' (bidF (quoteAt t i j)) (askF (quoteAt t i j)) (joined t.a t.b ((lev t c (i + 1)).getD j []) ((lev t c (i + 1)).getD (j + 1) []))
  have g : 2 ^ (k + 1 + 2) = 2 * 2 ^ (k + 2) := by rw [show k + 1 + 2 = (k + 2) + 1 from rfl,Nat.pow_succ]; omega
  omega
theorem lev_row_len' {n : Nat} {t : Tree} (h : TOk n t) (c : Claim) {i j : Nat} (hi : i <= n) (hj : j <= i) : ((lev t c i).getD j []).length <= 62 := by
 have a := lev_row_len h c (n - i) i (by omega) j hj
 have b : 2 ^ (n - i + 2) <= 2 ^ 6 := Nat.pow_le_pow_right (by decide) (by have := h.n4; omega)
 omega
theorem lev_get {n : Nat} {t : Tree} (h : TOk n t) (c : Claim) {i j : Nat} (hi : i <= n) (hj : j <= i) : (lev t c i)[j]? = some ((lev t c i).getD j []) := by
 rw [List.getD_eq_getElem?_getD,List.getElem?_eq_getElem (by rw [lev_len h c hi]; omega)]
 rfl
theorem nothing_eq {n : Nat} {t : Tree} (h : TOk n t) : nothing t = ⟨List.replicate (n + 1) 0,List.replicate (n + 1) 0⟩ := by
 unfold nothing
 rw [h.steps]
theorem NV_le {k : Nat} (h : k <= 3) : NV k + 7 <= 1100 /\ DV k + 7 <= 1000 /\ 14 + 7 * (k + 1) <= 60 /\ 7 * (k + 1) <= 40 := by
 rcases (by omega : k = 0 \/ k = 1 \/ k = 2 \/ k = 3) with rfl | rfl | rfl | rfl <;> decide
theorem NV_le4 {k : Nat} (h : k <= 4) : NV k <= 3200 /\ DV k <= 3200 /\ 14 + 7 * k <= 100 /\ 7 * k <= 100 := by
 rcases (by omega : k = 0 \/ k = 1 \/ k = 2 \/ k = 3 \/ k = 4) with rfl | rfl | rfl | rfl | rfl <;> decide
end CH
namespace CH
open Vbchal
theorem num_nonneg_iff {d : Frac} (h : Wf d) : 0 <= d.num ↔ 0 <= val d := by
 rw [<- Rat.num_nonneg,val_mk h]
theorem less_sub {x y : Frac} (hx : Wf x) (hy : Wf y) : less y x = decide ((sub y x).num < 0) := by
 rw [Bool.eq_iff_iff,decide_eq_true_iff,less_iff hy hx]
 have a := num_nonneg_iff (sub_wf hy hx)
 rw [val_sub hy hx] at a
 constructor
 ·intro h
  have : ¬ 0 <= (sub y x).num := fun z => by
   have := a.mp z
   grind
  omega
 ·intro h
  have : ¬ (0 : Rat) <= val y - val x := fun z => by
   have := a.mpr z
   omega
  grind
theorem cost_by {q : Quote} {x y : Frac} (hx : Wf x) (hy : Wf y) : cost q (sub y x) = mul (sub y x) (whole (((if less y x = true then q.bid else q.ask) : Nat) : Int)) := by
 unfold cost
 rw [less_sub hx hy]
 by_cases h : 0 <= (sub y x).num
 ·rw [if_pos h,if_neg (by simp; omega)]; rfl
 ·rw [if_neg h,if_pos (by simp; omega)]; rfl
theorem plan_steps {bid ask : Frac} {l : List Point} {x : Frac} : planBy bid ask l x =
  match slopeAbove ask l with
  | some y => if less x y = true then y else (match slopeBelow bid l with
   | some z => if less z x = true then z else x
   | none => x)
  | none => match slopeBelow bid l with
   | some z => if less z x = true then z else x
   | none => x := by
 unfold planBy
 cases slopeAbove ask l <;> cases slopeBelow bid l <;> rfl
theorem nodeOn_succ : ∀ (way : List Nat) (k : Nat) (z : Nat),way[k]? = some z -> nodeOn way (k + 1) = nodeOn way k + z
 | [],k,z,h => by simp at h
 | x :: r,0,z,h => by
  have : x = z := by simpa using h
  subst this
  show x + nodeOn r 0 = 0 + x
  have : nodeOn r 0 = 0 := by cases r <;> rfl
  omega
 | x :: r,k + 1,z,h => by
  show x + nodeOn r (k + 1) = x + nodeOn r k + z
  rw [nodeOn_succ r k z (by simpa using h)]
  omega
theorem nodeOn_zero (way : List Nat) : nodeOn way 0 = 0 := by cases way <;> rfl
theorem nodeOn_le {way : List Nat} (h : ∀ z ∈ way,z <= 1) : ∀ k,k <= way.length -> nodeOn way k <= k
 | 0,_ => by rw [nodeOn_zero]; exact Nat.le_refl _
 | k + 1,hk => by
  have e : way[k]? = some way[k] := List.getElem?_eq_getElem (by omega)
  rw [nodeOn_succ way k _ e]
  have := nodeOn_le h k (by omega)
  have := h way[k] (List.getElem_mem _)
  omega
theorem ahead_lev (t : Tree) (c : Claim) (i j : Nat) : ahead t (allPoints t c) i j = joined t.a t.b ((lev t c (i + 1)).getD j []) ((lev t c (i + 1)).getD (j + 1) []) := by
 unfold ahead
 rw [at_lev,at_lev]
theorem plan_is {n : Nat} {t : Tree} (h : TOk n t) (hf : fair t = true) {c : Claim} (hc : COk n c) {i j k : Nat} (hi : i + k + 1 = n) (hj : j <= i) (x : Frac) :
  plan t (allPoints t c) i j x = x \/ (Wf (plan t (allPoints t c) i j x) /\ Sz (SN k) (SD k) (plan t (allPoints t c) i j x)) := by
 rw [plan_by,ahead_lev]
 have g := goodR_at h hf hc hi hj
 exact plan_ind (P := fun y => y = x \/ (Wf y /\ Sz (SN k) (SD k) y)) g.row (fun p hp r hr hl => .inr (slope_good g hp hr hl)) (.inl rfl)
theorem purse_ok {n : Nat} {t : Tree} (h : TOk n t) (hf : fair t = true) {c : Claim} (hc : COk n c) {way : List Nat} (hw : ∀ z ∈ way,z <= 1) (hl : way.length = n) {p : Purse} (hp : PuOk n p) :
  ∀ k,k <= n -> PuOk (n - k) (purse t (plan t (allPoints t c)) way p k)
 | 0,_ => hp
 | k + 1,hk => by
  have ih := purse_ok h hf hc hw hl hp k (by omega)
  have e : n - k = (n - (k + 1)) + 1 := by omega
  rw [e] at ih
  have hj := nodeOn_le hw k (by omega)
  have n4 := h.n4
  exact stepped_ok h (by omega) (by omega) hj ih (plan_is h hf hc (by omega) hj _)
theorem purse_succ (t : Tree) (f : Nat -> Nat -> Frac -> Frac) (way : List Nat) (p : Purse) (k : Nat) : purse t f way p (k + 1) = stepped t k (nodeOn way k) (f k (nodeOn way k) (purse t f way p k).units) (purse t f way p k) := rfl
end CH
namespace L2
open PySem PySem.Spec PyProof.Rows
section
variable {X : Cx} {a b c d : Expr} {ta tb tc td : TE} {pos : Pos}
def CMulB (i j : Int) : Prop := i.natAbs <= 2 ^ 60000 /\ j.natAbs <= 2 ^ 60000
theorem bits_le {i : Int} {n : Nat} (h : i.natAbs <= 2 ^ n) : Builtin.Int.intBits i <= n + 1 := by
 unfold Builtin.Int.intBits
 split
 ·omega
 ·rename_i h0
  have h1 : i.natAbs ≠ 0 := by
   intro z
   apply h0
   have : i = 0 := by omega
   rw [this]; rfl
  have : i.natAbs.log2 < n + 1 := (Nat.log2_lt h1).mpr (by rw [Nat.pow_succ]; omega)
  omega
theorem CMulB.ok {i j : Int} (h : CMulB i j) : IntMulOk i j := PyProof.Rows.mulOk_of_bits (bits_le h.1) (bits_le h.2) (by decide)
theorem op_mulB : OpR X (binaryOp .Mult) (rI CMulB fun i j => .int (i * j)) := opI fun _ _ _ _ _ _ _ hc q => mul_int q hc.ok
theorem op_fdivB : OpR X (binaryOp .FloorDiv) (rI (fun _ j => 0 < j /\ j.natAbs < 2 ^ 9000) fun i j => .int (i / j)) := opI fun i j _ _ _ _ _ hc q => by
 refine floordiv_int (by omega) ?_ (.inl (PyProof.noPylong_of_log2 ((Nat.log2_lt (by omega)).mpr hc.2)))
 rw [Int.fdiv_eq_ediv_of_nonneg _ (by omega)]
 exact q
def tChain3 (r r' r'' : R2) (ta tb tc td : TE) : TE := fun σ H Q => ta σ H fun x H1 => tb σ H1 fun y H2 => r x y H2 fun z H3 => ∃ k,z = .bl k /\
 (if k = true then tc σ H3 fun w' H4 => r' y w' H4 fun z2 H5 => ∃ k2,z2 = .bl k2 /\ (if k2 = true then td σ H5 fun w2 H6 => r'' w' w2 H6 Q else Q (.bl false) H5) else Q (.bl false) H3)
theorem pe_chain3 {op op' op'' : CmpOp} {r r' r'' : R2} (ho : OpR X (compareOp op) r) (ho' : OpR X (compareOp op') r') (ho'' : OpR X (compareOp op'') r'') (ha : PE X a ta) (hb : PE X b tb) (hc : PE X c tc) (hd : PE X d td)
  (hm : lastMarks [op,op',op''] [b,c,d] = false := by with_unfolding_all rfl) : PE X (.Compare a [op,op',op''] [b,c,d] pos) (tChain3 r r' r'' ta tb tc td) := by
 intro pins s σ H Q I h
 refine Compare_chain (thn (ha pins s σ H _ I h) fun v s1 ⟨x,H1,I1,r1,q1⟩ => chain_link (thn (hb pins s1 σ H1 _ I1 q1) fun u s2 ⟨y,H2,I2,r2,q2⟩ =>
  thn (ho pins s2 σ H2 x y v u _ I2 r1 r2 q2) fun d s3 ⟨z,H3,I3,r3,k,e,q3⟩ => ?_)) hm
 subst e
 cases r3
 refine wpAny_truthy_bool ?_
 cases k with
 | false => exact ite_ff ⟨.bl false,H3,I3,rfl,q3⟩
 | true =>
  refine ite_tt (chain_link (thn (hc pins s3 σ H3 _ I3 q3) fun w' s4 ⟨z',H4,I4,r4,q4⟩ => thn (ho' pins s4 σ H4 y z' u w' _ I4 r2 r4 q4) fun d' s5 ⟨z2,H5,I5,r5,k2,e2,q5⟩ => ?_))
  subst e2
  cases r5
  refine wpAny_truthy_bool ?_
  cases k2 with
  | false => exact ite_ff ⟨.bl false,H5,I5,rfl,q5⟩
  | true => exact ite_tt (chain_last (thn (hd pins s5 σ H5 _ I5 q5) fun w2 s6 ⟨z3,H6,I6,r6,q6⟩ => ho'' pins s6 σ H6 z' z3 w' w2 Q I6 r4 r6 q6))
theorem pt_chain3 {op op' op'' : CmpOp} {r r' r'' : R2} (ho : OpR X (compareOp op) r) (ho' : OpR X (compareOp op') r') (ho'' : OpR X (compareOp op'') r'') (ha : PE X a ta) (hb : PE X b tb) (hc : PE X c tc) (hd : PE X d td)
  (hm : lastMarks [op,op',op''] [b,c,d] = false := by with_unfolding_all rfl) : PT X (.Compare a [op,op',op''] [b,c,d] pos) (tTest (tChain3 r r' r'' ta tb tc td)) := by
 intro pins s σ H Q I h
 refine isTrue_chain (thn (ha pins s σ H _ I h) fun v s1 ⟨x,H1,I1,r1,q1⟩ => test_link (thn (hb pins s1 σ H1 _ I1 q1) fun u s2 ⟨y,H2,I2,r2,q2⟩ =>
  thn (ho pins s2 σ H2 x y v u _ I2 r1 r2 q2) fun d s3 ⟨z,H3,I3,r3,k,e,q3⟩ => ?_)) hm
 subst e
 cases r3
 refine wpAny_truthy_bool ?_
 cases k with
 | false =>
  obtain ⟨k',e',q'⟩ := q3
  cases e'
  exact ite_ff ⟨H3,I3,q'⟩
 | true =>
  refine ite_tt (test_link (thn (hc pins s3 σ H3 _ I3 q3) fun w' s4 ⟨z',H4,I4,r4,q4⟩ => thn (ho' pins s4 σ H4 y z' u w' _ I4 r2 r4 q4) fun d' s5 ⟨z2,H5,I5,r5,k2,e2,q5⟩ => ?_))
  subst e2
  cases r5
  refine wpAny_truthy_bool ?_
  cases k2 with
  | false =>
   obtain ⟨k',e',q'⟩ := q5
   cases e'
   exact ite_ff ⟨H5,I5,q'⟩
  | true =>
   refine ite_tt (test_last (thn (hd pins s5 σ H5 _ I5 q5) fun w2 s6 ⟨z3,H6,I6,r6,q6⟩ => thn (ho'' pins s6 σ H6 z' z3 w' w2 _ I6 r4 r6 q6) fun d3 s7 ⟨z4,H7,I7,r7,k3,e3,q7⟩ => ?_))
   subst e3
   cases r7
   exact wpAny_truthy_bool ⟨H7,I7,q7⟩
def txt (i : Int) : Str := toString i
def tFs (ta tb : TE) (mid : Str) : TE := fun σ H Q => ta σ H fun x H1 => ∃ i : Int,x = .int i /\ i.natAbs < 10 ^ 4300 /\ (Str.empty ++ txt i).length <= sizeLine /\ (Str.empty ++ txt i ++ mid).length <= sizeLine /\
 tb σ H1 fun y H2 => ∃ j : Int,y = .int j /\ j.natAbs < 10 ^ 4300 /\ (Str.empty ++ txt i ++ mid ++ txt j).length <= sizeLine /\ Q (.str (Str.empty ++ txt i ++ mid ++ txt j)) H2
theorem pe_fs {mid : Str} {k : Nat} {p1 p2 p3 : Pos} (hc : X.calm = true) (ha : PE X a ta) (hb : PE X b tb) :
  PE X (.JoinedStr [.FormattedValue a (-1) none p1,.Constant (.str mid) k p2,.FormattedValue b (-1) none p3] pos) (tFs ta tb mid) := by
 intro pins s σ H Q I h
 refine JoinedStr_many (joinParts_cons (FormattedValue_plain (thn (ha pins s σ H _ I h) fun v s1 ⟨x,H1,I1,r1,i,e1,l1,z1,z2,q1⟩ => ?_)))
 subst e1
 obtain ⟨t,rfl⟩ := r1
 refine PyProof.Rows.formatField_int (I1.ok.hd hc) I1.nodigits (fun _ => ⟨z1,?_⟩) (fun hge => absurd l1 (Nat.not_lt.mpr hge))
 refine joinParts_cons (Calls.Constant_str ⟨z2,?_⟩)
 refine joinParts_cons (FormattedValue_plain (thn (hb pins _ σ H1 _ ((I1.tok _).tok _) q1) fun v s2 ⟨y,H2,I2,r2,j,e2,l2,z3,q2⟩ => ?_))
 subst e2
 obtain ⟨t,rfl⟩ := r2
 refine PyProof.Rows.formatField_int (I2.ok.hd hc) I2.nodigits (fun _ => ⟨z3,?_⟩) (fun hge => absurd l2 (Nat.not_lt.mpr hge))
 exact joinParts_nil ⟨.str _,H2,(I2.tok _).tok _,⟨_,rfl⟩,q2⟩ z3
def rInRows (K : PySem.W.Frag) : R2 := fun x y H Q => ∃ (e p : Addr) (as : List Addr) (es : List Bool),x = .ref e /\ y = .ref p /\ H e = some (.lst []) /\ H p = some (.lst (as.map V.ref)) /\
 Paired (fun a b => ∃ xs,H a = some (.lst xs) /\ b = xs.isEmpty /\ a ≠ e) as es /\ Q (.bl (es.any id)) H
theorem op_in_rows (hu : X.A.units + 64 < cLine) : OpR X (compareOp .In) (rInRows X.K) := by
 intro pins s σ H x y v u Q I rx ry h
 obtain ⟨e,p,as,es,rfl,rfl,he,hp,hpr,q⟩ := h
 cases rx
 cases ry
 obtain ⟨its,r,pl,hz⟩ := I.list (SqL.of hp)
 have eit : its = as.map Value.ref := by
  clear hz pl hpr hp q
  induction as generalizing its with
  | nil => cases r; rfl
  | cons a l ih =>
   cases r with
   | cons h1 h2 => rw [ih _ h2]; cases h1; rfl
 subst eit
 obtain ⟨ite,re,ple,_⟩ := I.list (SqL.of he)
 cases re
 let f : Value -> Bool := fun u => @decide (∃ a,u = Value.ref a /\ H a = some (.lst [])) (Classical.propDecidable _)
 refine SeqAt.in_listAt f pl.isList (fun w hw => ?_) ⟨.bl _,H,I,rfl,?_⟩
 ·obtain ⟨a,ha,rfl⟩ : ∃ a,a ∈ as /\ w = Value.ref a := by
   have := (List.mem_toArray).mp hw
   obtain ⟨a,h1,h2⟩ := List.mem_map.mp this
   exact ⟨a,h1,h2.symm⟩
  obtain ⟨xs,hxs,hne⟩ : ∃ xs,H a = some (.lst xs) /\ a ≠ e := by
   clear q hp pl r hz hw
   induction hpr with
   | nil => simp at ha
   | cons h1 h2 ih =>
    rcases List.mem_cons.mp ha with rfl | ha
    ·obtain ⟨xs,z1,_,z2⟩ := h1; exact ⟨xs,z1,z2⟩
    ·exact ih ha
  obtain ⟨ita,ra,pla,_⟩ := I.list (SqL.of hxs)
  have hu1 : X.A.in1.units < cLine := by show X.A.units + 1 < cLine; omega
  cases xs with
  | nil =>
   cases ra
   have ef : f (Value.ref a) = true := by simp only [f]; exact @decide_eq_true _ (Classical.propDecidable _) ⟨a,rfl,hxs⟩
   rw [ef]
   exact SeqAt.EqAt.of_refs hne (SeqAt.RcAt.lists (e := fun _ => true) pla.isList ple.isList rfl hu1 (fun j h1 _ => absurd h1 (by simp)))
  | cons y ys =>
   have ef : f (Value.ref a) = false := by
    simp only [f]
    refine @decide_eq_false _ (Classical.propDecidable _) ?_
    rintro ⟨a',e1,e2⟩
    cases e1
    rw [hxs] at e2
    cases e2
   rw [ef]
   refine SeqAt.EqAt.of_refs hne (SeqAt.RcAt.lists_lengths pla.isList ple.isList ?_ hu1)
   have hl := ra.length
   rw [List.length_cons] at hl
   rw [bne_iff_ne]
   intro z
   have z' : ita.length = 0 := z
   omega
 ·have e2 : (as.map Value.ref).toArray.any f = es.any id := by
   rw [show (as.map Value.ref).toArray.any f = (as.map Value.ref).any f by simp]
   clear q hp pl r hz
   induction hpr with
   | nil => rfl
   | cons h1 h2 ih =>
    obtain ⟨xs,z1,z2,_⟩ := h1
    rw [List.map_cons,List.any_cons,List.any_cons,ih]
    congr 1
    subst z2
    cases xs with
    | nil => simp only [f]; exact @decide_eq_true _ (Classical.propDecidable _) ⟨_,rfl,z1⟩
    | cons y ys =>
     simp only [f]
     refine @decide_eq_false _ (Classical.propDecidable _) ?_
     rintro ⟨a',e1,e2⟩
     cases e1
     rw [z1] at e2
     cases e2
  rw [e2]
  exact q
end
section
variable {t u : TS} {D : Ends} {σ : St} {H : Hp} {te ta tb : TE} {g : TG} {i : Nat} {v x y : V} {Q : VK} {r : R2} {K : PySem.W.Frag}
theorem Same.upd {H : Hp} {p : Addr} {o : HO} (h : H p = Option.none) : Same H (upd H p o) := fun b o' e => by rw [upd_ne (ne_of_none e h)]; exact e
end
end L2
namespace CH
open PySem PySem.Spec PyProof.Rows L2
def FrA (H : Hp) (v : V) (x : Vbchal.Frac) : Prop := ∃ a,v = .ref a /\ H a = some (.tup [.int x.num,.int (x.den : Int)])
def PtA (H : Hp) (v : V) (p : Vbchal.Point) : Prop := ∃ a u w,v = .ref a /\ H a = some (.tup [u,w]) /\ FrA H u p.q /\ FrA H w p.v
inductive All2 {α β : Type} (F : α -> β -> Prop) : List α -> List β -> Prop
 | nil : All2 F [] []
 | cons {a : α} {b : β} {l : List α} {m : List β} : F a b -> All2 F l m -> All2 F (a :: l) (b :: m)
theorem All2.imp {α β : Type} {F G : α -> β -> Prop} (f : ∀ a b,F a b -> G a b) : ∀ {l : List α} {m : List β},All2 F l m -> All2 G l m
 | _,_,.nil => .nil
 | _,_,.cons h t => .cons (f _ _ h) (t.imp f)
theorem All2.len {α β : Type} {F : α -> β -> Prop} : ∀ {l : List α} {m : List β},All2 F l m -> l.length = m.length
 | _,_,.nil => rfl
 | _,_,.cons _ t => congrArg (· + 1) t.len
theorem All2.get {α β : Type} {F : α -> β -> Prop} : ∀ {l : List α} {m : List β},All2 F l m -> ∀ {i : Nat} {b : β},m[i]? = some b -> ∃ a,l[i]? = some a /\ F a b
 | _,_,.nil,i,b,e => by simp at e
 | _,_,.cons h t,0,b,e => ⟨_,rfl,by have := Option.some.inj e; subst this; exact h⟩
 | _,_,.cons h t,i + 1,b,e => t.get (i := i) (by simpa using e)
theorem All2.got {α β : Type} {F : α -> β -> Prop} : ∀ {l : List α} {m : List β},All2 F l m -> ∀ {i : Nat} {a : α},l[i]? = some a -> ∃ b,m[i]? = some b /\ F a b
 | _,_,.nil,i,b,e => by simp at e
 | _,_,.cons h t,0,b,e => ⟨_,rfl,by have := Option.some.inj e; subst this; exact h⟩
 | _,_,.cons h t,i + 1,b,e => t.got (i := i) (by simpa using e)
theorem All2.append {α β : Type} {F : α -> β -> Prop} : ∀ {l : List α} {m : List β} {l' : List α} {m' : List β},All2 F l m -> All2 F l' m' -> All2 F (l ++ l') (m ++ m')
 | _,_,_,_,.nil,h => h
 | _,_,_,_,.cons h t,h' => .cons h (t.append h')
theorem All2.one {α β : Type} {F : α -> β -> Prop} {a : α} {b : β} (h : F a b) : All2 F [a] [b] := .cons h .nil
theorem All2.drop {α β : Type} {F : α -> β -> Prop} : ∀ {l : List α} {m : List β},All2 F l m -> ∀ i : Nat,All2 F (l.drop i) (m.drop i)
 | _,_,.nil,i => by simp; exact .nil
 | _,_,.cons h t,0 => .cons h t
 | _,_,.cons h t,i + 1 => t.drop i
theorem All2.take {α β : Type} {F : α -> β -> Prop} : ∀ {l : List α} {m : List β},All2 F l m -> ∀ i : Nat,All2 F (l.take i) (m.take i)
 | _,_,.nil,i => by simp; exact .nil
 | _,_,.cons h t,0 => .nil
 | _,_,.cons h t,i + 1 => .cons h (t.take i)
theorem All2.dropLast {α β : Type} {F : α -> β -> Prop} {l : List α} {m : List β} (h : All2 F l m) : All2 F l.dropLast m.dropLast := by
 rw [List.dropLast_eq_take,List.dropLast_eq_take,h.len]
 exact h.take _
def Tk (H H' : Hp) : Prop := ∀ b xs,H b = some (.tup xs) -> H' b = some (.tup xs)
theorem Tk.of {H H' : Hp} (s : Same H H') : Tk H H' := fun b xs h => s b _ h
theorem FrA.tk {H H' : Hp} {v : V} {x : Vbchal.Frac} (t : Tk H H') (h : FrA H v x) : FrA H' v x := let ⟨a,e,h⟩ := h; ⟨a,e,t _ _ h⟩
theorem PtA.tk {H H' : Hp} {v : V} {x : Vbchal.Point} (t : Tk H H') (h : PtA H v x) : PtA H' v x := let ⟨a,u,w,e,h,h1,h2⟩ := h; ⟨a,u,w,e,t _ _ h,h1.tk t,h2.tk t⟩
theorem FrA.up {H H' : Hp} {v : V} {x : Vbchal.Frac} (s : Same H H') (h : FrA H v x) : FrA H' v x := h.tk (.of s)
theorem PtA.up {H H' : Hp} {v : V} {x : Vbchal.Point} (s : Same H H') (h : PtA H v x) : PtA H' v x := h.tk (.of s)
end CH
namespace CH
open PySem PySem.Spec PyProof.Rows L2
def top (i : Nat) : Stmt := PySem.Challenge.pw_costhedge_s01_answers.main.body.getD i (.Pass ⟨0,0,0,0⟩)
abbrev s_Book_init : Stmt := inClass (top 1) 0
abbrev p_Book_init : List Str := ["self"]
abbrev n_Book_init : List Str := ["self"]
theorem sc_Book_init : FnScope n_Book_init p_Book_init (defScope s_Book_init) := ⟨rfl,rfl,rfl,by decide +kernel,rfl,by decide +kernel,by decide +kernel⟩
abbrev s_Book_take_tree : Stmt := inClass (top 1) 1
abbrev p_Book_take_tree : List Str := ["self","tree"]
abbrev n_Book_take_tree : List Str := ["self","tree"]
theorem sc_Book_take_tree : FnScope n_Book_take_tree p_Book_take_tree (defScope s_Book_take_tree) := ⟨rfl,rfl,rfl,by decide +kernel,rfl,by decide +kernel,by decide +kernel⟩
abbrev s_Book_put_claim : Stmt := inClass (top 1) 2
abbrev p_Book_put_claim : List Str := ["self","r","claim"]
abbrev n_Book_put_claim : List Str := ["self","r","claim"]
theorem sc_Book_put_claim : FnScope n_Book_put_claim p_Book_put_claim (defScope s_Book_put_claim) := ⟨rfl,rfl,rfl,by decide +kernel,rfl,by decide +kernel,by decide +kernel⟩
abbrev s_Book_has_place : Stmt := inClass (top 1) 3
abbrev p_Book_has_place : List Str := ["self","r"]
abbrev n_Book_has_place : List Str := ["self","r"]
theorem sc_Book_has_place : FnScope n_Book_has_place p_Book_has_place (defScope s_Book_has_place) := ⟨rfl,rfl,rfl,by decide +kernel,rfl,by decide +kernel,by decide +kernel⟩
abbrev s_Book_refusal : Stmt := inClass (top 1) 4
abbrev p_Book_refusal : List Str := ["self","targets","sources"]
abbrev n_Book_refusal : List Str := ["self","targets","sources","r"]
theorem sc_Book_refusal : FnScope n_Book_refusal p_Book_refusal (defScope s_Book_refusal) := ⟨rfl,rfl,rfl,by decide +kernel,rfl,by decide +kernel,by decide +kernel⟩
abbrev s_Claim_init : Stmt := inClass (top 3) 0
abbrev p_Claim_init : List Str := ["self","cash","units"]
abbrev n_Claim_init : List Str := ["self","cash","units"]
theorem sc_Claim_init : FnScope n_Claim_init p_Claim_init (defScope s_Claim_init) := ⟨rfl,rfl,rfl,by decide +kernel,rfl,by decide +kernel,by decide +kernel⟩
abbrev s_empty_claim : Stmt := top 4
abbrev p_empty_claim : List Str := ["steps"]
abbrev n_empty_claim : List Str := ["steps"]
theorem sc_empty_claim : FnScope n_empty_claim p_empty_claim (defScope s_empty_claim) := ⟨rfl,rfl,rfl,by decide +kernel,rfl,by decide +kernel,by decide +kernel⟩
abbrev s_turned : Stmt := top 5
abbrev p_turned : List Str := ["claim"]
abbrev n_turned : List Str := ["claim","cash","units"]
theorem sc_turned : FnScope n_turned p_turned (defScope s_turned) := ⟨rfl,rfl,rfl,by decide +kernel,rfl,by decide +kernel,by decide +kernel⟩
abbrev s_together : Stmt := top 6
abbrev p_together : List Str := ["one","other"]
abbrev n_together : List Str := ["one","other","cash","units","x","y"]
theorem sc_together : FnScope n_together p_together (defScope s_together) := ⟨rfl,rfl,rfl,by decide +kernel,rfl,by decide +kernel,by decide +kernel⟩
abbrev s_common_divisor : Stmt := top 8
abbrev p_common_divisor : List Str := ["x","y"]
abbrev n_common_divisor : List Str := ["x","y","rest"]
theorem sc_common_divisor : FnScope n_common_divisor p_common_divisor (defScope s_common_divisor) := ⟨rfl,rfl,rfl,by decide +kernel,rfl,by decide +kernel,by decide +kernel⟩
abbrev s_ratio : Stmt := top 9
abbrev p_ratio : List Str := ["top","bottom"]
abbrev n_ratio : List Str := ["top","bottom","shared"]
theorem sc_ratio : FnScope n_ratio p_ratio (defScope s_ratio) := ⟨rfl,rfl,rfl,by decide +kernel,rfl,by decide +kernel,by decide +kernel⟩
abbrev s_plus : Stmt := top 10
abbrev p_plus : List Str := ["x","y"]
abbrev n_plus : List Str := ["x","y"]
theorem sc_plus : FnScope n_plus p_plus (defScope s_plus) := ⟨rfl,rfl,rfl,by decide +kernel,rfl,by decide +kernel,by decide +kernel⟩
abbrev s_minus : Stmt := top 11
abbrev p_minus : List Str := ["x","y"]
abbrev n_minus : List Str := ["x","y"]
theorem sc_minus : FnScope n_minus p_minus (defScope s_minus) := ⟨rfl,rfl,rfl,by decide +kernel,rfl,by decide +kernel,by decide +kernel⟩
abbrev s_times : Stmt := top 12
abbrev p_times : List Str := ["x","y"]
abbrev n_times : List Str := ["x","y"]
theorem sc_times : FnScope n_times p_times (defScope s_times) := ⟨rfl,rfl,rfl,by decide +kernel,rfl,by decide +kernel,by decide +kernel⟩
abbrev s_over : Stmt := top 13
abbrev p_over : List Str := ["x","y"]
abbrev n_over : List Str := ["x","y"]
theorem sc_over : FnScope n_over p_over (defScope s_over) := ⟨rfl,rfl,rfl,by decide +kernel,rfl,by decide +kernel,by decide +kernel⟩
abbrev s_less : Stmt := top 14
abbrev p_less : List Str := ["x","y"]
abbrev n_less : List Str := ["x","y"]
theorem sc_less : FnScope n_less p_less (defScope s_less) := ⟨rfl,rfl,rfl,by decide +kernel,rfl,by decide +kernel,by decide +kernel⟩
abbrev s_lesser : Stmt := top 15
abbrev p_lesser : List Str := ["x","y"]
abbrev n_lesser : List Str := ["x","y"]
theorem sc_lesser : FnScope n_lesser p_lesser (defScope s_lesser) := ⟨rfl,rfl,rfl,by decide +kernel,rfl,by decide +kernel,by decide +kernel⟩
abbrev s_greater : Stmt := top 16
abbrev p_greater : List Str := ["x","y"]
abbrev n_greater : List Str := ["x","y"]
theorem sc_greater : FnScope n_greater p_greater (defScope s_greater) := ⟨rfl,rfl,rfl,by decide +kernel,rfl,by decide +kernel,by decide +kernel⟩
abbrev s_text_bytes : Stmt := top 17
abbrev p_text_bytes : List Str := ["x"]
abbrev n_text_bytes : List Str := ["x","top","bottom","sign"]
theorem sc_text_bytes : FnScope n_text_bytes p_text_bytes (defScope s_text_bytes) := ⟨rfl,rfl,rfl,by decide +kernel,rfl,by decide +kernel,by decide +kernel⟩
abbrev s_counted_bytes : Stmt := top 18
abbrev p_counted_bytes : List Str := ["x"]
abbrev n_counted_bytes : List Str := ["x","signs"]
theorem sc_counted_bytes : FnScope n_counted_bytes p_counted_bytes (defScope s_counted_bytes) := ⟨rfl,rfl,rfl,by decide +kernel,rfl,by decide +kernel,by decide +kernel⟩
abbrev s_scaled : Stmt := top 20
abbrev p_scaled : List Str := ["points","factor"]
abbrev n_scaled : List Str := ["points","factor","q","v"]
theorem sc_scaled : FnScope n_scaled p_scaled (defScope s_scaled) := ⟨rfl,rfl,rfl,by decide +kernel,rfl,by decide +kernel,by decide +kernel⟩
abbrev s_stands_before : Stmt := top 21
abbrev p_stands_before : List Str := ["one","other"]
abbrev n_stands_before : List Str := ["one","other"]
theorem sc_stands_before : FnScope n_stands_before p_stands_before (defScope s_stands_before) := ⟨rfl,rfl,rfl,by decide +kernel,rfl,by decide +kernel,by decide +kernel⟩
abbrev s_merged : Stmt := top 22
abbrev p_merged : List Str := ["left","right"]
abbrev n_merged : List Str := ["left","right","both","taken","point"]
theorem sc_merged : FnScope n_merged p_merged (defScope s_merged) := ⟨rfl,rfl,rfl,by decide +kernel,rfl,by decide +kernel,by decide +kernel⟩
abbrev s_lies_above : Stmt := top 23
abbrev p_lies_above : List Str := ["point","left","right"]
abbrev n_lies_above : List Str := ["point","left","right","rise","line_rise"]
theorem sc_lies_above : FnScope n_lies_above p_lies_above (defScope s_lies_above) := ⟨rfl,rfl,rfl,by decide +kernel,rfl,by decide +kernel,by decide +kernel⟩
abbrev s_upper_row : Stmt := top 24
abbrev p_upper_row : List Str := ["left","right"]
abbrev n_upper_row : List Str := ["left","right","row","point"]
theorem sc_upper_row : FnScope n_upper_row p_upper_row (defScope s_upper_row) := ⟨rfl,rfl,rfl,by decide +kernel,rfl,by decide +kernel,by decide +kernel⟩
abbrev s_piece_slope : Stmt := top 25
abbrev p_piece_slope : List Str := ["left","right"]
abbrev n_piece_slope : List Str := ["left","right"]
theorem sc_piece_slope : FnScope n_piece_slope p_piece_slope (defScope s_piece_slope) := ⟨rfl,rfl,rfl,by decide +kernel,rfl,by decide +kernel,by decide +kernel⟩
abbrev s_value_at : Stmt := top 26
abbrev p_value_at : List Str := ["row","q"]
abbrev n_value_at : List Str := ["row","q","place","right","left"]
theorem sc_value_at : FnScope n_value_at p_value_at (defScope s_value_at) := ⟨rfl,rfl,rfl,by decide +kernel,rfl,by decide +kernel,by decide +kernel⟩
abbrev s_cut_row : Stmt := top 27
abbrev p_cut_row : List Str := ["row","low","high"]
abbrev n_cut_row : List Str := ["row","low","high","first","last","between","point"]
theorem sc_cut_row : FnScope n_cut_row p_cut_row (defScope s_cut_row) := ⟨rfl,rfl,rfl,by decide +kernel,rfl,by decide +kernel,by decide +kernel⟩
abbrev s_least_cash : Stmt := top 28
abbrev p_least_cash : List Str := ["points","x"]
abbrev n_least_cash : List Str := ["points","x","found","q","v"]
theorem sc_least_cash : FnScope n_least_cash p_least_cash (defScope s_least_cash) := ⟨rfl,rfl,rfl,by decide +kernel,rfl,by decide +kernel,by decide +kernel⟩
abbrev s_end_points : Stmt := top 30
abbrev p_end_points : List Str := ["bid","ask","cash","units"]
abbrev n_end_points : List Str := ["bid","ask","cash","units","points"]
theorem sc_end_points : FnScope n_end_points p_end_points (defScope s_end_points) := ⟨rfl,rfl,rfl,by decide +kernel,rfl,by decide +kernel,by decide +kernel⟩
abbrev s_last_step : Stmt := top 31
abbrev p_last_step : List Str := ["tree","claim"]
abbrev n_last_step : List Str := ["tree","claim","n","j"]
theorem sc_last_step : FnScope n_last_step p_last_step (defScope s_last_step) := ⟨rfl,rfl,rfl,by decide +kernel,rfl,by decide +kernel,by decide +kernel⟩
abbrev s_row_before : Stmt := top 32
abbrev p_row_before : List Str := ["tree","left","right"]
abbrev n_row_before : List Str := ["tree","left","right"]
theorem sc_row_before : FnScope n_row_before p_row_before (defScope s_row_before) := ⟨rfl,rfl,rfl,by decide +kernel,rfl,by decide +kernel,by decide +kernel⟩
abbrev s_step_before : Stmt := top 33
abbrev p_step_before : List Str := ["tree","i","coming"]
abbrev n_step_before : List Str := ["tree","i","coming","points","j","row"]
theorem sc_step_before : FnScope n_step_before p_step_before (defScope s_step_before) := ⟨rfl,rfl,rfl,by decide +kernel,rfl,by decide +kernel,by decide +kernel⟩
abbrev s_points_by_step : Stmt := top 34
abbrev p_points_by_step : List Str := ["tree","claim"]
abbrev n_points_by_step : List Str := ["tree","claim","steps","i"]
theorem sc_points_by_step : FnScope n_points_by_step p_points_by_step (defScope s_points_by_step) := ⟨rfl,rfl,rfl,by decide +kernel,rfl,by decide +kernel,by decide +kernel⟩
abbrev s_node_range : Stmt := top 35
abbrev p_node_range : List Str := ["tree","i","j"]
abbrev n_node_range : List Str := ["tree","i","j","points"]
theorem sc_node_range : FnScope n_node_range p_node_range (defScope s_node_range) := ⟨rfl,rfl,rfl,by decide +kernel,rfl,by decide +kernel,by decide +kernel⟩
abbrev s_is_let : Stmt := top 36
abbrev p_is_let : List Str := ["tree"]
abbrev n_is_let : List Str := ["tree","points","step"]
theorem sc_is_let : FnScope n_is_let p_is_let (defScope s_is_let) := ⟨rfl,rfl,rfl,by decide +kernel,rfl,by decide +kernel,by decide +kernel⟩
abbrev s_lower_bound : Stmt := top 38
abbrev p_lower_bound : List Str := ["row","ask"]
abbrev n_lower_bound : List Str := ["row","ask","left","right"]
theorem sc_lower_bound : FnScope n_lower_bound p_lower_bound (defScope s_lower_bound) := ⟨rfl,rfl,rfl,by decide +kernel,rfl,by decide +kernel,by decide +kernel⟩
abbrev s_upper_bound : Stmt := top 39
abbrev p_upper_bound : List Str := ["row","bid"]
abbrev n_upper_bound : List Str := ["row","bid","left","right"]
theorem sc_upper_bound : FnScope n_upper_bound p_upper_bound (defScope s_upper_bound) := ⟨rfl,rfl,rfl,by decide +kernel,rfl,by decide +kernel,by decide +kernel⟩
abbrev s_planned : Stmt := top 40
abbrev p_planned : List Str := ["tree","i","j","coming","x"]
abbrev n_planned : List Str := ["tree","i","j","coming","x","row","low","high"]
theorem sc_planned : FnScope n_planned p_planned (defScope s_planned) := ⟨rfl,rfl,rfl,by decide +kernel,rfl,by decide +kernel,by decide +kernel⟩
abbrev s_Tree_init : Stmt := inClass (top 42) 0
abbrev p_Tree_init : List Str := ["self","steps","a","b","bids","asks"]
abbrev n_Tree_init : List Str := ["self","steps","a","b","bids","asks"]
theorem sc_Tree_init : FnScope n_Tree_init p_Tree_init (defScope s_Tree_init) := ⟨rfl,rfl,rfl,by decide +kernel,rfl,by decide +kernel,by decide +kernel⟩
abbrev s_Tree_has_node : Stmt := inClass (top 42) 1
abbrev p_Tree_has_node : List Str := ["self","i","j"]
abbrev n_Tree_has_node : List Str := ["self","i","j"]
theorem sc_Tree_has_node : FnScope n_Tree_has_node p_Tree_has_node (defScope s_Tree_has_node) := ⟨rfl,rfl,rfl,by decide +kernel,rfl,by decide +kernel,by decide +kernel⟩
abbrev s_Tree_has_node_before_last : Stmt := inClass (top 42) 2
abbrev p_Tree_has_node_before_last : List Str := ["self","i","j"]
abbrev n_Tree_has_node_before_last : List Str := ["self","i","j"]
theorem sc_Tree_has_node_before_last : FnScope n_Tree_has_node_before_last p_Tree_has_node_before_last (defScope s_Tree_has_node_before_last) := ⟨rfl,rfl,rfl,by decide +kernel,rfl,by decide +kernel,by decide +kernel⟩
abbrev s_Tree_has_way : Stmt := inClass (top 42) 3
abbrev p_Tree_has_way : List Str := ["self","way"]
abbrev n_Tree_has_way : List Str := ["self","way"]
theorem sc_Tree_has_way : FnScope n_Tree_has_way p_Tree_has_way (defScope s_Tree_has_way) := ⟨rfl,rfl,rfl,by decide +kernel,rfl,by decide +kernel,by decide +kernel⟩
abbrev s_Tree_bid_at : Stmt := inClass (top 42) 4
abbrev p_Tree_bid_at : List Str := ["self","i","j"]
abbrev n_Tree_bid_at : List Str := ["self","i","j"]
theorem sc_Tree_bid_at : FnScope n_Tree_bid_at p_Tree_bid_at (defScope s_Tree_bid_at) := ⟨rfl,rfl,rfl,by decide +kernel,rfl,by decide +kernel,by decide +kernel⟩
abbrev s_Tree_ask_at : Stmt := inClass (top 42) 5
abbrev p_Tree_ask_at : List Str := ["self","i","j"]
abbrev n_Tree_ask_at : List Str := ["self","i","j"]
theorem sc_Tree_ask_at : FnScope n_Tree_ask_at p_Tree_ask_at (defScope s_Tree_ask_at) := ⟨rfl,rfl,rfl,by decide +kernel,rfl,by decide +kernel,by decide +kernel⟩
abbrev s_nodes_before : Stmt := top 43
abbrev p_nodes_before : List Str := ["i"]
abbrev n_nodes_before : List Str := ["i"]
theorem sc_nodes_before : FnScope n_nodes_before p_nodes_before (defScope s_nodes_before) := ⟨rfl,rfl,rfl,by decide +kernel,rfl,by decide +kernel,by decide +kernel⟩
abbrev s_all_between : Stmt := top 44
abbrev p_all_between : List Str := ["numbers","low","high"]
abbrev n_all_between : List Str := ["numbers","low","high","number"]
theorem sc_all_between : FnScope n_all_between p_all_between (defScope s_all_between) := ⟨rfl,rfl,rfl,by decide +kernel,rfl,by decide +kernel,by decide +kernel⟩
abbrev s_tree_refusal : Stmt := top 45
abbrev p_tree_refusal : List Str := ["n","a","b","bids","asks"]
abbrev n_tree_refusal : List Str := ["n","a","b","bids","asks","nodes","bid","ask"]
theorem sc_tree_refusal : FnScope n_tree_refusal p_tree_refusal (defScope s_tree_refusal) := ⟨rfl,rfl,rfl,by decide +kernel,rfl,by decide +kernel,by decide +kernel⟩
abbrev s_Walk_init : Stmt := inClass (top 47) 0
abbrev p_Walk_init : List Str := ["self","left","held"]
abbrev n_Walk_init : List Str := ["self","left","held"]
theorem sc_Walk_init : FnScope n_Walk_init p_Walk_init (defScope s_Walk_init) := ⟨rfl,rfl,rfl,by decide +kernel,rfl,by decide +kernel,by decide +kernel⟩
abbrev s_trading_cost : Stmt := top 48
abbrev p_trading_cost : List Str := ["tree","i","j","x","y"]
abbrev n_trading_cost : List Str := ["tree","i","j","x","y","price"]
theorem sc_trading_cost : FnScope n_trading_cost p_trading_cost (defScope s_trading_cost) := ⟨rfl,rfl,rfl,by decide +kernel,rfl,by decide +kernel,by decide +kernel⟩
abbrev s_left_over : Stmt := top 49
abbrev p_left_over : List Str := ["tree","claim","j","cash","units"]
abbrev n_left_over : List Str := ["tree","claim","j","cash","units","cost"]
theorem sc_left_over : FnScope n_left_over p_left_over (defScope s_left_over) := ⟨rfl,rfl,rfl,by decide +kernel,rfl,by decide +kernel,by decide +kernel⟩
abbrev s_walked : Stmt := top 50
abbrev p_walked : List Str := ["tree","claim","x","way"]
abbrev n_walked : List Str := ["tree","claim","x","way","steps","units","cash","held","j","i","move","target"]
theorem sc_walked : FnScope n_walked p_walked (defScope s_walked) := ⟨rfl,rfl,rfl,by decide +kernel,rfl,by decide +kernel,by decide +kernel⟩
abbrev s_answer_tree : Stmt := top 53
abbrev p_answer_tree : List Str := ["book","parts"]
abbrev n_answer_tree : List Str := ["book","parts","n","a","b","bids","asks","refused","tree"]
theorem sc_answer_tree : FnScope n_answer_tree p_answer_tree (defScope s_answer_tree) := ⟨rfl,rfl,rfl,by decide +kernel,rfl,by decide +kernel,by decide +kernel⟩
abbrev s_answer_claim : Stmt := top 54
abbrev p_answer_claim : List Str := ["book","parts"]
abbrev n_answer_claim : List Str := ["book","parts","r","cash","units","refused","ends"]
theorem sc_answer_claim : FnScope n_answer_claim p_answer_claim (defScope s_answer_claim) := ⟨rfl,rfl,rfl,by decide +kernel,rfl,by decide +kernel,by decide +kernel⟩
abbrev s_answer_turn : Stmt := top 55
abbrev p_answer_turn : List Str := ["book","parts"]
abbrev n_answer_turn : List Str := ["book","parts","r","x","refused"]
theorem sc_answer_turn : FnScope n_answer_turn p_answer_turn (defScope s_answer_turn) := ⟨rfl,rfl,rfl,by decide +kernel,rfl,by decide +kernel,by decide +kernel⟩
abbrev s_answer_sum : Stmt := top 56
abbrev p_answer_sum : List Str := ["book","parts"]
abbrev n_answer_sum : List Str := ["book","parts","r","x","y","refused","claim"]
theorem sc_answer_sum : FnScope n_answer_sum p_answer_sum (defScope s_answer_sum) := ⟨rfl,rfl,rfl,by decide +kernel,rfl,by decide +kernel,by decide +kernel⟩
abbrev s_answer_least : Stmt := top 57
abbrev p_answer_least : List Str := ["book","parts"]
abbrev n_answer_least : List Str := ["book","parts","r","i","j","x","refused","points"]
theorem sc_answer_least : FnScope n_answer_least p_answer_least (defScope s_answer_least) := ⟨rfl,rfl,rfl,by decide +kernel,rfl,by decide +kernel,by decide +kernel⟩
abbrev s_answer_points : Stmt := top 58
abbrev p_answer_points : List Str := ["book","parts"]
abbrev n_answer_points : List Str := ["book","parts","r","i","j","refused","points","told","q","v"]
theorem sc_answer_points : FnScope n_answer_points p_answer_points (defScope s_answer_points) := ⟨rfl,rfl,rfl,by decide +kernel,rfl,by decide +kernel,by decide +kernel⟩
abbrev s_answer_range : Stmt := top 59
abbrev p_answer_range : List Str := ["book","parts"]
abbrev n_answer_range : List Str := ["book","parts","i","j","refused","ends"]
theorem sc_answer_range : FnScope n_answer_range p_answer_range (defScope s_answer_range) := ⟨rfl,rfl,rfl,by decide +kernel,rfl,by decide +kernel,by decide +kernel⟩
abbrev s_answer_plan : Stmt := top 60
abbrev p_answer_plan : List Str := ["book","parts"]
abbrev n_answer_plan : List Str := ["book","parts","r","i","j","num","den","refused","coming"]
theorem sc_answer_plan : FnScope n_answer_plan p_answer_plan (defScope s_answer_plan) := ⟨rfl,rfl,rfl,by decide +kernel,rfl,by decide +kernel,by decide +kernel⟩
abbrev s_walk_refusal : Stmt := top 61
abbrev p_walk_refusal : List Str := ["book","r","x","way"]
abbrev n_walk_refusal : List Str := ["book","r","x","way","refused"]
theorem sc_walk_refusal : FnScope n_walk_refusal p_walk_refusal (defScope s_walk_refusal) := ⟨rfl,rfl,rfl,by decide +kernel,rfl,by decide +kernel,by decide +kernel⟩
abbrev s_answer_walk : Stmt := top 62
abbrev p_answer_walk : List Str := ["book","parts"]
abbrev n_answer_walk : List Str := ["book","parts","r","x","way","refused"]
theorem sc_answer_walk : FnScope n_answer_walk p_answer_walk (defScope s_answer_walk) := ⟨rfl,rfl,rfl,by decide +kernel,rfl,by decide +kernel,by decide +kernel⟩
abbrev s_answer_held : Stmt := top 63
abbrev p_answer_held : List Str := ["book","parts"]
abbrev n_answer_held : List Str := ["book","parts","r","x","way","refused","told","units"]
theorem sc_answer_held : FnScope n_answer_held p_answer_held (defScope s_answer_held) := ⟨rfl,rfl,rfl,by decide +kernel,rfl,by decide +kernel,by decide +kernel⟩
abbrev s_answer_enough : Stmt := top 64
abbrev p_answer_enough : List Str := ["book","parts"]
abbrev n_answer_enough : List Str := ["book","parts","r","x","num","den","refused","points"]
theorem sc_answer_enough : FnScope n_answer_enough p_answer_enough (defScope s_answer_enough) := ⟨rfl,rfl,rfl,by decide +kernel,rfl,by decide +kernel,by decide +kernel⟩
abbrev s_answer_quotes : Stmt := top 65
abbrev p_answer_quotes : List Str := ["book","parts"]
abbrev n_answer_quotes : List Str := ["book","parts","i","refused","told","j"]
theorem sc_answer_quotes : FnScope n_answer_quotes p_answer_quotes (defScope s_answer_quotes) := ⟨rfl,rfl,rfl,by decide +kernel,rfl,by decide +kernel,by decide +kernel⟩
abbrev s_answer_told : Stmt := top 66
abbrev p_answer_told : List Str := ["book","parts"]
abbrev n_answer_told : List Str := ["book","parts","r","refused","claim"]
theorem sc_answer_told : FnScope n_answer_told p_answer_told (defScope s_answer_told) := ⟨rfl,rfl,rfl,by decide +kernel,rfl,by decide +kernel,by decide +kernel⟩
abbrev s_read_call : Stmt := top 69
abbrev p_read_call : List Str := ["calls","start"]
abbrev n_read_call : List Str := ["calls","start","form","place","parts","row","behind"]
theorem sc_read_call : FnScope n_read_call p_read_call (defScope s_read_call) := ⟨rfl,rfl,rfl,by decide +kernel,rfl,by decide +kernel,by decide +kernel⟩
abbrev s_answers : Stmt := top 70
abbrev p_answers : List Str := ["calls"]
abbrev n_answers : List Str := ["calls","book","given","start","call","answer"]
theorem sc_answers : FnScope n_answers p_answers (defScope s_answers) := ⟨rfl,rfl,rfl,by decide +kernel,rfl,by decide +kernel,by decide +kernel⟩
set_option genInjectivity false in
structure Adr where
 f_Book_init : Addr
 d_Book_init : FuncData
 f_Book_take_tree : Addr
 d_Book_take_tree : FuncData
 f_Book_put_claim : Addr
 d_Book_put_claim : FuncData
 f_Book_has_place : Addr
 d_Book_has_place : FuncData
 f_Book_refusal : Addr
 d_Book_refusal : FuncData
 f_Claim_init : Addr
 d_Claim_init : FuncData
 f_empty_claim : Addr
 d_empty_claim : FuncData
 f_turned : Addr
 d_turned : FuncData
 f_together : Addr
 d_together : FuncData
 f_common_divisor : Addr
 d_common_divisor : FuncData
 f_ratio : Addr
 d_ratio : FuncData
 f_plus : Addr
 d_plus : FuncData
 f_minus : Addr
 d_minus : FuncData
 f_times : Addr
 d_times : FuncData
 f_over : Addr
 d_over : FuncData
 f_less : Addr
 d_less : FuncData
 f_lesser : Addr
 d_lesser : FuncData
 f_greater : Addr
 d_greater : FuncData
 f_text_bytes : Addr
 d_text_bytes : FuncData
 f_counted_bytes : Addr
 d_counted_bytes : FuncData
 f_scaled : Addr
 d_scaled : FuncData
 f_stands_before : Addr
 d_stands_before : FuncData
 f_merged : Addr
 d_merged : FuncData
 f_lies_above : Addr
 d_lies_above : FuncData
 f_upper_row : Addr
 d_upper_row : FuncData
 f_piece_slope : Addr
 d_piece_slope : FuncData
 f_value_at : Addr
 d_value_at : FuncData
 f_cut_row : Addr
 d_cut_row : FuncData
 f_least_cash : Addr
 d_least_cash : FuncData
 f_end_points : Addr
 d_end_points : FuncData
 f_last_step : Addr
 d_last_step : FuncData
 f_row_before : Addr
 d_row_before : FuncData
 f_step_before : Addr
 d_step_before : FuncData
 f_points_by_step : Addr
 d_points_by_step : FuncData
 f_node_range : Addr
 d_node_range : FuncData
 f_is_let : Addr
 d_is_let : FuncData
 f_lower_bound : Addr
 d_lower_bound : FuncData
 f_upper_bound : Addr
 d_upper_bound : FuncData
 f_planned : Addr
 d_planned : FuncData
 f_Tree_init : Addr
 d_Tree_init : FuncData
 f_Tree_has_node : Addr
 d_Tree_has_node : FuncData
 f_Tree_has_node_before_last : Addr
 d_Tree_has_node_before_last : FuncData
 f_Tree_has_way : Addr
 d_Tree_has_way : FuncData
 f_Tree_bid_at : Addr
 d_Tree_bid_at : FuncData
 f_Tree_ask_at : Addr
 d_Tree_ask_at : FuncData
 f_nodes_before : Addr
 d_nodes_before : FuncData
 f_all_between : Addr
 d_all_between : FuncData
 f_tree_refusal : Addr
 d_tree_refusal : FuncData
 f_Walk_init : Addr
 d_Walk_init : FuncData
 f_trading_cost : Addr
 d_trading_cost : FuncData
 f_left_over : Addr
 d_left_over : FuncData
 f_walked : Addr
 d_walked : FuncData
 f_answer_tree : Addr
 d_answer_tree : FuncData
 f_answer_claim : Addr
 d_answer_claim : FuncData
 f_answer_turn : Addr
 d_answer_turn : FuncData
 f_answer_sum : Addr
 d_answer_sum : FuncData
 f_answer_least : Addr
 d_answer_least : FuncData
 f_answer_points : Addr
 d_answer_points : FuncData
 f_answer_range : Addr
 d_answer_range : FuncData
 f_answer_plan : Addr
 d_answer_plan : FuncData
 f_walk_refusal : Addr
 d_walk_refusal : FuncData
 f_answer_walk : Addr
 d_answer_walk : FuncData
 f_answer_held : Addr
 d_answer_held : FuncData
 f_answer_enough : Addr
 d_answer_enough : FuncData
 f_answer_quotes : Addr
 d_answer_quotes : FuncData
 f_answer_told : Addr
 d_answer_told : FuncData
 f_read_call : Addr
 d_read_call : FuncData
 f_answers : Addr
 d_answers : FuncData
 c_Book : Addr
 c_Claim : Addr
 c_Tree : Addr
 c_Walk : Addr
 v_LIMIT : Value
 a_FORMS : Addr
structure Txt (K : PySem.W.Frag) (mg : Str -> Option Value) (A : Adr) : Prop where
 F_Book_init : Fun K "__init__" "Book.__init__" s_Book_init A.f_Book_init A.d_Book_init
 b_Book_init : Binds K A.d_Book_init p_Book_init []
 F_Book_take_tree : Fun K "take_tree" "Book.take_tree" s_Book_take_tree A.f_Book_take_tree A.d_Book_take_tree
 b_Book_take_tree : Binds K A.d_Book_take_tree p_Book_take_tree []
 me_Book_take_tree : Meth K A.c_Book "take_tree" A.f_Book_take_tree
 F_Book_put_claim : Fun K "put_claim" "Book.put_claim" s_Book_put_claim A.f_Book_put_claim A.d_Book_put_claim
 b_Book_put_claim : Binds K A.d_Book_put_claim p_Book_put_claim []
 me_Book_put_claim : Meth K A.c_Book "put_claim" A.f_Book_put_claim
 F_Book_has_place : Fun K "has_place" "Book.has_place" s_Book_has_place A.f_Book_has_place A.d_Book_has_place
 b_Book_has_place : Binds K A.d_Book_has_place p_Book_has_place []
 me_Book_has_place : Meth K A.c_Book "has_place" A.f_Book_has_place
 F_Book_refusal : Fun K "refusal" "Book.refusal" s_Book_refusal A.f_Book_refusal A.d_Book_refusal
 b_Book_refusal : Binds K A.d_Book_refusal p_Book_refusal []
 me_Book_refusal : Meth K A.c_Book "refusal" A.f_Book_refusal
 F_Claim_init : Fun K "__init__" "Claim.__init__" s_Claim_init A.f_Claim_init A.d_Claim_init
 b_Claim_init : Binds K A.d_Claim_init p_Claim_init []
 F_empty_claim : Fun K "empty_claim" "empty_claim" s_empty_claim A.f_empty_claim A.d_empty_claim
 b_empty_claim : Binds K A.d_empty_claim p_empty_claim []
 m_empty_claim : mg "empty_claim" = some (.ref A.f_empty_claim)
 F_turned : Fun K "turned" "turned" s_turned A.f_turned A.d_turned
 b_turned : Binds K A.d_turned p_turned []
 m_turned : mg "turned" = some (.ref A.f_turned)
 F_together : Fun K "together" "together" s_together A.f_together A.d_together
 b_together : Binds K A.d_together p_together []
 m_together : mg "together" = some (.ref A.f_together)
 F_common_divisor : Fun K "common_divisor" "common_divisor" s_common_divisor A.f_common_divisor A.d_common_divisor
 b_common_divisor : Binds K A.d_common_divisor p_common_divisor []
 m_common_divisor : mg "common_divisor" = some (.ref A.f_common_divisor)
 F_ratio : Fun K "ratio" "ratio" s_ratio A.f_ratio A.d_ratio
 b_ratio : Binds K A.d_ratio p_ratio []
 m_ratio : mg "ratio" = some (.ref A.f_ratio)
 F_plus : Fun K "plus" "plus" s_plus A.f_plus A.d_plus
 b_plus : Binds K A.d_plus p_plus []
 m_plus : mg "plus" = some (.ref A.f_plus)
 F_minus : Fun K "minus" "minus" s_minus A.f_minus A.d_minus
 b_minus : Binds K A.d_minus p_minus []
 m_minus : mg "minus" = some (.ref A.f_minus)
 F_times : Fun K "times" "times" s_times A.f_times A.d_times
 b_times : Binds K A.d_times p_times []
 m_times : mg "times" = some (.ref A.f_times)
 F_over : Fun K "over" "over" s_over A.f_over A.d_over
 b_over : Binds K A.d_over p_over []
 m_over : mg "over" = some (.ref A.f_over)
 F_less : Fun K "less" "less" s_less A.f_less A.d_less
 b_less : Binds K A.d_less p_less []
 m_less : mg "less" = some (.ref A.f_less)
 F_lesser : Fun K "lesser" "lesser" s_lesser A.f_lesser A.d_lesser
 b_lesser : Binds K A.d_lesser p_lesser []
 m_lesser : mg "lesser" = some (.ref A.f_lesser)
 F_greater : Fun K "greater" "greater" s_greater A.f_greater A.d_greater
 b_greater : Binds K A.d_greater p_greater []
 m_greater : mg "greater" = some (.ref A.f_greater)
 F_text_bytes : Fun K "text_bytes" "text_bytes" s_text_bytes A.f_text_bytes A.d_text_bytes
 b_text_bytes : Binds K A.d_text_bytes p_text_bytes []
 m_text_bytes : mg "text_bytes" = some (.ref A.f_text_bytes)
 F_counted_bytes : Fun K "counted_bytes" "counted_bytes" s_counted_bytes A.f_counted_bytes A.d_counted_bytes
 b_counted_bytes : Binds K A.d_counted_bytes p_counted_bytes []
 m_counted_bytes : mg "counted_bytes" = some (.ref A.f_counted_bytes)
 F_scaled : Fun K "scaled" "scaled" s_scaled A.f_scaled A.d_scaled
 b_scaled : Binds K A.d_scaled p_scaled []
 m_scaled : mg "scaled" = some (.ref A.f_scaled)
 F_stands_before : Fun K "stands_before" "stands_before" s_stands_before A.f_stands_before A.d_stands_before
 b_stands_before : Binds K A.d_stands_before p_stands_before []
 m_stands_before : mg "stands_before" = some (.ref A.f_stands_before)
 F_merged : Fun K "merged" "merged" s_merged A.f_merged A.d_merged
 b_merged : Binds K A.d_merged p_merged []
 m_merged : mg "merged" = some (.ref A.f_merged)
 F_lies_above : Fun K "lies_above" "lies_above" s_lies_above A.f_lies_above A.d_lies_above
 b_lies_above : Binds K A.d_lies_above p_lies_above []
 m_lies_above : mg "lies_above" = some (.ref A.f_lies_above)
 F_upper_row : Fun K "upper_row" "upper_row" s_upper_row A.f_upper_row A.d_upper_row
 b_upper_row : Binds K A.d_upper_row p_upper_row []
 m_upper_row : mg "upper_row" = some (.ref A.f_upper_row)
 F_piece_slope : Fun K "piece_slope" "piece_slope" s_piece_slope A.f_piece_slope A.d_piece_slope
 b_piece_slope : Binds K A.d_piece_slope p_piece_slope []
 m_piece_slope : mg "piece_slope" = some (.ref A.f_piece_slope)
 F_value_at : Fun K "value_at" "value_at" s_value_at A.f_value_at A.d_value_at
 b_value_at : Binds K A.d_value_at p_value_at []
 m_value_at : mg "value_at" = some (.ref A.f_value_at)
 F_cut_row : Fun K "cut_row" "cut_row" s_cut_row A.f_cut_row A.d_cut_row
 b_cut_row : Binds K A.d_cut_row p_cut_row []
 m_cut_row : mg "cut_row" = some (.ref A.f_cut_row)
 F_least_cash : Fun K "least_cash" "least_cash" s_least_cash A.f_least_cash A.d_least_cash
 b_least_cash : Binds K A.d_least_cash p_least_cash []
 m_least_cash : mg "least_cash" = some (.ref A.f_least_cash)
 F_end_points : Fun K "end_points" "end_points" s_end_points A.f_end_points A.d_end_points
 b_end_points : Binds K A.d_end_points p_end_points []
 m_end_points : mg "end_points" = some (.ref A.f_end_points)
 F_last_step : Fun K "last_step" "last_step" s_last_step A.f_last_step A.d_last_step
 b_last_step : Binds K A.d_last_step p_last_step []
 m_last_step : mg "last_step" = some (.ref A.f_last_step)
 F_row_before : Fun K "row_before" "row_before" s_row_before A.f_row_before A.d_row_before
 b_row_before : Binds K A.d_row_before p_row_before []
 m_row_before : mg "row_before" = some (.ref A.f_row_before)
 F_step_before : Fun K "step_before" "step_before" s_step_before A.f_step_before A.d_step_before
 b_step_before : Binds K A.d_step_before p_step_before []
 m_step_before : mg "step_before" = some (.ref A.f_step_before)
 F_points_by_step : Fun K "points_by_step" "points_by_step" s_points_by_step A.f_points_by_step A.d_points_by_step
 b_points_by_step : Binds K A.d_points_by_step p_points_by_step []
 m_points_by_step : mg "points_by_step" = some (.ref A.f_points_by_step)
 F_node_range : Fun K "node_range" "node_range" s_node_range A.f_node_range A.d_node_range
 b_node_range : Binds K A.d_node_range p_node_range []
 m_node_range : mg "node_range" = some (.ref A.f_node_range)
 F_is_let : Fun K "is_let" "is_let" s_is_let A.f_is_let A.d_is_let
 b_is_let : Binds K A.d_is_let p_is_let []
 m_is_let : mg "is_let" = some (.ref A.f_is_let)
 F_lower_bound : Fun K "lower_bound" "lower_bound" s_lower_bound A.f_lower_bound A.d_lower_bound
 b_lower_bound : Binds K A.d_lower_bound p_lower_bound []
 m_lower_bound : mg "lower_bound" = some (.ref A.f_lower_bound)
 F_upper_bound : Fun K "upper_bound" "upper_bound" s_upper_bound A.f_upper_bound A.d_upper_bound
 b_upper_bound : Binds K A.d_upper_bound p_upper_bound []
 m_upper_bound : mg "upper_bound" = some (.ref A.f_upper_bound)
 F_planned : Fun K "planned" "planned" s_planned A.f_planned A.d_planned
 b_planned : Binds K A.d_planned p_planned []
 m_planned : mg "planned" = some (.ref A.f_planned)
 F_Tree_init : Fun K "__init__" "Tree.__init__" s_Tree_init A.f_Tree_init A.d_Tree_init
 b_Tree_init : Binds K A.d_Tree_init p_Tree_init []
 F_Tree_has_node : Fun K "has_node" "Tree.has_node" s_Tree_has_node A.f_Tree_has_node A.d_Tree_has_node
 b_Tree_has_node : Binds K A.d_Tree_has_node p_Tree_has_node []
 me_Tree_has_node : Meth K A.c_Tree "has_node" A.f_Tree_has_node
 F_Tree_has_node_before_last : Fun K "has_node_before_last" "Tree.has_node_before_last" s_Tree_has_node_before_last A.f_Tree_has_node_before_last A.d_Tree_has_node_before_last
 b_Tree_has_node_before_last : Binds K A.d_Tree_has_node_before_last p_Tree_has_node_before_last []
 me_Tree_has_node_before_last : Meth K A.c_Tree "has_node_before_last" A.f_Tree_has_node_before_last
 F_Tree_has_way : Fun K "has_way" "Tree.has_way" s_Tree_has_way A.f_Tree_has_way A.d_Tree_has_way
 b_Tree_has_way : Binds K A.d_Tree_has_way p_Tree_has_way []
 me_Tree_has_way : Meth K A.c_Tree "has_way" A.f_Tree_has_way
 F_Tree_bid_at : Fun K "bid_at" "Tree.bid_at" s_Tree_bid_at A.f_Tree_bid_at A.d_Tree_bid_at
 b_Tree_bid_at : Binds K A.d_Tree_bid_at p_Tree_bid_at []
 me_Tree_bid_at : Meth K A.c_Tree "bid_at" A.f_Tree_bid_at
 F_Tree_ask_at : Fun K "ask_at" "Tree.ask_at" s_Tree_ask_at A.f_Tree_ask_at A.d_Tree_ask_at
 b_Tree_ask_at : Binds K A.d_Tree_ask_at p_Tree_ask_at []
 me_Tree_ask_at : Meth K A.c_Tree "ask_at" A.f_Tree_ask_at
 F_nodes_before : Fun K "nodes_before" "nodes_before" s_nodes_before A.f_nodes_before A.d_nodes_before
 b_nodes_before : Binds K A.d_nodes_before p_nodes_before []
 m_nodes_before : mg "nodes_before" = some (.ref A.f_nodes_before)
 F_all_between : Fun K "all_between" "all_between" s_all_between A.f_all_between A.d_all_between
 b_all_between : Binds K A.d_all_between p_all_between []
 m_all_between : mg "all_between" = some (.ref A.f_all_between)
 F_tree_refusal : Fun K "tree_refusal" "tree_refusal" s_tree_refusal A.f_tree_refusal A.d_tree_refusal
 b_tree_refusal : Binds K A.d_tree_refusal p_tree_refusal []
 m_tree_refusal : mg "tree_refusal" = some (.ref A.f_tree_refusal)
 F_Walk_init : Fun K "__init__" "Walk.__init__" s_Walk_init A.f_Walk_init A.d_Walk_init
 b_Walk_init : Binds K A.d_Walk_init p_Walk_init []
 F_trading_cost : Fun K "trading_cost" "trading_cost" s_trading_cost A.f_trading_cost A.d_trading_cost
 b_trading_cost : Binds K A.d_trading_cost p_trading_cost []
 m_trading_cost : mg "trading_cost" = some (.ref A.f_trading_cost)
 F_left_over : Fun K "left_over" "left_over" s_left_over A.f_left_over A.d_left_over
 b_left_over : Binds K A.d_left_over p_left_over []
 m_left_over : mg "left_over" = some (.ref A.f_left_over)
 F_walked : Fun K "walked" "walked" s_walked A.f_walked A.d_walked
 b_walked : Binds K A.d_walked p_walked []
 m_walked : mg "walked" = some (.ref A.f_walked)
 F_answer_tree : Fun K "answer_tree" "answer_tree" s_answer_tree A.f_answer_tree A.d_answer_tree
 b_answer_tree : Binds K A.d_answer_tree p_answer_tree []
 m_answer_tree : mg "answer_tree" = some (.ref A.f_answer_tree)
 F_answer_claim : Fun K "answer_claim" "answer_claim" s_answer_claim A.f_answer_claim A.d_answer_claim
 b_answer_claim : Binds K A.d_answer_claim p_answer_claim []
 m_answer_claim : mg "answer_claim" = some (.ref A.f_answer_claim)
 F_answer_turn : Fun K "answer_turn" "answer_turn" s_answer_turn A.f_answer_turn A.d_answer_turn
 b_answer_turn : Binds K A.d_answer_turn p_answer_turn []
 m_answer_turn : mg "answer_turn" = some (.ref A.f_answer_turn)
 F_answer_sum : Fun K "answer_sum" "answer_sum" s_answer_sum A.f_answer_sum A.d_answer_sum
 b_answer_sum : Binds K A.d_answer_sum p_answer_sum []
 m_answer_sum : mg "answer_sum" = some (.ref A.f_answer_sum)
 F_answer_least : Fun K "answer_least" "answer_least" s_answer_least A.f_answer_least A.d_answer_least
 b_answer_least : Binds K A.d_answer_least p_answer_least []
 m_answer_least : mg "answer_least" = some (.ref A.f_answer_least)
 F_answer_points : Fun K "answer_points" "answer_points" s_answer_points A.f_answer_points A.d_answer_points
 b_answer_points : Binds K A.d_answer_points p_answer_points []
 m_answer_points : mg "answer_points" = some (.ref A.f_answer_points)
 F_answer_range : Fun K "answer_range" "answer_range" s_answer_range A.f_answer_range A.d_answer_range
 b_answer_range : Binds K A.d_answer_range p_answer_range []
 m_answer_range : mg "answer_range" = some (.ref A.f_answer_range)
 F_answer_plan : Fun K "answer_plan" "answer_plan" s_answer_plan A.f_answer_plan A.d_answer_plan
 b_answer_plan : Binds K A.d_answer_plan p_answer_plan []
 m_answer_plan : mg "answer_plan" = some (.ref A.f_answer_plan)
 F_walk_refusal : Fun K "walk_refusal" "walk_refusal" s_walk_refusal A.f_walk_refusal A.d_walk_refusal
 b_walk_refusal : Binds K A.d_walk_refusal p_walk_refusal []
 m_walk_refusal : mg "walk_refusal" = some (.ref A.f_walk_refusal)
 F_answer_walk : Fun K "answer_walk" "answer_walk" s_answer_walk A.f_answer_walk A.d_answer_walk
 b_answer_walk : Binds K A.d_answer_walk p_answer_walk []
 m_answer_walk : mg "answer_walk" = some (.ref A.f_answer_walk)
 F_answer_held : Fun K "answer_held" "answer_held" s_answer_held A.f_answer_held A.d_answer_held
 b_answer_held : Binds K A.d_answer_held p_answer_held []
 m_answer_held : mg "answer_held" = some (.ref A.f_answer_held)
 F_answer_enough : Fun K "answer_enough" "answer_enough" s_answer_enough A.f_answer_enough A.d_answer_enough
 b_answer_enough : Binds K A.d_answer_enough p_answer_enough []
 m_answer_enough : mg "answer_enough" = some (.ref A.f_answer_enough)
 F_answer_quotes : Fun K "answer_quotes" "answer_quotes" s_answer_quotes A.f_answer_quotes A.d_answer_quotes
 b_answer_quotes : Binds K A.d_answer_quotes p_answer_quotes []
 m_answer_quotes : mg "answer_quotes" = some (.ref A.f_answer_quotes)
 F_answer_told : Fun K "answer_told" "answer_told" s_answer_told A.f_answer_told A.d_answer_told
 b_answer_told : Binds K A.d_answer_told p_answer_told []
 m_answer_told : mg "answer_told" = some (.ref A.f_answer_told)
 F_read_call : Fun K "read_call" "read_call" s_read_call A.f_read_call A.d_read_call
 b_read_call : Binds K A.d_read_call p_read_call []
 m_read_call : mg "read_call" = some (.ref A.f_read_call)
 F_answers : Fun K "answers" "answers" s_answers A.f_answers A.d_answers
 b_answers : Binds K A.d_answers p_answers []
 m_answers : mg "answers" = some (.ref A.f_answers)
 cl_Book : Cls K A.c_Book
 mk_Book : Mk K A.c_Book A.f_Book_init
 m_Book : mg "Book" = some (.ref A.c_Book)
 na_Book_tree : NoAttr K A.c_Book "tree"
 na_Book_claims : NoAttr K A.c_Book "claims"
 cl_Claim : Cls K A.c_Claim
 mk_Claim : Mk K A.c_Claim A.f_Claim_init
 m_Claim : mg "Claim" = some (.ref A.c_Claim)
 na_Claim_cash : NoAttr K A.c_Claim "cash"
 na_Claim_units : NoAttr K A.c_Claim "units"
 cl_Tree : Cls K A.c_Tree
 mk_Tree : Mk K A.c_Tree A.f_Tree_init
 m_Tree : mg "Tree" = some (.ref A.c_Tree)
 na_Tree_steps : NoAttr K A.c_Tree "steps"
 na_Tree_growth : NoAttr K A.c_Tree "growth"
 na_Tree_shrink : NoAttr K A.c_Tree "shrink"
 na_Tree_bids : NoAttr K A.c_Tree "bids"
 na_Tree_asks : NoAttr K A.c_Tree "asks"
 cl_Walk : Cls K A.c_Walk
 mk_Walk : Mk K A.c_Walk A.f_Walk_init
 m_Walk : mg "Walk" = some (.ref A.c_Walk)
 na_Walk_left : NoAttr K A.c_Walk "left"
 na_Walk_held : NoAttr K A.c_Walk "held"
 n_range : mg "range" = none
 n_zip : mg "zip" = none
 n_all : mg "all" = none
 n_any : mg "any" = none
 n_enumerate : mg "enumerate" = none
 n_abs : mg "abs" = none
 n_ord : mg "ord" = none
 n_len : mg "len" = none
 g_LIMIT : mg "LIMIT" = some A.v_LIMIT
 r_LIMIT : RelV (.int 1000000) A.v_LIMIT
 g_FORMS : mg "FORMS" = some (.ref A.a_FORMS)
 t_FORMS : ∃ ps : List Addr,(∀ H,SqT K H A.a_FORMS (ps.map V.ref)) /\ All2 (fun p (x : Int × Int × Addr) => ∀ H,SqT K H p [.int x.1,.int x.2.1,.ref x.2.2]) ps [(3,2,A.f_answer_tree),(1,2,A.f_answer_claim),(2,0,A.f_answer_turn),(3,0,A.f_answer_sum),(4,0,A.f_answer_least),(3,0,A.f_answer_points),(2,0,A.f_answer_range),(5,0,A.f_answer_plan),(2,1,A.f_answer_walk),(2,1,A.f_answer_held),(4,0,A.f_answer_enough),(1,0,A.f_answer_quotes),(1,0,A.f_answer_told)]
theorem Txt.r_FORMS {K : PySem.W.Frag} {mg : Str -> Option Value} {A : Adr} (_ : Txt K mg A) : RelV (.ref A.a_FORMS) (.ref A.a_FORMS) := rfl
end CH
namespace CH
open PySem PySem.Spec PyProof.Rows L2
abbrev VP := Hp -> V -> Prop
class Mono (P : VP) : Prop where
 up : ∀ {H H' : Hp} {v : V},Same H H' -> P H v -> P H' v
def EqV (u : V) : VP := fun _ v => v = u
abbrev IntV (i : Int) : VP := EqV (.int i)
abbrev BlV (b : Bool) : VP := EqV (.bl b)
def FrV (x : Vbchal.Frac) : VP := fun H v => FrA H v x
def PtV (p : Vbchal.Point) : VP := fun H v => PtA H v p
def LsV {β : Type} (F : β -> VP) (l : List β) : VP := fun H v => ∃ a vs,v = .ref a /\ H a = some (.lst vs) /\ All2 (fun u x => F x H u) vs l
abbrev RowV : List Vbchal.Point -> VP := LsV PtV
abbrev LevV : List (List Vbchal.Point) -> VP := LsV RowV
abbrev IntsV : List Int -> VP := LsV IntV
def AndV (P R : VP) : VP := fun H v => P H v /\ R H v
def NewV (H0 : Hp) : VP := fun _ v => ∃ a,v = .ref a /\ H0 a = Option.none
def PropV (p : Prop) : VP := fun _ _ => p
instance (u : V) : Mono (EqV u) := ⟨fun _ h => h⟩
instance (x : Vbchal.Frac) : Mono (FrV x) := ⟨fun s h => FrA.up s h⟩
instance (x : Vbchal.Point) : Mono (PtV x) := ⟨fun s h => PtA.up s h⟩
theorem all_up {β : Type} {F : β -> VP} [i : ∀ x,Mono (F x)] {H H' : Hp} {vs : List V} {l : List β} (s : Same H H') (h : All2 (fun u x => F x H u) vs l) : All2 (fun u x => F x H' u) vs l := All2.imp (F := fun u x => F x H u) (G := fun u x => F x H' u) (fun u x q => (i x).up s q) h
instance {β : Type} {F : β -> VP} [∀ x,Mono (F x)] (l : List β) : Mono (LsV F l) := ⟨fun s ⟨a,vs,e,h,h1⟩ => ⟨a,vs,e,s _ _ h,all_up s h1⟩⟩
instance {P R : VP} [Mono P] [Mono R] : Mono (AndV P R) := ⟨fun s h => ⟨Mono.up s h.1,Mono.up s h.2⟩⟩
instance (H0 : Hp) : Mono (NewV H0) := ⟨fun _ h => h⟩
instance (p : Prop) : Mono (PropV p) := ⟨fun _ h => h⟩
theorem ints_eq : ∀ {vs : List V} {l : List Int} {H : Hp},All2 (fun u x => IntV x H u) vs l -> vs = l.map V.int
 | _,_,_,.nil => rfl
 | _,_,_,.cons h t => by
  have e : _ = _ := h
  rw [e,ints_eq t]; rfl
theorem ints_of (H : Hp) : ∀ (l : List Int),All2 (fun u x => IntV x H u) (l.map V.int) l
 | [] => .nil
 | _ :: l => .cons rfl (ints_of H l)
theorem IntsV.get {H : Hp} {v : V} {l : List Int} (h : IntsV l H v) : ∃ a,v = .ref a /\ H a = some (.lst (l.map V.int)) := by
 obtain ⟨a,vs,e,h,h1⟩ := h
 rw [ints_eq h1] at h
 exact ⟨a,e,h⟩
theorem IntsV.mk {H : Hp} {a : Addr} {l : List Int} (h : H a = some (.lst (l.map V.int))) : IntsV l H (.ref a) := ⟨a,_,rfl,h,ints_of H l⟩
theorem iteT' {b : Bool} {A B : Prop} (e : b = true) (h : A) : if b = true then A else B := by rw [if_pos e]; exact h
theorem iteF' {b : Bool} {A B : Prop} (e : b = false) (h : B) : if b = true then A else B := by rw [if_neg (by rw [e]; decide)]; exact h
section
variable {H0 H H1 H2 : Hp} {σ : L2.St} {P R : VP} {te ta tb tc td : TE} {Q : VK}
def Yd (H0 : Hp) (te : TE) (σ : L2.St) (P : VP) : Prop := ∀ (H : Hp) (Q : VK),Same H0 H -> (∀ v H',Same H H' -> P H' v -> Q v H') -> te σ H Q
def YdT (H0 : Hp) (tt : TT) (σ : L2.St) (b : Bool) : Prop := ∀ (H : Hp) (Q : Bool -> Hp -> Prop),Same H0 H -> (∀ H',Same H H' -> Q b H') -> tt σ H Q
def YdA (H0 : Hp) (tA : TA) (σ : L2.St) (B : Hp -> List V -> Prop) : Prop := ∀ (H : Hp) (Q : List V -> Hp -> Prop),Same H0 H -> (∀ vs H',Same H H' -> B H' vs -> Q vs H') -> tA σ H Q
theorem Yd.imp (h : Yd H0 te σ P) (f : ∀ H v,P H v -> R H v) : Yd H0 te σ R := fun H Q s k => h H Q s fun v H' s' p => k v H' s' (f H' v p)
theorem Yd.base (h : Yd H0 te σ P) (s0 : Same H0 H1) : Yd H1 te σ P := fun H Q s k => h H Q (s0.trans s) k
theorem YdT.eq {tt : TT} {b c : Bool} (h : YdT H0 tt σ b) (e : b = c) : YdT H0 tt σ c := e ▸ h
theorem Yd.eq {u w : V} (h : Yd H0 te σ (EqV u)) (e : u = w) : Yd H0 te σ (EqV w) := e ▸ h
theorem y_var {i : Nat} {v : V} [Mono P] (e : σ[i]? = some (some v)) (h : P H0 v) : Yd H0 (tVar i) σ P := fun H Q s k => ⟨v,e,k v H (Same.refl H) (Mono.up s h)⟩
theorem y_c {v : V} : Yd H0 (tC v) σ (EqV v) := fun H Q s k => k v H (Same.refl H) rfl
theorem y_rI0 {f : Int -> Int -> V} {i j : Int} (ha : Yd H0 ta σ (IntV i)) (hb : Yd H0 tb σ (IntV j)) : Yd H0 (tOp (rI0 f) ta tb) σ (EqV (f i j)) := fun H Q s k =>
 ha H _ s fun v H1 s1 e1 => hb H1 _ (s.trans s1) fun u H2 s2 e2 => ⟨i,j,e1,e2,k _ H2 (s1.trans s2) rfl⟩
theorem y_rI {C : Int -> Int -> Prop} {f : Int -> Int -> V} {i j : Int} (ha : Yd H0 ta σ (IntV i)) (hb : Yd H0 tb σ (IntV j)) (c : C i j) : Yd H0 (tOp (rI C f) ta tb) σ (EqV (f i j)) := fun H Q s k =>
 ha H _ s fun v H1 s1 e1 => hb H1 _ (s.trans s1) fun u H2 s2 e2 => ⟨i,j,e1,e2,c,k _ H2 (s1.trans s2) rfl⟩
theorem y_rU {f : Int -> V} {i : Int} (ha : Yd H0 ta σ (IntV i)) : Yd H0 (tUn (rU f) ta) σ (EqV (f i)) := fun H Q s k =>
 ha H _ s fun v H1 s1 e1 => ⟨i,e1,k _ H1 s1 rfl⟩
theorem y_eq {u w : V} (hs : scal u w = true) (ha : Yd H0 ta σ (EqV u)) (hb : Yd H0 tb σ (EqV w)) : Yd H0 (tOp rEq ta tb) σ (BlV (decide (u = w))) := fun H Q s k =>
 ha H _ s fun v H1 s1 e1 => hb H1 _ (s.trans s1) fun v' H2 s2 e2 => by
  cases e1; cases e2
  exact ⟨hs,k _ H2 (s1.trans s2) rfl⟩
theorem y_ne {u w : V} (hs : scal u w = true) (ha : Yd H0 ta σ (EqV u)) (hb : Yd H0 tb σ (EqV w)) : Yd H0 (tOp rNe ta tb) σ (BlV (!decide (u = w))) := fun H Q s k =>
 ha H _ s fun v H1 s1 e1 => hb H1 _ (s.trans s1) fun v' H2 s2 e2 => by
  cases e1; cases e2
  exact ⟨hs,k _ H2 (s1.trans s2) rfl⟩
theorem y_ixT {K : PySem.W.Frag} {i : Int} (ha : Yd H0 ta σ P) (f : ∀ H v,P H v -> ∃ p xs u,v = .ref p /\ SqT K H p xs /\ atI xs i = some u /\ R H u) : Yd H0 (tOp (rIxT K) ta (tC (.int i))) σ R := fun H Q s k =>
 ha H _ s fun v H1 s1 h1 => by
  obtain ⟨p,xs,u,e,h,hx,hr⟩ := f H1 v h1
  exact ⟨p,xs,i,u,e,rfl,h,hx,k _ H1 s1 hr⟩
theorem y_q {K : PySem.W.Frag} {p : Vbchal.Point} (ha : Yd H0 ta σ (PtV p)) : Yd H0 (tOp (rIxT K) ta (tC (.int 0))) σ (FrV p.q) := y_ixT ha fun H v h => by
 obtain ⟨a,u,w,e,h,h1,h2⟩ := h
 exact ⟨a,_,u,e,SqT.of h,rfl,h1⟩
theorem y_v {K : PySem.W.Frag} {p : Vbchal.Point} (ha : Yd H0 ta σ (PtV p)) : Yd H0 (tOp (rIxT K) ta (tC (.int 1))) σ (FrV p.v) := y_ixT ha fun H v h => by
 obtain ⟨a,u,w,e,h,h1,h2⟩ := h
 exact ⟨a,_,w,e,SqT.of h,rfl,h2⟩
theorem y_num {K : PySem.W.Frag} {x : Vbchal.Frac} (ha : Yd H0 ta σ (FrV x)) : Yd H0 (tOp (rIxT K) ta (tC (.int 0))) σ (IntV x.num) := y_ixT ha fun H v h => by
 obtain ⟨a,e,h⟩ := h
 exact ⟨a,_,_,e,SqT.of h,rfl,rfl⟩
theorem y_den {K : PySem.W.Frag} {x : Vbchal.Frac} (ha : Yd H0 ta σ (FrV x)) : Yd H0 (tOp (rIxT K) ta (tC (.int 1))) σ (IntV (x.den : Int)) := y_ixT ha fun H v h => by
 obtain ⟨a,e,h⟩ := h
 exact ⟨a,_,_,e,SqT.of h,rfl,rfl⟩
theorem all2_at {α β : Type} {F : α -> β -> Prop} {l : List α} {m : List β} (h : All2 F l m) {i : Int} {b : β} (e : atI m i = some b) : ∃ a,atI l i = some a /\ F a b := by
 unfold atI at *
 rw [h.len]
 cases e1 : ixN m.length i with
 | none => rw [e1] at e; cases e
 | some j =>
  rw [e1] at e
  exact h.get (i := j) e
theorem y_ixL {K : PySem.W.Frag} {β : Type} {F : β -> VP} {l : List β} {i : Int} {x : β} (ha : Yd H0 ta σ (LsV F l)) (hb : Yd H0 tb σ (IntV i)) (e : atI l i = some x) [∀ x,Mono (F x)] : Yd H0 (tOp (rIxL K) ta tb) σ (F x) := fun H Q s k =>
 ha H _ s fun v H1 s1 h1 => hb H1 _ (s.trans s1) fun u H2 s2 e2 => by
  obtain ⟨a,vs,e0,h,h2⟩ := (Mono.up s2 h1 : LsV F l H2 v)
  obtain ⟨w,ew,hw⟩ := all2_at h2 e
  exact ⟨a,vs,i,w,e0,e2,SqL.of h,ew,k _ H2 (s1.trans s2) hw⟩
def Ar : List VP -> Hp -> List V -> Prop
 | [],_,vs => vs = []
 | P :: Ps,H,vs => ∃ v r,vs = v :: r /\ P H v /\ Ar Ps H r
theorem Ar.len : ∀ {Ps : List VP} {H : Hp} {vs : List V},Ar Ps H vs -> vs.length = Ps.length
 | [],_,_,h => by rw [show _ = _ from h]; rfl
 | _ :: Ps,_,_,⟨v,r,e,_,h⟩ => by rw [e]; exact congrArg (· + 1) (Ar.len h)
theorem ya_nil : YdA H0 tNil σ (Ar []) := fun H Q s k => k [] H (Same.refl H) rfl
theorem ya_cons {tr : TA} {Ps : List VP} [Mono P] (h : Yd H0 te σ P) (hr : YdA H0 tr σ (Ar Ps)) : YdA H0 (tCons te tr) σ (Ar (P :: Ps)) := fun H Q s k =>
 h H _ s fun v H1 s1 hv => hr H1 _ (s.trans s1) fun vs H2 s2 hvs => k _ H2 (s1.trans s2) ⟨v,vs,rfl,Mono.up s2 hv,hvs⟩
def spA {ι : Type} (Ps : ι -> List VP) (B : ι -> Prop) (R : ι -> VP) : Sp := fun vs H Q _ => ∃ i,Ar (Ps i) H vs /\ B i /\ ∀ r H',Same H H' -> R i H' r -> Q r H'
def spN {ι : Type} (Ps : ι -> List VP) (B : ι -> Prop) (R : ι -> Hp -> VP) : Sp := fun vs H Q _ => ∃ i,Ar (Ps i) H vs /\ B i /\ ∀ r H',Same H H' -> R i H H' r -> NewV H H' r -> Q r H'
theorem y_call {ι : Type} {Ps : ι -> List VP} {B : ι -> Prop} {R : ι -> VP} {E : XK} {tA : TA} (i : ι) (ha : YdA H0 tA σ (Ar (Ps i))) (hb : B i) : Yd H0 (tCall (spA Ps B R) [] E tA) σ (R i) := fun H Q s k =>
 ha H _ s fun vs H1 s1 hv => ⟨i,by rw [List.append_nil]; exact hv,hb,fun r H' s2 hr => k r H' (s1.trans s2) hr⟩
theorem NewV.old {H0 H1 H' : Hp} {v : V} (s : Same H0 H1) (h : NewV H1 H' v) : NewV H0 H' v := let ⟨a,e,n⟩ := h; ⟨a,e,s.free n⟩
theorem y_callN {ι : Type} {Ps : ι -> List VP} {B : ι -> Prop} {R : ι -> Hp -> VP} {E : XK} {tA : TA} (i : ι) (ha : YdA H0 tA σ (Ar (Ps i))) (hb : B i) (hR : ∀ H1 H' v,Same H0 H1 -> R i H1 H' v -> R i H0 H' v) :
  Yd H0 (tCall (spN Ps B R) [] E tA) σ (AndV (R i H0) (NewV H0)) := fun H Q s k =>
 ha H _ s fun vs H1 s1 hv => ⟨i,by rw [List.append_nil]; exact hv,hb,fun r H' s2 hr hn => k r H' (s1.trans s2) ⟨hR H1 H' r (s.trans s1) hr,hn.old (s.trans s1)⟩⟩
theorem spA_len {ι : Type} {Ps : ι -> List VP} {B : ι -> Prop} {R : ι -> VP} {n : Nat} (h : ∀ i,(Ps i).length = n) : ∀ vs H Q E,spA Ps B R vs H Q E -> vs.length = n := fun vs H Q E ⟨i,ha,_⟩ => ha.len.trans (h i)
theorem spN_len {ι : Type} {Ps : ι -> List VP} {B : ι -> Prop} {R : ι -> Hp -> VP} {n : Nat} (h : ∀ i,(Ps i).length = n) : ∀ vs H Q E,spN Ps B R vs H Q E -> vs.length = n := fun vs H Q E ⟨i,ha,_⟩ => ha.len.trans (h i)
theorem y_fld {K : PySem.W.Frag} {f : Str} (ha : Yd H0 ta σ P) (h : ∀ H v,P H v -> ∃ a C dx fs u,v = .ref a /\ H a = some (.ins C dx fs) /\ Cls K C /\ NoAttr K C f /\ fs.lookup f = some u /\ R H u) : Yd H0 (tFld K ta f) σ R := fun H Q s k =>
 ha H _ s fun v H1 s1 h1 => by
  obtain ⟨a,C,dx,fs,u,e,h2,c,n,l,r⟩ := h H1 v h1
  exact ⟨a,C,dx,fs,u,e,h2,c,n,l,k _ H1 s1 r⟩
theorem y_meth {C : Addr} {m : Str} {ι : Type} {Ps : ι -> List VP} {B : ι -> Prop} {R : ι -> VP} {E : XK} {tA : TA} {Ps' : List VP} [Mono P] (ha : Yd H0 ta σ P) (h : ∀ H v,P H v -> ∃ a dx fs,v = .ref a /\ H a = some (.ins C dx fs) /\ fs.lookup m = none)
  (i : ι) (hA : YdA H0 tA σ (Ar Ps')) (e : Ps i = P :: Ps') (hb : B i) : Yd H0 (tMeth C m (spA Ps B R) [] E ta tA) σ (R i) := fun H Q s k =>
 ha H _ s fun v H1 s1 h1 => by
  obtain ⟨a,dx,fs,ev,h2,l⟩ := h H1 v h1
  refine ⟨a,dx,fs,ev,h2,l,hA H1 _ (s.trans s1) fun vs H2 s2 hvs => ⟨i,?_,hb,fun r H' s3 hr => k r H' (s1.trans (s2.trans s3)) hr⟩⟩
  rw [List.append_nil,e]
  exact ⟨v,vs,rfl,Mono.up s2 h1,hvs⟩
theorem yt_tst {b : Bool} (h : Yd H0 te σ (BlV b)) : YdT H0 (tTest te) σ b := fun H Q s k => h H _ s fun v H' s' e => ⟨b,e,k H' s'⟩
theorem yt_tB {b : Bool} (h : Yd H0 te σ (BlV b)) : YdT H0 (tB te) σ b := fun H Q s k => h H _ s fun v H' s' e => ⟨b,e,k H' s'⟩
theorem yt_not {t : TT} {b : Bool} (h : YdT H0 t σ b) : YdT H0 (tNot t) σ (!b) := fun H Q s k => h H _ s fun H' s' => k H' s'
theorem yt_and {t u : TT} {b c : Bool} (h : YdT H0 t σ b) (h2 : b = true -> YdT H0 u σ c) : YdT H0 (tAnd t u) σ (b && c) := fun H Q s k => h H _ s fun H' s' => by
 cases b with
 | true => exact iteT (h2 rfl H' _ (s.trans s') fun H'' s'' => k H'' (s'.trans s''))
 | false => exact iteF (k H' s')
theorem yt_or {t u : TT} {b c : Bool} (h : YdT H0 t σ b) (h2 : b = false -> YdT H0 u σ c) : YdT H0 (tOr t u) σ (b || c) := fun H Q s k => h H _ s fun H' s' => by
 cases b with
 | true => exact iteT (k H' s')
 | false => exact iteF (h2 rfl H' _ (s.trans s') fun H'' s'' => k H'' (s'.trans s''))
theorem yt_yes : YdT H0 tYes σ true := fun H Q s k => k H (Same.refl H)
theorem y_andV {b c : Bool} (h : Yd H0 ta σ (BlV b)) (h2 : b = true -> Yd H0 tb σ (BlV c)) : Yd H0 (tAndV ta tb) σ (BlV (b && c)) := fun H Q s k => h H _ s fun v H' s' e => ⟨b,e,by
 cases b with
 | true => exact iteT (h2 rfl H' _ (s.trans s') fun v'' H'' s'' e'' => k v'' H'' (s'.trans s'') e'')
 | false => exact iteF (k _ H' s' rfl)⟩
theorem y_if {t : TT} {b : Bool} (h : YdT H0 t σ b) (h1 : b = true -> Yd H0 ta σ P) (h2 : b = false -> Yd H0 tb σ P) : Yd H0 (tIf t ta tb) σ P := fun H Q s k => h H _ s fun H' s' => by
 cases b with
 | true => exact iteT (h1 rfl H' _ (s.trans s') fun v H'' s'' p => k v H'' (s'.trans s'') p)
 | false => exact iteF (h2 rfl H' _ (s.trans s') fun v H'' s'' p => k v H'' (s'.trans s'') p)
theorem y_notN {u : V} (ha : Yd H0 ta σ (EqV u)) : Yd H0 (tOp (fun x y H Q => y = .non /\ Q (.bl (!decide (x = .non))) H) ta (tC .non)) σ (BlV (!decide (u = .non))) := fun H Q s k =>
 ha H _ s fun v H1 s1 e1 => ⟨rfl,k _ H1 s1 (by cases e1; rfl)⟩
theorem y_chain {f g : Int -> Int -> Bool} {i j l : Int} (ha : Yd H0 ta σ (IntV i)) (hb : Yd H0 tb σ (IntV j)) (hc : Yd H0 tc σ (IntV l)) : Yd H0 (tChain (rI0 fun i j => .bl (f i j)) (rI0 fun i j => .bl (g i j)) ta tb tc) σ (BlV (f i j && g j l)) := fun H Q s k =>
 ha H _ s fun v H1 s1 e1 => hb H1 _ (s.trans s1) fun u H2 s2 e2 => ⟨i,j,e1,e2,f i j,rfl,by
  cases e : f i j with
  | true => exact iteT (hc H2 _ (s.trans (s1.trans s2)) fun w H3 s3 e3 => ⟨j,l,e2,e3,k _ H3 (s1.trans (s2.trans s3)) (by rw [e]; rfl)⟩)
  | false => exact iteF (k _ H2 (s1.trans s2) (by rw [e]; rfl))⟩
theorem y_chain3 {f g h : Int -> Int -> Bool} {i j l m : Int} (ha : Yd H0 ta σ (IntV i)) (hb : Yd H0 tb σ (IntV j)) (hc : Yd H0 tc σ (IntV l)) (hd : Yd H0 td σ (IntV m)) :
  Yd H0 (tChain3 (rI0 fun i j => .bl (f i j)) (rI0 fun i j => .bl (g i j)) (rI0 fun i j => .bl (h i j)) ta tb tc td) σ (BlV (f i j && (g j l && h l m))) := fun H Q s k =>
 ha H _ s fun v H1 s1 e1 => hb H1 _ (s.trans s1) fun u H2 s2 e2 => ⟨i,j,e1,e2,f i j,rfl,by
  cases e : f i j with
  | true =>
   refine iteT (hc H2 _ (s.trans (s1.trans s2)) fun w H3 s3 e3 => ⟨j,l,e2,e3,g j l,rfl,?_⟩)
   cases e' : g j l with
   | true => exact iteT (hd H3 _ (s.trans (s1.trans (s2.trans s3))) fun w4 H4 s4 e4 => ⟨l,m,e3,e4,k _ H4 (s1.trans (s2.trans (s3.trans s4))) (by rw [e,e']; rfl)⟩)
   | false => exact iteF (k _ H3 (s1.trans (s2.trans s3)) (by rw [e,e']; rfl))
  | false => exact iteF (k _ H2 (s1.trans s2) (by rw [e]; rfl))⟩
theorem frac_dp {K : PySem.W.Frag} {v : V} {x : Vbchal.Frac} (h : FrV x H v) : Dp K H v (.tuple [.int x.num,.int (x.den : Int)]) := by
 obtain ⟨a,rfl,h⟩ := h
 exact .tup (SqT.of h) (.cons (.int _) (.cons (.int _) .nil))
theorem y_eqF {K : PySem.W.Frag} {x y : Vbchal.Frac} (ha : Yd H0 ta σ (FrV x)) (hb : Yd H0 tb σ (FrV y)) : Yd H0 (tOp (rEqD K) ta tb) σ (BlV (Vbchal.same x y)) := fun H Q s k =>
 ha H _ s fun v H1 s1 e1 => hb H1 _ (s.trans s1) fun u H2 s2 e2 => by
  refine ⟨_,_,frac_dp (Mono.up s2 e1),frac_dp e2,by rfl,by rfl,k _ H2 (s1.trans s2) ?_⟩
  show V.bl _ = V.bl _
  congr 1
  simp only [PyData.eqv,PyData.eqvAll,Bool.and_true]
  unfold Vbchal.same
  congr 1
  rw [Bool.eq_iff_iff,beq_iff_eq,beq_iff_eq]
  omega
theorem y_frac {i : Int} {x : Vbchal.Frac} {d : Int} (ha : Yd H0 ta σ (IntV x.num)) (hb : Yd H0 tb σ (IntV (x.den : Int))) : Yd H0 (tTup (tCons ta (tCons tb tNil))) σ (FrV x) := fun H Q s k =>
 ha H _ s fun v H1 s1 e1 => hb H1 _ (s.trans s1) fun u H2 s2 e2 => ⟨by show 2 <= sizeLine; decide,fun p hp => k _ _ (s1.trans (s2.trans (Same.upd hp))) ⟨p,rfl,by cases e1; cases e2; exact upd_same⟩⟩
theorem y_point {x y : Vbchal.Frac} (ha : Yd H0 ta σ (FrV x)) (hb : Yd H0 tb σ (FrV y)) : Yd H0 (tTup (tCons ta (tCons tb tNil))) σ (PtV ⟨x,y⟩) := fun H Q s k =>
 ha H _ s fun v H1 s1 e1 => hb H1 _ (s.trans s1) fun u H2 s2 e2 => ⟨by show 2 <= sizeLine; decide,fun p hp => k _ _ (s1.trans (s2.trans (Same.upd hp)))
  ⟨p,v,u,rfl,upd_same,FrA.up (s2.trans (Same.upd hp)) e1,FrA.up (Same.upd hp) e2⟩⟩
def ArL {β : Type} (F : β -> VP) (l : List β) : Hp -> List V -> Prop := fun H vs => All2 (fun u x => F x H u) vs l
theorem yl_nil {β : Type} {F : β -> VP} : YdA H0 tNil σ (ArL F []) := fun H Q s k => k [] H (Same.refl H) .nil
theorem yl_cons {β : Type} {F : β -> VP} [∀ x,Mono (F x)] {x : β} {l : List β} {tr : TA} (h : Yd H0 te σ (F x)) (hr : YdA H0 tr σ (ArL F l)) : YdA H0 (tCons te tr) σ (ArL F (x :: l)) := fun H Q s k =>
 h H _ s fun v H1 s1 hv => hr H1 _ (s.trans s1) fun vs H2 s2 hvs => k _ H2 (s1.trans s2) (.cons (Mono.up s2 hv) hvs)
theorem y_lst {β : Type} {F : β -> VP} [∀ x,Mono (F x)] {l : List β} {tA : TA} (hl : l.length <= 1000) (h : YdA H0 tA σ (ArL F l)) : Yd H0 (tLst tA) σ (AndV (LsV F l) (NewV H0)) := fun H Q s k =>
 h H _ s fun vs H1 s1 hv => ⟨by rw [hv.len]; exact Nat.le_of_lt (small1000 hl),fun p hp => k _ _ (s1.trans (Same.upd hp)) ⟨⟨p,vs,rfl,upd_same,all_up (Same.upd hp) hv⟩,⟨p,rfl,(s.trans s1).free hp⟩⟩⟩
theorem Yd.l (h : Yd H0 te σ (AndV P R)) : Yd H0 te σ P := h.imp fun _ _ q => q.1
theorem y_cat {β : Type} {F : β -> VP} [∀ x,Mono (F x)] {l m : List β} (hz : l.length + m.length <= sizeLine) (ha : Yd H0 ta σ (LsV F l)) (hb : Yd H0 tb σ (LsV F m)) : Yd H0 (tOp rCat ta tb) σ (AndV (LsV F (l ++ m)) (NewV H0)) := fun H Q s k =>
 ha H _ s fun v H1 s1 h1 => hb H1 _ (s.trans s1) fun u H2 s2 h2 => by
  obtain ⟨a,vs,rfl,ea,fa⟩ := (Mono.up s2 h1 : LsV F l H2 v)
  obtain ⟨b,us,rfl,eb,fb⟩ := h2
  refine ⟨a,b,vs,us,rfl,rfl,ea,eb,by rw [fa.len,fb.len]; exact hz,fun p hp => k _ _ (s1.trans (s2.trans (Same.upd hp))) ⟨⟨p,_,rfl,upd_same,?_⟩,⟨p,rfl,(s.trans (s1.trans s2)).free hp⟩⟩⟩
  exact (all_up (Same.upd hp) fa).append (all_up (Same.upd hp) fb)
theorem y_len {K : PySem.W.Frag} {β : Type} {F : β -> VP} {l : List β} (ha : Yd H0 ta σ (LsV F l)) : Yd H0 (tCB (fun xs H Q => ∃ p ys,xs = [.ref p] /\ (SqL K H p ys \/ SqT K H p ys) /\ Q (.int ys.length) H) (tCons ta tNil)) σ (IntV (l.length : Int)) := fun H Q s k =>
 ha H _ s fun v H1 s1 h1 => by
  obtain ⟨a,vs,rfl,ea,fa⟩ := h1
  exact ⟨a,vs,rfl,.inl (SqL.of ea),k _ H1 s1 (by rw [fa.len]; rfl)⟩
theorem y_sl {K : PySem.W.Frag} {β : Type} {F : β -> VP} [∀ x,Mono (F x)] {l : List β} {lo hi : Option Int} {tl th : TO} (ha : Yd H0 ta σ (LsV F l)) (h1 : ∀ (H : Hp) (Q : Option Int -> Hp -> Prop),Same H0 H -> (∀ H',Same H H' -> Q lo H') -> tl σ H Q)
  (h2 : ∀ (H : Hp) (Q : Option Int -> Hp -> Prop),Same H0 H -> (∀ H',Same H H' -> Q hi H') -> th σ H Q) :
  Yd H0 (tSl (rSlL K) ta tl th) σ (AndV (LsV F ((l.drop (HT.sIx l.length 0 lo)).take (HT.sIx l.length l.length hi - HT.sIx l.length 0 lo))) (NewV H0)) := fun H Q s k =>
 ha H _ s fun v Ha sa hv => h1 Ha _ (s.trans sa) fun Hb sb => h2 Hb _ (s.trans (sa.trans sb)) fun Hc sc => by
  obtain ⟨a,vs,rfl,ea,fa⟩ := (Mono.up (sb.trans sc) hv : LsV F l Hc v)
  refine ⟨a,vs,rfl,SqL.of ea,fun p hp => k _ _ (sa.trans (sb.trans (sc.trans (Same.upd hp)))) ⟨⟨p,_,rfl,upd_same,?_⟩,⟨p,rfl,(s.trans (sa.trans (sb.trans sc))).free hp⟩⟩⟩
  unfold cutV
  rw [fa.len]
  exact all_up (Same.upd hp) ((fa.drop _).take _)
theorem yo_none : ∀ (H : Hp) (Q : Option Int -> Hp -> Prop),Same H0 H -> (∀ H',Same H H' -> Q none H') -> tNoPart σ H Q := fun H Q _ k => k H (Same.refl H)
theorem yo_some {i : Int} (h : Yd H0 te σ (IntV i)) : ∀ (H : Hp) (Q : Option Int -> Hp -> Prop),Same H0 H -> (∀ H',Same H H' -> Q (some i) H') -> tPart te σ H Q := fun H Q s k => h H _ s fun v H' s' e => ⟨i,e,k H' s'⟩
variable {D : Ends} {t u : TS} {i : Nat}
theorem s_set (h : Yd H te σ P) (k : ∀ v H',Same H H' -> P H' v -> u D (σ.set i (some v)) H') : tSeq (tAsg te (gName i)) u D σ H := h H _ (Same.refl H) k
theorem s_set1 (h : Yd H te σ P) (k : ∀ v H',Same H H' -> P H' v -> D.nx (σ.set i (some v)) H') : tAsg te (gName i) D σ H := h H _ (Same.refl H) k
theorem s_ret (h : Yd H te σ P) (k : ∀ v H',Same H H' -> P H' v -> D.rt v H') : tRet te D σ H := h H _ (Same.refl H) k
theorem s_if {c : TT} {b : Bool} (h : YdT H c σ b) (k1 : b = true -> ∀ H',Same H H' -> t D σ H') (k2 : b = false -> ∀ H',Same H H' -> u D σ H') : tIfS c t u D σ H := h H _ (Same.refl H) fun H' s' => by
 cases b with
 | true => exact iteT (k1 rfl H' s')
 | false => exact iteF (k2 rfl H' s')
theorem s_ifq {c : TT} {b : Bool} {w : TS} (h : YdT H c σ b) (k1 : b = true -> ∀ H',Same H H' -> t { D with nx := w D } σ H') (k2 : b = false -> ∀ H',Same H H' -> u { D with nx := w D } σ H') : tSeq (tIfS c t u) w D σ H := s_if (D := { D with nx := w D }) h k1 k2
theorem s_while {c : TT} {tb : TS} (Pv : Nat -> L2.St -> Hp -> Prop) (m : Nat) (h0 : Pv m σ H)
  (hs : ∀ m σ H,Pv m σ H -> ∃ b,YdT H c σ b /\ ∀ H',Same H H' -> if b = true then tb { D with nx := fun σ' H'' => ∃ m',m' < m /\ Pv m' σ' H'',ct := fun σ' H'' => ∃ m',m' < m /\ Pv m' σ' H'',bk := D.nx } σ H' else D.nx σ H') : tWhile c tb D σ H := by
 refine ⟨Pv,⟨m,h0⟩,fun m σ H p => ?_⟩
 obtain ⟨b,hb,k⟩ := hs m σ H p
 refine hb H _ (Same.refl H) fun H' s' => ?_
 have k := k H' s'
 cases b with
 | true => exact iteT ⟨_,fun σ' H' q => q,by simpa using k⟩
 | false => exact iteF (by simpa using k)
end
end CH
namespace L2
open PySem PySem.Spec PyProof.Rows
theorem Same.mu {a : Addr} {H0 H : Hp} {o : HO} (s : Same H0 H) (n : H0 a = Option.none) : Same H0 (L2.upd H a o) := fun b o' e => by
 rw [upd_ne (ne_of_none e n)]; exact s b o' e
end L2
namespace CH
open PySem PySem.Spec PyProof.Rows L2
class TkV (P : VP) : Prop where
 tk : ∀ {H H' : Hp} {v : V},Tk H H' -> P H v -> P H' v
instance (u : V) : TkV (EqV u) := ⟨fun _ h => h⟩
instance (x : Vbchal.Frac) : TkV (FrV x) := ⟨fun s h => FrA.tk s h⟩
instance (x : Vbchal.Point) : TkV (PtV x) := ⟨fun s h => PtA.tk s h⟩
structure MuL (a : Addr) (H H' : Hp) : Prop where
 keep : ∀ b o,b ≠ a -> H b = some o -> H' b = some o
 lst : ∃ xs,H a = some (.lst xs)
theorem MuL.tk {a : Addr} {H H' : Hp} (m : MuL a H H') : Tk H H' := fun b xs h => m.keep b _ (fun e => by obtain ⟨ys,q⟩ := m.lst; rw [e,q] at h; cases h) h
theorem MuL.upd {a : Addr} {H : Hp} {xs ys : List V} (h : H a = some (.lst xs)) : MuL a H (upd H a (.lst ys)) := ⟨fun b o n e => by rw [upd_ne n]; exact e,⟨xs,h⟩⟩
theorem all_tk {β : Type} {F : β -> VP} [i : ∀ x,TkV (F x)] {H H' : Hp} {vs : List V} {l : List β} (s : Tk H H') (h : All2 (fun u x => F x H u) vs l) : All2 (fun u x => F x H' u) vs l := All2.imp (F := fun u x => F x H u) (G := fun u x => F x H' u) (fun u x q => (i x).tk s q) h
def OffV (a : Addr) (P : VP) : VP := fun H v => P H v /\ v ≠ .ref a
theorem RowV.mu {a : Addr} {H H' : Hp} {v : V} {l : List Vbchal.Point} (m : MuL a H H') (h : OffV a (RowV l) H v) : OffV a (RowV l) H' v := by
 obtain ⟨⟨b,vs,e,hb,h1⟩,n⟩ := h
 exact ⟨⟨b,vs,e,m.keep b _ (fun z => n (by rw [e,z])) hb,all_tk m.tk h1⟩,n⟩
def LevO (a : Addr) (ls : List (List Vbchal.Point)) : VP := OffV a (LsV (fun l => OffV a (RowV l)) ls)
theorem LevO.mu {a : Addr} {H H' : Hp} {v : V} {ls : List (List Vbchal.Point)} (m : MuL a H H') (h : LevO a ls H v) : LevO a ls H' v := by
 obtain ⟨⟨b,vs,e,hb,h1⟩,n⟩ := h
 exact ⟨⟨b,vs,e,m.keep b _ (fun z => n (by rw [e,z])) hb,h1.imp fun _ _ q => RowV.mu m q⟩,n⟩
theorem LevO.lev {a : Addr} {H : Hp} {v : V} {ls : List (List Vbchal.Point)} (h : LevO a ls H v) : LevV ls H v := by
 obtain ⟨⟨b,vs,e,hb,h1⟩,n⟩ := h
 exact ⟨b,vs,e,hb,h1.imp fun _ _ q => q.1⟩
theorem NewV.off {H H' : Hp} {v : V} {a : Addr} {o : HO} (h : NewV H H' v) (ha : H a = some o) : v ≠ .ref a := by
 obtain ⟨b,rfl,n⟩ := h
 intro e
 cases e
 rw [ha] at n
 cases n
instance {a : Addr} {P : VP} [Mono P] : Mono (OffV a P) := ⟨fun s h => ⟨Mono.up s h.1,h.2⟩⟩
section
variable {α β γ : Type} {H0 H : Hp} {σ : L2.St} {te ta tb : TE} {K : PySem.W.Frag}
structure ItOk (J : It) (H1 : Hp) (l : List α) (E : α -> VP) : Prop where
 go : ∀ i H,i < l.length -> Same H1 H -> J.go i H
 yl : ∀ i H x H',i < l.length -> Same H1 H -> J.yld i H x H' -> Same H H' /\ ∃ y,l[i]? = some y /\ E y H' x
 st : ∀ H,Same H1 H -> J.stop l.length H
def YI (H0 : Hp) (wi : TI) (σ : L2.St) (l : List α) (E : α -> VP) : Prop := ∀ (H : Hp) (R : It -> Hp -> Prop),Same H0 H -> (∀ J H',Same H H' -> ItOk J H' l E -> R J H') -> wi σ H R
theorem yi_list {F : α -> VP} [∀ x,Mono (F x)] {l : List α} (ha : Yd H0 ta σ (LsV F l)) : YI H0 (iList K ta) σ l F := fun H R s k =>
 ha H _ s fun v H1 s1 h1 => by
  obtain ⟨a,vs,rfl,ea,fa⟩ := id h1
  refine ⟨a,rfl,⟨vs,SqL.of ea⟩,k _ H1 s1 ⟨fun i H hi s => ?_,fun i H x H' hi s hy => ?_,fun H s => ?_⟩⟩
  ·have hv : i < vs.length := by rw [fa.len]; exact hi
   exact ⟨vs,vs[i],SqL.of (s _ _ ea),List.getElem?_eq_getElem hv⟩
  ·obtain ⟨e,hy⟩ := hy
   subst e
   have q := hy vs (SqL.of (s _ _ ea))
   obtain ⟨b,hb,fb⟩ := fa.got q
   exact ⟨Same.refl _,b,hb,Mono.up s fb⟩
  ·exact ⟨vs,SqL.of (s _ _ ea),by rw [fa.len]; exact Nat.le_refl _⟩
def PairV (P R : VP) : VP := fun H v => ∃ T u w,v = .ref T /\ H T = some (.tup [u,w]) /\ P H u /\ R H w
theorem yi_zip {F : α -> VP} {G : β -> VP} [∀ x,Mono (F x)] [∀ x,Mono (G x)] {l : List α} {m : List β} (ha : Yd H0 ta σ (LsV F l)) (hb : Yd H0 tb σ (LsV G m)) :
  YI H0 (iZip K (tCons ta (tCons tb tNil))) σ (l.zip m) (fun y => PairV (F y.1) (G y.2)) := fun H R s k =>
 ha H _ s fun v H1 s1 h1 => hb H1 _ (s.trans s1) fun v2 H2 s2 h2 => by
  obtain ⟨a,vs,rfl,ea,fa⟩ := (Mono.up s2 h1 : LsV F l H2 v)
  obtain ⟨b,us,rfl,eb,fb⟩ := id h2
  have hl : (l.zip m).length = min vs.length us.length := by rw [List.length_zip,fa.len,fb.len]
  refine ⟨a,b,vs,us,rfl,SqL.of ea,SqL.of eb,k _ H2 (s1.trans s2) ⟨fun i H hi s => ?_,fun i H x H' hi s hy => ?_,fun H s => ?_⟩⟩
  ·have hv : i < vs.length := by omega
   have hu : i < us.length := by omega
   exact ⟨vs,us,vs[i],us[i],SqL.of (s _ _ ea),SqL.of (s _ _ eb),List.getElem?_eq_getElem hv,List.getElem?_eq_getElem hu⟩
  ·obtain ⟨T,x1,y1,e1,e2,e3,q1,q2⟩ := hy
   subst e3
   have s3 : Same H (upd H T (.tup [x1,y1])) := Same.upd e2
   obtain ⟨p,hp,fp⟩ := fa.got (q1 vs (SqL.of (s _ _ ea)))
   obtain ⟨r,hr,fr⟩ := fb.got (q2 us (SqL.of (s _ _ eb)))
   refine ⟨s3,(p,r),List.getElem?_zip_eq_some.mpr ⟨hp,hr⟩,T,x1,y1,e1,upd_same,Mono.up (s.trans s3) fp,Mono.up (s.trans s3) fr⟩
  ·exact ⟨vs,us,SqL.of (s _ _ ea),SqL.of (s _ _ eb),by omega⟩
theorem yi_range {n : Nat} (hn : n < 2 ^ 62) (ha : Yd H0 ta σ (IntV (n : Int))) : YI H0 (iRng1 (tCons ta tNil)) σ (List.range n) (fun i => IntV (i : Int)) := fun H R s k =>
 ha H _ s fun v H1 s1 h1 => by
  cases h1
  refine ⟨(n : Int),rfl,by omega,by omega,k _ H1 s1 ⟨fun i H hi s => ?_,fun i H x H' hi s hy => ?_,fun H s => ?_⟩⟩
  ·rw [List.length_range] at hi
   show i < (n : Int).toNat
   omega
  ·rw [List.length_range] at hi
   obtain ⟨e,e2⟩ := hy
   subst e e2
   exact ⟨Same.refl _,i,List.getElem?_range hi,by show V.int _ = V.int _; congr 1; omega⟩
  ·show (n : Int).toNat <= _
   rw [List.length_range]; omega
theorem yi_str {x : Str} (ha : Yd H0 ta σ (EqV (.str x))) : YI H0 (iStr ta) σ x.cps.toList (fun c => EqV (.str ⟨#[c]⟩)) := fun H R s k =>
 ha H _ s fun v H1 s1 h1 => by
  cases h1
  refine ⟨x,rfl,k _ H1 s1 ⟨fun i H hi s => ?_,fun i H v H' hi s hy => ?_,fun H s => ?_⟩⟩
  ·exact (by simpa using hi : i < x.cps.size)
  ·obtain ⟨e,c,hc,e2⟩ := hy
   subst e
   exact ⟨Same.refl _,c,by rw [Array.getElem?_toList]; exact hc,e2⟩
  ·show x.cps.size <= _
   simp
theorem g_name {i : Nat} {v : V} : ∀ Q : L2.St -> Hp -> Prop,Q (σ.set i (some v)) H -> gName i v σ H Q := fun _ q => q
theorem g_pair {i j : Nat} {a : Addr} {u w : V} (h : H a = some (.tup [u,w])) : ∀ Q : L2.St -> Hp -> Prop,Q ((σ.set i (some u)).set j (some w)) H -> gTup K 2 (gCons (gName i) (gCons (gName j) gNil)) (.ref a) σ H Q := fun _ q =>
 ⟨a,_,rfl,SqT.of h,rfl,u,[w],rfl,w,[],rfl,rfl,q⟩
theorem filter_take {p : α -> Bool} : ∀ {l : List α} {i : Nat} {y : α},l[i]? = some y -> (l.take (i + 1)).filter p = (l.take i).filter p ++ (if p y = true then [y] else []) := by
 intro l i y h
 rw [List.take_succ,h,List.filter_append]
 congr 1
 simp [List.filter_cons]
theorem y_lcG {F : β -> VP} {E : α -> VP} {l : List α} {f : α -> β} {p : α -> Bool} {wi : TI} {g : TG} {tt : TT} {vs : List Nat} (G : Addr -> β -> VP) (Pf : Hp -> β -> VP)
  (hm : ∀ a x H H' v,MuL a H H' -> G a x H v -> G a x H' v) (hu : ∀ a x H H' v,Same H H' -> G a x H v -> G a x H' v) (hF : ∀ a x H v,G a x H v -> F x H v) (hG : ∀ a x H H' v,(∃ xs,H a = some (.lst xs)) -> Same H H' -> Pf H x H' v -> G a x H' v)
  (hz : l.length <= sizeLine) (hi : YI H0 wi σ l E)
  (turn : ∀ y x H,y ∈ l -> Same H0 H -> E y H x -> ∃ σ2,(∀ Q : L2.St -> Hp -> Prop,Q σ2 H -> g x (wipe σ vs) H Q) /\ wipe σ2 vs = wipe σ vs /\ YdT H tt σ2 (p y) /\ (p y = true -> Yd H te σ2 (Pf H (f y)))) :
  Yd H0 (tLc wi g tt te vs) σ (AndV (LsV F ((l.filter p).map f)) (NewV H0)) := fun H Q s k =>
 hi H _ s fun J H1 s1 ok D hD => by
  refine ⟨fun i m H' => m = l.length - i /\ i <= l.length /\ Same H1 H' /\ ∃ acc,H' D = some (.lst acc) /\ All2 (fun u x => G D x H' u) acc (((l.take i).filter p).map f),⟨l.length,by simp,Nat.zero_le _,Same.upd hD,[],upd_same,by simpa using All2.nil⟩,?_⟩
  rintro i m H' ⟨rfl,hil,s2,acc,eD,fa⟩
  by_cases hlt : i < l.length
  ·refine .inr ⟨ok.go i H' hlt s2,fun H'' => i + 1 <= l.length /\ Same H1 H'' /\ ∃ acc,H'' D = some (.lst acc) /\ All2 (fun u x => G D x H'' u) acc (((l.take (i + 1)).filter p).map f),fun H'' q => ⟨l.length - (i + 1),by omega,rfl,q⟩,fun x H3 hy => ?_⟩
   obtain ⟨s3,y,ey,hE⟩ := ok.yl i H' x H3 hlt s2 hy
   obtain ⟨σ2,h1,h2,h3,h4⟩ := turn y x H3 (List.mem_of_getElem? ey) (s.trans (s1.trans (s2.trans s3))) hE
   refine h1 _ ⟨h2,h3 H3 _ (Same.refl _) fun H4 s4 => ?_⟩
   have ft := filter_take (p := p) ey
   cases ep : p y with
   | false =>
    refine iteF ⟨hlt,s2.trans (s3.trans s4),acc,s4 _ _ (s3 _ _ eD),?_⟩
    rw [ft,ep]
    simpa using fa.imp fun u x q => hu D x H' H4 u (s3.trans s4) q
   | true =>
    refine iteT (h4 ep H4 _ s4 fun v H5 s5 hP => ?_)
    have e5 : H5 D = some (.lst acc) := s5 _ _ (s4 _ _ (s3 _ _ eD))
    have hlen : acc.length < sizeLine := by
     rw [fa.len,List.length_map]
     have := List.length_filter_le p (l.take i)
     rw [List.length_take] at this
     omega
    refine ⟨acc,e5,hlen,hlt,(s2.trans (s3.trans (s4.trans s5))).mu hD,_,upd_same,?_⟩
    rw [ft,ep,if_pos rfl,List.map_append]
    have mu : MuL D H5 (upd H5 D (.lst (acc ++ [v]))) := MuL.upd e5
    refine (fa.imp fun u x q => hm D x _ _ u mu (hu D x H' H5 u (s3.trans (s4.trans s5)) q)).append (.one ?_)
    exact hm D _ _ _ v mu (hG D _ H3 H5 v ⟨acc,s3 _ _ eD⟩ (s4.trans s5) hP)
  ·have e : i = l.length := by omega
   subst e
   refine .inl ⟨ok.st H' s2,k _ H' (s1.trans s2) ⟨⟨D,acc,rfl,eD,?_⟩,⟨D,rfl,(s.trans s1).free hD⟩⟩⟩
   rw [List.take_length] at fa
   exact fa.imp fun u x q => hF D x H' u q
theorem y_lc {F : β -> VP} [∀ x,Mono (F x)] [∀ x,TkV (F x)] {E : α -> VP} {l : List α} {f : α -> β} {p : α -> Bool} {wi : TI} {g : TG} {tt : TT} {vs : List Nat} (hz : l.length <= sizeLine) (hi : YI H0 wi σ l E)
  (turn : ∀ y x H,y ∈ l -> Same H0 H -> E y H x -> ∃ σ2,(∀ Q : L2.St -> Hp -> Prop,Q σ2 H -> g x (wipe σ vs) H Q) /\ wipe σ2 vs = wipe σ vs /\ YdT H tt σ2 (p y) /\ (p y = true -> Yd H te σ2 (F (f y)))) :
  Yd H0 (tLc wi g tt te vs) σ (AndV (LsV F ((l.filter p).map f)) (NewV H0)) :=
 y_lcG (fun _ => F) (fun _ => F) (fun _ _ _ _ _ m q => TkV.tk m.tk q) (fun _ _ _ _ _ s q => Mono.up s q) (fun _ _ _ _ q => q) (fun _ _ _ _ _ _ _ q => q) hz hi turn
theorem filter_yes : ∀ (l : List α),l.filter (fun _ => true) = l := fun l => by simp
theorem y_lcm {F : β -> VP} [∀ x,Mono (F x)] [∀ x,TkV (F x)] {E : α -> VP} {l : List α} {f : α -> β} {wi : TI} {g : TG} {vs : List Nat} (hz : l.length <= sizeLine) (hi : YI H0 wi σ l E)
  (turn : ∀ y x H,y ∈ l -> Same H0 H -> E y H x -> ∃ σ2,(∀ Q : L2.St -> Hp -> Prop,Q σ2 H -> g x (wipe σ vs) H Q) /\ wipe σ2 vs = wipe σ vs /\ Yd H te σ2 (F (f y))) :
  Yd H0 (tLc wi g tYes te vs) σ (AndV (LsV F (l.map f)) (NewV H0)) := by
 have := y_lc (F := F) (f := f) (p := fun _ => true) hz hi (te := te) (tt := tYes) fun y x H hy s hE => by
  obtain ⟨σ2,a,b,c⟩ := turn y x H hy s hE
  exact ⟨σ2,a,b,yt_yes,fun _ => c⟩
 rw [filter_yes] at this
 exact this
theorem s_for {E : α -> VP} {l : List α} {wi : TI} {g : TG} {tb : TS} {D : Ends} (hi : YI H wi σ l E) (Pv : Nat -> L2.St -> Hp -> Prop) (h0 : ∀ H1,Same H H1 -> Pv 0 σ H1)
  (hs : ∀ i x y σ' H' H'',l[i]? = some y -> Same H H' -> Same H' H'' -> Pv i σ' H' -> E y H'' x -> g x σ' H'' fun σ2 H2 => tb { D with nx := fun σ3 H3 => Same H' H3 /\ Pv (i + 1) σ3 H3,ct := fun σ3 H3 => Same H' H3 /\ Pv (i + 1) σ3 H3,bk := D.nx } σ2 H2)
  (hd : ∀ σ' H',Same H H' -> Pv l.length σ' H' -> D.nx σ' H') : tFor wi g tb D σ H :=
 hi H _ (Same.refl H) fun J H1 s1 ok => by
  refine ⟨fun i m σ' H' => m = l.length - i /\ i <= l.length /\ Same H1 H' /\ Pv i σ' H',⟨l.length,by simp,Nat.zero_le _,Same.refl _,h0 H1 s1⟩,?_⟩
  rintro i m σ' H' ⟨rfl,hil,s2,p⟩
  by_cases hlt : i < l.length
  ·refine .inr ⟨ok.go i H' hlt s2,fun σ3 H3 => Same H' H3 /\ Pv (i + 1) σ3 H3,fun σ3 H3 q => ⟨l.length - (i + 1),by omega,rfl,by omega,s2.trans q.1,q.2⟩,fun x H3 hy => ?_⟩
   obtain ⟨s3,y,ey,hE⟩ := ok.yl i H' x H3 hlt s2 hy
   exact hs i x y σ' H' H3 ey (s1.trans s2) s3 p hE
  ·have e : i = l.length := by omega
   subst e
   exact .inl ⟨ok.st H' s2,hd σ' H' (s1.trans s2) p⟩
end
end CH
namespace CH
open PySem PySem.Spec PyProof.Rows L2
theorem at_ofG {α : Type} {xs : List α} {z : Int} {j : Nat} {v : α} (e : z = (j : Int)) (h : xs[j]? = some v) : atI xs z = some v := by
 rw [e]
 exact atI_nat h
section
variable {H0 H : Hp} {σ : L2.St} {te ta tb : TE} {K : PySem.W.Frag} {P : VP} {D : Ends} {u : TS} {i j : Nat} {a : Addr} {vs : List V}
theorem s_append1 (e : σ[i]? = some (some (.ref a))) (ha : H a = some (.lst vs)) (hz : vs.length < sizeLine) (h : Yd H te σ P) (k : ∀ v H',Same H H' -> P H' v -> D.nx σ (upd H' a (.lst (vs ++ [v])))) :
  tDrop (tBM K "list" rAppend (tVar i) (tCons te tNil)) D σ H :=
 ⟨_,e,.inl ⟨rfl,vs,SqL.of ha⟩,h H _ (Same.refl H) fun v H' s' hv => ⟨a,vs,v,rfl,rfl,s' _ _ ha,hz,k v H' s' hv⟩⟩
theorem s_append (e : σ[i]? = some (some (.ref a))) (ha : H a = some (.lst vs)) (hz : vs.length < sizeLine) (h : Yd H te σ P) (k : ∀ v H',Same H H' -> P H' v -> u D σ (upd H' a (.lst (vs ++ [v])))) :
  tSeq (tDrop (tBM K "list" rAppend (tVar i) (tCons te tNil))) u D σ H := s_append1 (D := { D with nx := u D }) e ha hz h k
theorem s_pop1 (e : σ[i]? = some (some (.ref a))) (ha : H a = some (.lst vs)) (hn : vs ≠ []) (k : D.nx σ (upd H a (.lst vs.dropLast))) : tDrop (tBM0 K "list" rPop (tVar i)) D σ H := by
 have hl : vs.length - 1 < vs.length := by
  cases vs with
  | nil => exact absurd rfl hn
  | cons _ _ => simp
 exact ⟨_,e,.inl ⟨rfl,vs,SqL.of ha⟩,a,vs,vs[vs.length - 1],rfl,rfl,ha,List.getElem?_eq_getElem hl,k⟩
theorem s_aug1 {x y : Int} {f : Int -> Int -> Int} (e : σ[i]? = some (some (.int x))) (h : Yd H te σ (IntV y)) (k : ∀ H',Same H H' -> D.nx (σ.set i (some (.int (f x y)))) H') : tAug i te (ipI f) D σ H :=
 ⟨_,e,h H _ (Same.refl H) fun v H' s' hv => ⟨x,y,rfl,hv,k H' s'⟩⟩
theorem s_ifn {c : TT} {b : Bool} {t w : TS} (h : YdT H c σ b) (k1 : b = true -> ∀ H',Same H H' -> t { D with nx := w D } σ H') (k2 : b = false -> ∀ H',Same H H' -> w D σ H') : tSeq (tIfS c t tNext) w D σ H := s_ifq h k1 k2
theorem s_forM {tb : TS} (h : Yd H te σ P) (k : ∀ v H1,Same H H1 -> P H1 v -> ∃ al xs,v = .ref al /\ H1 al = some (.lst xs) /\ ∃ Pv : Nat -> L2.St -> Hp -> Prop,Pv 0 σ H1 /\ (∀ i σ H,i <= xs.length -> Pv i σ H -> H al = some (.lst xs)) /\
   (∀ i x σ H,xs[i]? = some x -> Pv i σ H -> tb { D with nx := Pv (i + 1),ct := Pv (i + 1),bk := D.nx } (σ.set j (some x)) H) /\ (∀ σ H,Pv xs.length σ H -> D.nx σ H)) : tFor (iList K te) (gName j) tb D σ H :=
 h H _ (Same.refl H) fun v H1 s1 hv => by
  obtain ⟨al,xs,e,ha,Pv,h0,hl,hs,hd⟩ := k v H1 s1 hv
  exact ⟨al,e,⟨xs,SqL.of ha⟩,for_list Pv h0 (fun i σ H hi p => SqL.of (hl i σ H hi p)) hs hd⟩
end
end CH
namespace L2
open PySem PySem.Spec PyProof.Rows
def rInsert : V -> List V -> Hp -> VK -> Prop := fun x vs H Q => ∃ l xs y,x = .ref l /\ vs = [.int 0,y] /\ H l = some (.lst xs) /\ xs.length < sizeLine /\ Q .non (upd H l (.lst (y :: xs)))
theorem mt_insert {X : Cx} : MtM X "list.insert" rInsert := by
 intro pins s σ H x vs v us Q I rx rv h
 obtain ⟨l,xs,y,rfl,rfl,hH,hz,q⟩ := h
 cases rx
 cases rv with
 | cons r0 rr =>
  cases rr with
  | cons ru rr =>
   cases rr
   obtain ⟨t,rfl⟩ := r0
   rename_i u
   obtain ⟨z,its,n,r,hl,e⟩ := I.lstM hH
   refine call_meets F.slot_list_insert ⟨_,e,rfl⟩ F.entry_list_insert (F.args_list_insert_3 _ _ _) (PySem.AutoSeq1.list_insert_list_int_val_1 l its.toArray n 0 t u (by decide) (by rw [List.size_toArray]; omega)) ⟨e,?_⟩
   refine ⟨.non,_,I.lset (its' := u :: its) hH e (by simp) (.cons ru r) ?_,rfl,q⟩
   rw [List.length_cons]
   omega
def tCallX (X : Cx) (tf : TE) (t : TA) : TE := fun σ H Q => tf σ H fun x H1 => ∃ f fd ps sp k,x = .ref f /\ FnOk X.prog X.w X.K X.mg X.base CX0 k f fd ps sp /\ Room k X.A /\ PySem.W.keepIn X.K (.ref f) = true /\ Binds X.K fd ps [] /\ t σ H1 fun vs H2 => sp (vs ++ []) H2 Q E0
theorem pe_callX {X : Cx} {o i e : Expr} {es : List Expr} {spos pos : Pos} {tf : TE} {t : TA} (hf : PE X (.Subscript o i spos) tf) (ha : PA X (e :: es) t) (hx : Passes CX0 X E0)
  (he : starEach (e :: es) X.env = (false,eval e X.env) :: starEach es X.env := by rfl) (hpl : (backTo pos (starEach es X.env)).any (·.1) = false := by rfl) :
  PE X (.Call (.Subscript o i spos) (e :: es) [] pos) (tCallX X tf t) := by
 intro pins s σ H Q I h
 show wpAny _ _ (do callWith pos (<- eval (.Subscript o i spos) X.env) [] (backTo pos (starEach (e :: es) X.env)) (backToKw pos (keywordEach [] X.env))) _ _ s
 refine wpAny_bind (thn (hf pins s σ H _ I h) fun u s1 ⟨x,H1,I1,rx,f,fd,ps,sp,k,ex,F,hr,hk,hb,q⟩ => ?_)
 subst ex
 obtain rfl : u = Value.ref f := rx
 refine PySem.W.callWith_K (h₀ := X.base) I.ok.mod.kin hk (thn (ha pos pins s1 σ H1 _ I1 q) fun us s2 ⟨vs,H2,I2,r,q2⟩ => ⟨I2.kIn,?_⟩) he hpl
 exact run_fn F hr hb .nil hx I2 r q2
end L2
namespace CH
open PySem PySem.Spec PyProof.Rows L2
section
variable {H0 H : Hp} {σ : L2.St} {te ta tb : TE} {K : PySem.W.Frag} {P : VP} {D : Ends} {u : TS} {i j : Nat} {a : Addr} {vs : List V}
theorem s_insert1 (e : σ[i]? = some (some (.ref a))) (ha : H a = some (.lst vs)) (hz : vs.length < sizeLine) (h : Yd H te σ P) (k : ∀ v H',Same H H' -> P H' v -> D.nx σ (upd H' a (.lst (v :: vs)))) :
  tDrop (tBM K "list" rInsert (tVar i) (tCons (tC (.int 0)) (tCons te tNil))) D σ H :=
 ⟨_,e,.inl ⟨rfl,vs,SqL.of ha⟩,h H _ (Same.refl H) fun v H' s' hv => ⟨a,vs,v,rfl,rfl,s' _ _ ha,hz,k v H' s' hv⟩⟩
theorem s_forR {n : Nat} {tb : TS} (h : Yd H te σ (IntV (n : Int))) (hn : n < 2 ^ 62) (Pv : Nat -> L2.St -> Hp -> Prop) (h0 : ∀ H',Same H H' -> Pv 0 σ H')
  (hs : ∀ i σ H,i < n -> Pv i σ H -> tb { D with nx := Pv (i + 1),ct := Pv (i + 1),bk := D.nx } (σ.set j (some (.int (i : Int)))) H) (hd : ∀ σ H,Pv n σ H -> D.nx σ H) : tFor (iRng1 (tCons te tNil)) (gName j) tb D σ H :=
 h H _ (Same.refl H) fun v H1 s1 hv => by
  cases hv
  refine ⟨(n : Int),rfl,by omega,by omega,?_⟩
  rw [Int.toNat_natCast]
  refine for_range Pv (h0 H1 s1) (fun i σ H hi p => ?_) hd
  rw [Int.zero_add]
  exact hs i σ H hi p
theorem s_forD {n : Nat} {tb : TS} (h : Yd H te σ (IntV ((n : Int) - 1))) (hn : n <= 1000) (Pv : Nat -> L2.St -> Hp -> Prop) (h0 : ∀ H',Same H H' -> Pv 0 σ H')
  (hs : ∀ i σ H,i < n -> Pv i σ H -> tb { D with nx := Pv (i + 1),ct := Pv (i + 1),bk := D.nx } (σ.set j (some (.int ((n - 1 - i : Nat) : Int)))) H) (hd : ∀ σ H,Pv n σ H -> D.nx σ H) :
  tFor (iRng3 (tCons te (tCons (tUn (rU fun i => .int (-i)) (tC (.int 1))) (tCons (tUn (rU fun i => .int (-i)) (tC (.int 1))) tNil)))) (gName j) tb D σ H :=
 h H _ (Same.refl H) fun v H1 s1 hv => by
  cases hv
  refine ⟨1,rfl,1,rfl,(n : Int) - 1,-1,-1,n,rfl,?_,for_rangeC Pv (h0 H1 s1) (fun i σ H hi p => ?_) hd⟩
  ·have e : ((n : Int) - 1 - -1).toNat = n := by omega
   have := RgC.neg (i := (n : Int) - 1) (j := -1) (by omega) (by omega) (by omega) (by omega)
   rw [e] at this
   exact this
  ·have e : (n : Int) - 1 + (i : Nat) * (-1) = ((n - 1 - i : Nat) : Int) := by omega
   rw [e]
   exact hs i σ H hi p
theorem y_inRows {v : V} {lv : List (List Vbchal.Point)} (e : σ[i]? = some (some v)) (h : LevV lv H0 v) : Yd H0 (tOp (rInRows K) (tLst tNil) (tVar i)) σ (BlV (lv.any List.isEmpty)) := fun H Q s k => by
 refine ⟨Nat.zero_le _,fun p hp => ⟨v,e,?_⟩⟩
 obtain ⟨a,vs,rfl,ea,fa⟩ := (Mono.up s h : LevV lv H v)
 have sp : Same H (L2.upd H p (.lst [])) := Same.upd hp
 have go : ∀ {vs : List V} {lv : List (List Vbchal.Point)},All2 (fun u x => RowV x H u) vs lv -> ∃ as : List Addr,vs = as.map V.ref /\ Paired (fun a b => ∃ xs,(L2.upd H p (.lst [])) a = some (.lst xs) /\ b = xs.isEmpty /\ a ≠ p) as (lv.map List.isEmpty) := by
  intro vs lv h
  induction h with
  | nil => exact ⟨[],rfl,.nil⟩
  | cons h1 h2 ih =>
   obtain ⟨as,e1,p1⟩ := ih
   obtain ⟨b,ws,rfl,eb,fb⟩ := h1
   refine ⟨b :: as,by rw [e1]; rfl,.cons ⟨ws,sp _ _ eb,?_,ne_of_none eb hp⟩ p1⟩
   have := fb.len
   cases ws with
   | nil => cases fb; rfl
   | cons _ _ => cases fb; rfl
 obtain ⟨as,e1,p1⟩ := go fa
 subst e1
 refine ⟨p,a,as,lv.map List.isEmpty,rfl,rfl,upd_same,sp _ _ ea,p1,k _ _ sp ?_⟩
 show V.bl _ = V.bl _
 congr 1
 rw [List.any_map]
 rfl
end
end CH
namespace CH
open PySem PySem.Spec PyProof.Rows L2
section
variable {H0 H : Hp} {σ : L2.St} {te ta tb : TE} {K : PySem.W.Frag} {P : VP} {D : Ends} {u : TS} {i j j2 : Nat} {a : Addr} {vs : List V}
theorem s_forE {tb : TS} (h : Yd H te σ P) (k : ∀ v H1,Same H H1 -> P H1 v -> ∃ al xs,v = .ref al /\ H1 al = some (.lst xs) /\ ∃ Pv : Nat -> L2.St -> Hp -> Prop,Pv 0 σ H1 /\ (∀ i σ H,i <= xs.length -> Pv i σ H -> H al = some (.lst xs)) /\
   (∀ i x σ H H',xs[i]? = some x -> Pv i σ H -> Same H H' -> tb { D with nx := Pv (i + 1),ct := Pv (i + 1),bk := D.nx } ((σ.set j (some (.int (i : Int)))).set j2 (some x)) H') /\ (∀ σ H,Pv xs.length σ H -> D.nx σ H)) :
  tFor (iEnum K (tCons te tNil)) (gTup K 2 (gCons (gName j) (gCons (gName j2) gNil))) tb D σ H :=
 h H _ (Same.refl H) fun v H1 s1 hv => by
  obtain ⟨al,xs,rfl,ha,Pv,h0,hl,hs,hd⟩ := k v H1 s1 hv
  refine ⟨al,xs,rfl,SqL.of ha,fun i m σ H => m = xs.length - i /\ i <= xs.length /\ Pv i σ H,⟨xs.length,by simp,Nat.zero_le _,h0⟩,?_⟩
  rintro i m σ H ⟨rfl,hi,p⟩
  have q := hl i σ H hi p
  by_cases hlt : i < xs.length
  ·refine .inr ⟨⟨xs,xs[i],SqL.of q,by simp [hlt]⟩,Pv (i + 1),fun σ' H' p' => ⟨xs.length - (i + 1),by omega,rfl,hlt,p'⟩,fun x H' y => ?_⟩
   obtain ⟨T,z,e1,e2,e3,q1⟩ := y
   subst e1 e3
   exact g_pair upd_same _ (hs i z σ H _ (q1 xs (SqL.of q)) p (Same.upd e2))
  ·have e : i = xs.length := by omega
   subst e
   exact .inl ⟨⟨xs,SqL.of q,Nat.le_refl _⟩,hd σ H p⟩
end
end CH
namespace CH
open PySem PySem.Spec PyProof.Rows L2
open Vbchal (Frac Point lowest whole)
variable {P : Program} {w : World} {K : PySem.W.Frag} {mg : Str -> Option Value} {base : Heap} {A : Adr}
def Bg (x : Frac) : Prop := x.num.natAbs <= 2 ^ 60000 /\ x.den <= 2 ^ 60000
theorem Bg.c1 {x y : Frac} (h : Bg x) (h' : Bg y) : CMulB x.num (y.den : Int) := ⟨h.1,by simpa using h'.2⟩
theorem Bg.c2 {x y : Frac} (h : Bg x) (h' : Bg y) : CMulB (x.den : Int) (y.den : Int) := ⟨by simpa using h.2,by simpa using h'.2⟩
theorem Bg.c3 {x y : Frac} (h : Bg x) (h' : Bg y) : CMulB x.num y.num := ⟨h.1,h'.1⟩
theorem Bg.c4 {x y : Frac} (h : Bg x) (h' : Bg y) : CMulB (x.den : Int) y.num := ⟨by simpa using h.2,h'.1⟩
section
variable {H0 : Hp} {σ : L2.St} {ta tb : TE} {E : XK}
theorem y_abs {i : Int} (ha : Yd H0 ta σ (IntV i)) : Yd H0 (tCB (fun xs H Q => ∃ i,xs = [.int i] /\ Q (.int (if i < 0 then -i else i)) H) (tCons ta tNil)) σ (IntV (i.natAbs : Int)) := fun H Q s k =>
 ha H _ s fun v H1 s1 e1 => by
  cases e1
  exact ⟨i,rfl,k _ H1 s1 (by show V.int _ = V.int _; congr 1; split <;> omega)⟩
end
def sp_common_divisor : Sp := spA (ι := Nat × Nat) (fun i => [IntV (i.1 : Int),IntV (i.2 : Int)]) (fun _ => True) (fun i => IntV (Nat.gcd i.1 i.2 : Int))
theorem ok_common_divisor (T : Txt K mg A) : FnOk P w K mg base CX0 1 A.f_common_divisor A.d_common_divisor p_common_divisor (sp_common_divisor) := by
 refine T.F_common_divisor.ok sc_common_divisor (spA_len fun _ => rfl) fun cdv Ao outer s H vs Q E hr hsp => ?_
 obtain ⟨⟨x,y⟩,⟨v1,_,rfl,h1,v2,_,rfl,h2,rfl⟩,_,q⟩ := hsp
 cases h1; cases h2
 refine ⟨_,(pss_cons (ps_while PassesOwn.never (pt_cmpR op_ne (pv 1) pe_int (nomark _)) (pss_cons (ps_set (i := 2) sc_common_divisor.nd rfl (Or.inl rfl) (pe_op op_mod (pv 0) (pv 1)))
   (pss_cons (ps_set (i := 0) sc_common_divisor.nd rfl (Or.inl rfl) (pv 1))
   (pss_one (ps_set (i := 1) sc_common_divisor.nd rfl (Or.inl rfl) (pv 2))))))
   (pss_one (ps_ret (pv 0)))),?_⟩
 refine s_while (fun m σ H' => ∃ (x' y' : Nat) (r : Option V),σ = [some (.int x'),some (.int y'),r] /\ Nat.gcd x' y' = Nat.gcd x y /\ m = y' /\ Same H H') y ⟨x,y,none,rfl,rfl,rfl,Same.refl H⟩ ?_
 rintro m σ H' ⟨x',y',r,rfl,eg,em,sH⟩
 refine ⟨_,yt_tst (y_ne rfl (y_var (P := IntV (y' : Int)) rfl rfl) y_c),fun H2 s2 => ?_⟩
 by_cases hy : y' = 0
 ·subst hy
  refine iteF' (by simp) ?_
  refine s_ret (P := IntV (x' : Int)) (y_var rfl rfl) fun v H3 s3 e => q v H3 (sH.trans (s2.trans s3)) ?_
  rw [Nat.gcd_zero_right] at eg
  rw [<- eg]; exact e
 ·refine iteT' (by simp; omega) ?_
  have hp : 0 < y' := by omega
  refine s_set (P := IntV ((x' % y' : Nat) : Int)) ((y_rI (y_var (P := IntV (x' : Int)) rfl rfl) (y_var (P := IntV (y' : Int)) rfl rfl) (by show (0 : Int) < (y' : Int); omega)).eq (by simp)) fun v H3 s3 e3 => ?_
  refine s_set (P := IntV (y' : Int)) (y_var rfl rfl) fun v4 H4 s4 e4 => ?_
  refine s_set1 (P := IntV ((x' % y' : Nat) : Int)) (y_var rfl e3) fun v5 H5 s5 e5 => ?_
  cases e3; cases e4; cases e5
  refine ⟨x' % y',by have := Nat.mod_lt x' hp; omega,y',x' % y',_,rfl,?_,rfl,sH.trans (s2.trans (s3.trans (s4.trans s5)))⟩
  rw [<- eg,Nat.gcd_comm x',Nat.gcd_rec y' x',Nat.gcd_comm]
section
variable {H0 : Hp} {σ : L2.St} {ta tb : TE} {E : XK}
theorem y_gcd {x y : Nat} (ha : Yd H0 ta σ (IntV (x : Int))) (hb : Yd H0 tb σ (IntV (y : Int))) : Yd H0 (tCall sp_common_divisor [] E (tCons ta (tCons tb tNil))) σ (IntV (Nat.gcd x y : Int)) := y_call (x,y) (ya_cons ha (ya_cons hb ya_nil)) trivial
end
def sp_ratio : Sp := spA (ι := Int × Nat) (fun i => [IntV i.1,IntV (i.2 : Int)]) (fun i => 0 < i.2 /\ i.2 < 2 ^ 9000) (fun i => FrV (lowest i.1 i.2))
theorem ok_ratio (T : Txt K mg A) : FnOk P w K mg base CX0 2 A.f_ratio A.d_ratio p_ratio (sp_ratio) := by
 refine T.F_ratio.ok sc_ratio (spA_len fun _ => rfl) fun cdv Ao outer s H vs Q E hr hsp => ?_
 obtain ⟨⟨t,b⟩,⟨v1,_,rfl,h1,v2,_,rfl,h2,rfl⟩,⟨hb,hz⟩,q⟩ := hsp
 cases h1; cases h2
 refine ⟨_,(pss_cons (ps_set (i := 2) sc_ratio.nd rfl (Or.inl rfl) (pe_call (ok_common_divisor T) (hr.mono (by decide)) rfl T.m_common_divisor T.F_common_divisor.kp T.b_common_divisor .nil pass0 (pa_cons (pe_callB call_abs (by rfl) T.n_abs boot_abs (pa_cons (pv 0) pa_nil)) (pa_cons (pv 1) pa_nil))))
   (pss_one (ps_ret (pe_tup (pa_cons (pe_op op_fdivB (pv 0) (pv 2)) (pa_cons (pe_op op_fdivB (pv 1) (pv 2)) pa_nil)))))),?_⟩
 have hg : 0 < Nat.gcd t.natAbs b := Nat.gcd_pos_of_pos_right _ hb
 have hc : (0 : Int) < (Nat.gcd t.natAbs b : Int) /\ (Nat.gcd t.natAbs b : Int).natAbs < 2 ^ 9000 := ⟨by omega,by
  rw [Int.natAbs_natCast]
  exact Nat.lt_of_le_of_lt (Nat.le_of_dvd hb (Nat.gcd_dvd_right _ _)) hz⟩
 refine s_set (y_gcd (y_abs (y_var (P := IntV t) rfl rfl)) (y_var (P := IntV (b : Int)) rfl rfl)) fun v H1 s1 e1 => ?_
 cases e1
 refine s_ret (y_frac (x := lowest t b) (i := 0) (d := 0) (y_rI (y_var (P := IntV t) rfl rfl) (y_var (P := IntV (Nat.gcd t.natAbs b : Int)) rfl rfl) hc) ((y_rI (y_var (P := IntV (b : Int)) rfl rfl) (y_var (P := IntV (Nat.gcd t.natAbs b : Int)) rfl rfl) hc).eq ?_)) fun v H2 s2 h => q v H2 (s1.trans s2) h
 show V.int _ = V.int ((b / Nat.gcd t.natAbs b : Nat) : Int)
 congr 1
section
variable {H0 : Hp} {σ : L2.St} {ta tb : TE} {E : XK}
theorem y_ratio {t : Int} {b : Nat} (ha : Yd H0 ta σ (IntV t)) (hb : Yd H0 tb σ (IntV (b : Int))) (h : 0 < b /\ b < 2 ^ 9000) : Yd H0 (tCall sp_ratio [] E (tCons ta (tCons tb tNil))) σ (FrV (lowest t b)) := y_call (t,b) (ya_cons ha (ya_cons hb ya_nil)) h
theorem lowest_one (t : Int) : lowest t 1 = whole t := by
 have : Nat.gcd t.natAbs 1 = 1 := Nat.gcd_one_right _
 show ({ num := t / ((Nat.gcd t.natAbs 1 : Nat) : Int),den := 1 / Nat.gcd t.natAbs 1 } : Frac) = { num := t,den := 1 }
 rw [this]; simp
theorem y_whole {t : Int} (ha : Yd H0 ta σ (IntV t)) : Yd H0 (tCall sp_ratio [] E (tCons ta (tCons (tC (.int 1)) tNil))) σ (FrV (whole t)) := by
 rw [<- lowest_one]
 exact y_ratio ha (y_c (v := .int 1)) ⟨by decide,Nat.one_lt_two_pow (by decide)⟩
end
structure Ok2 (x y : Frac) : Prop where
 wx : Wf x
 wy : Wf y
 bx : Bg x
 by_ : Bg y
 den : x.den * y.den < 2 ^ 9000
def sp_plus : Sp := spA (ι := Frac × Frac) (fun i => [FrV i.1,FrV i.2]) (fun i => Ok2 i.1 i.2) (fun i => FrV (Vbchal.add i.1 i.2))
theorem ok_plus (T : Txt K mg A) : FnOk P w K mg base CX0 3 A.f_plus A.d_plus p_plus (sp_plus) := by
 refine T.F_plus.ok sc_plus (spA_len fun _ => rfl) fun cdv Ao outer s H vs Q E hr hsp => ?_
 obtain ⟨⟨x,y⟩,⟨v1,_,rfl,h1,v2,_,rfl,h2,rfl⟩,⟨wx,wy,bx,by_,hd⟩,q⟩ := hsp
 refine ⟨_,(pss_one (ps_ret (pe_call (ok_ratio T) (hr.mono (by decide)) rfl T.m_ratio T.F_ratio.kp T.b_ratio .nil pass0 (pa_cons (pe_op op_add (pe_op op_mulB (pe_ix ix_tup (pv 0) pe_int (fun _ _ => rfl)) (pe_ix ix_tup (pv 1) pe_int (fun _ _ => rfl))) (pe_op op_mulB (pe_ix ix_tup (pv 1) pe_int (fun _ _ => rfl)) (pe_ix ix_tup (pv 0) pe_int (fun _ _ => rfl)))) (pa_cons (pe_op op_mulB (pe_ix ix_tup (pv 0) pe_int (fun _ _ => rfl)) (pe_ix ix_tup (pv 1) pe_int (fun _ _ => rfl))) pa_nil))))),?_⟩
 have X : Yd H (tVar 0) (start n_plus [v1,v2]) (FrV x) := y_var rfl h1
 have Y : Yd H (tVar 1) (start n_plus [v1,v2]) (FrV y) := y_var rfl h2
 exact s_ret (y_ratio (y_rI0 (y_rI (y_num X) (y_den Y) (bx.c1 by_)) (y_rI (y_num Y) (y_den X) (by_.c1 bx))) ((y_rI (y_den X) (y_den Y) (bx.c2 by_)).eq (by simp)) ⟨Nat.mul_pos wx.1 wy.1,hd⟩) q
def sp_minus : Sp := spA (ι := Frac × Frac) (fun i => [FrV i.1,FrV i.2]) (fun i => Ok2 i.1 i.2) (fun i => FrV (Vbchal.sub i.1 i.2))
theorem sub_def (x y : Frac) : Vbchal.sub x y = lowest (x.num * (y.den : Int) - y.num * (x.den : Int)) (x.den * y.den) := by
 show lowest (x.num * (y.den : Int) + -y.num * (x.den : Int)) (x.den * y.den) = _
 congr 1
 rw [Int.neg_mul]; rfl
theorem ok_minus (T : Txt K mg A) : FnOk P w K mg base CX0 3 A.f_minus A.d_minus p_minus (sp_minus) := by
 refine T.F_minus.ok sc_minus (spA_len fun _ => rfl) fun cdv Ao outer s H vs Q E hr hsp => ?_
 obtain ⟨⟨x,y⟩,⟨v1,_,rfl,h1,v2,_,rfl,h2,rfl⟩,⟨wx,wy,bx,by_,hd⟩,q⟩ := hsp
 refine ⟨_,(pss_one (ps_ret (pe_call (ok_ratio T) (hr.mono (by decide)) rfl T.m_ratio T.F_ratio.kp T.b_ratio .nil pass0 (pa_cons (pe_op op_sub (pe_op op_mulB (pe_ix ix_tup (pv 0) pe_int (fun _ _ => rfl)) (pe_ix ix_tup (pv 1) pe_int (fun _ _ => rfl))) (pe_op op_mulB (pe_ix ix_tup (pv 1) pe_int (fun _ _ => rfl)) (pe_ix ix_tup (pv 0) pe_int (fun _ _ => rfl)))) (pa_cons (pe_op op_mulB (pe_ix ix_tup (pv 0) pe_int (fun _ _ => rfl)) (pe_ix ix_tup (pv 1) pe_int (fun _ _ => rfl))) pa_nil))))),?_⟩
 have X : Yd H (tVar 0) (start n_minus [v1,v2]) (FrV x) := y_var rfl h1
 have Y : Yd H (tVar 1) (start n_minus [v1,v2]) (FrV y) := y_var rfl h2
 refine s_ret (y_ratio (y_rI0 (y_rI (y_num X) (y_den Y) (bx.c1 by_)) (y_rI (y_num Y) (y_den X) (by_.c1 bx))) ((y_rI (y_den X) (y_den Y) (bx.c2 by_)).eq (by simp)) ⟨Nat.mul_pos wx.1 wy.1,hd⟩) ?_
 rw [<- sub_def]
 exact q
def sp_times : Sp := spA (ι := Frac × Frac) (fun i => [FrV i.1,FrV i.2]) (fun i => Ok2 i.1 i.2) (fun i => FrV (Vbchal.mul i.1 i.2))
theorem ok_times (T : Txt K mg A) : FnOk P w K mg base CX0 3 A.f_times A.d_times p_times (sp_times) := by
 refine T.F_times.ok sc_times (spA_len fun _ => rfl) fun cdv Ao outer s H vs Q E hr hsp => ?_
 obtain ⟨⟨x,y⟩,⟨v1,_,rfl,h1,v2,_,rfl,h2,rfl⟩,⟨wx,wy,bx,by_,hd⟩,q⟩ := hsp
 refine ⟨_,(pss_one (ps_ret (pe_call (ok_ratio T) (hr.mono (by decide)) rfl T.m_ratio T.F_ratio.kp T.b_ratio .nil pass0 (pa_cons (pe_op op_mulB (pe_ix ix_tup (pv 0) pe_int (fun _ _ => rfl)) (pe_ix ix_tup (pv 1) pe_int (fun _ _ => rfl))) (pa_cons (pe_op op_mulB (pe_ix ix_tup (pv 0) pe_int (fun _ _ => rfl)) (pe_ix ix_tup (pv 1) pe_int (fun _ _ => rfl))) pa_nil))))),?_⟩
 have X : Yd H (tVar 0) (start n_times [v1,v2]) (FrV x) := y_var rfl h1
 have Y : Yd H (tVar 1) (start n_times [v1,v2]) (FrV y) := y_var rfl h2
 exact s_ret (y_ratio (y_rI (y_num X) (y_num Y) (bx.c3 by_)) ((y_rI (y_den X) (y_den Y) (bx.c2 by_)).eq (by simp)) ⟨Nat.mul_pos wx.1 wy.1,hd⟩) q
structure OkD (x y : Frac) : Prop where
 wx : Wf x
 wy : Wf y
 bx : Bg x
 by_ : Bg y
 pos : 0 < y.num
 den : x.den * y.num.natAbs < 2 ^ 9000
def sp_over : Sp := spA (ι := Frac × Frac) (fun i => [FrV i.1,FrV i.2]) (fun i => OkD i.1 i.2) (fun i => FrV (Vbchal.over i.1 i.2))
theorem ok_over (T : Txt K mg A) : FnOk P w K mg base CX0 3 A.f_over A.d_over p_over (sp_over) := by
 refine T.F_over.ok sc_over (spA_len fun _ => rfl) fun cdv Ao outer s H vs Q E hr hsp => ?_
 obtain ⟨⟨x,y⟩,⟨v1,_,rfl,h1,v2,_,rfl,h2,rfl⟩,⟨wx,wy,bx,by_,hp,hd⟩,q⟩ := hsp
 refine ⟨_,(pss_one (ps_ret (pe_call (ok_ratio T) (hr.mono (by decide)) rfl T.m_ratio T.F_ratio.kp T.b_ratio .nil pass0 (pa_cons (pe_op op_mulB (pe_ix ix_tup (pv 0) pe_int (fun _ _ => rfl)) (pe_ix ix_tup (pv 1) pe_int (fun _ _ => rfl))) (pa_cons (pe_op op_mulB (pe_ix ix_tup (pv 0) pe_int (fun _ _ => rfl)) (pe_ix ix_tup (pv 1) pe_int (fun _ _ => rfl))) pa_nil))))),?_⟩
 have X : Yd H (tVar 0) (start n_over [v1,v2]) (FrV x) := y_var rfl h1
 have Y : Yd H (tVar 1) (start n_over [v1,v2]) (FrV y) := y_var rfl h2
 have hp2 : 0 < y.num := hp
 refine s_ret (y_ratio (b := x.den * y.num.natAbs) (y_rI (y_num X) (y_den Y) (bx.c1 by_)) ((y_rI (y_den X) (y_num Y) (bx.c4 by_)).eq ?_) ⟨Nat.mul_pos wx.1 (by omega),hd⟩) ?_
 ·congr 1
  rw [Int.natCast_mul,Int.natAbs_of_nonneg (by omega)]
 ·rw [<- over_pos hp2]
  exact q
structure OkL (x y : Frac) : Prop where
 wx : Wf x
 wy : Wf y
 bx : Bg x
 by_ : Bg y
def sp_less : Sp := spA (ι := Frac × Frac) (fun i => [FrV i.1,FrV i.2]) (fun i => OkL i.1 i.2) (fun i => BlV (Vbchal.less i.1 i.2))
theorem ok_less (T : Txt K mg A) : FnOk P w K mg base CX0 1 A.f_less A.d_less p_less (sp_less) := by
 refine T.F_less.ok sc_less (spA_len fun _ => rfl) fun cdv Ao outer s H vs Q E hr hsp => ?_
 obtain ⟨⟨x,y⟩,⟨v1,_,rfl,h1,v2,_,rfl,h2,rfl⟩,⟨wx,wy,bx,by_⟩,q⟩ := hsp
 refine ⟨_,(pss_one (ps_ret (pe_cmpR op_lt (pe_op op_mulB (pe_ix ix_tup (pv 0) pe_int (fun _ _ => rfl)) (pe_ix ix_tup (pv 1) pe_int (fun _ _ => rfl))) (pe_op op_mulB (pe_ix ix_tup (pv 1) pe_int (fun _ _ => rfl)) (pe_ix ix_tup (pv 0) pe_int (fun _ _ => rfl))) (nomark _)))),?_⟩
 have X : Yd H (tVar 0) (start n_less [v1,v2]) (FrV x) := y_var rfl h1
 have Y : Yd H (tVar 1) (start n_less [v1,v2]) (FrV y) := y_var rfl h2
 exact s_ret ((y_rI0 (y_rI (y_num X) (y_den Y) (bx.c1 by_)) (y_rI (y_num Y) (y_den X) (by_.c1 bx))).eq (congrArg V.bl (cross_less wx wy))) q
section
variable {H0 : Hp} {σ : L2.St} {ta tb : TE} {E : XK} {x y : Frac}
theorem y_less (ha : Yd H0 ta σ (FrV x)) (hb : Yd H0 tb σ (FrV y)) (h : OkL x y) : Yd H0 (tCall sp_less [] E (tCons ta (tCons tb tNil))) σ (BlV (Vbchal.less x y)) := y_call (x,y) (ya_cons ha (ya_cons hb ya_nil)) h
theorem y_plus (ha : Yd H0 ta σ (FrV x)) (hb : Yd H0 tb σ (FrV y)) (h : Ok2 x y) : Yd H0 (tCall sp_plus [] E (tCons ta (tCons tb tNil))) σ (FrV (Vbchal.add x y)) := y_call (x,y) (ya_cons ha (ya_cons hb ya_nil)) h
theorem y_minus (ha : Yd H0 ta σ (FrV x)) (hb : Yd H0 tb σ (FrV y)) (h : Ok2 x y) : Yd H0 (tCall sp_minus [] E (tCons ta (tCons tb tNil))) σ (FrV (Vbchal.sub x y)) := y_call (x,y) (ya_cons ha (ya_cons hb ya_nil)) h
theorem y_times (ha : Yd H0 ta σ (FrV x)) (hb : Yd H0 tb σ (FrV y)) (h : Ok2 x y) : Yd H0 (tCall sp_times [] E (tCons ta (tCons tb tNil))) σ (FrV (Vbchal.mul x y)) := y_call (x,y) (ya_cons ha (ya_cons hb ya_nil)) h
theorem y_over (ha : Yd H0 ta σ (FrV x)) (hb : Yd H0 tb σ (FrV y)) (h : OkD x y) : Yd H0 (tCall sp_over [] E (tCons ta (tCons tb tNil))) σ (FrV (Vbchal.over x y)) := y_call (x,y) (ya_cons ha (ya_cons hb ya_nil)) h
end
def sp_lesser : Sp := spA (ι := Frac × Frac) (fun i => [FrV i.1,FrV i.2]) (fun i => OkL i.1 i.2) (fun i => FrV (Vbchal.lesser i.1 i.2))
theorem ok_lesser (T : Txt K mg A) : FnOk P w K mg base CX0 2 A.f_lesser A.d_lesser p_lesser (sp_lesser) := by
 refine T.F_lesser.ok sc_lesser (spA_len fun _ => rfl) fun cdv Ao outer s H vs Q E hr hsp => ?_
 obtain ⟨⟨x,y⟩,⟨v1,_,rfl,h1,v2,_,rfl,h2,rfl⟩,ok,q⟩ := hsp
 have ok : OkL x y := ok
 refine ⟨_,(pss_one (ps_ret (pe_ifExp (pt_val (pe_call (ok_less T) (hr.mono (by decide)) rfl T.m_less T.F_less.kp T.b_less .nil pass0 (pa_cons (pv 0) (pa_cons (pv 1) pa_nil)))) (pv 0) (pv 1)))),?_⟩
 refine s_ret (P := FrV (Vbchal.lesser x y)) ?_ q
 rw [<- lesser_by ok.wx ok.wy]
 refine y_if (yt_tB (y_less (y_var rfl h1) (y_var rfl h2) ok)) (fun e => ?_) (fun e => ?_)
 ·rw [if_pos e]; exact y_var rfl h1
 ·rw [if_neg (by rw [e]; decide)]; exact y_var rfl h2
def sp_greater : Sp := spA (ι := Frac × Frac) (fun i => [FrV i.1,FrV i.2]) (fun i => OkL i.1 i.2) (fun i => FrV (Vbchal.greater i.1 i.2))
theorem ok_greater (T : Txt K mg A) : FnOk P w K mg base CX0 2 A.f_greater A.d_greater p_greater (sp_greater) := by
 refine T.F_greater.ok sc_greater (spA_len fun _ => rfl) fun cdv Ao outer s H vs Q E hr hsp => ?_
 obtain ⟨⟨x,y⟩,⟨v1,_,rfl,h1,v2,_,rfl,h2,rfl⟩,ok,q⟩ := hsp
 have ok : OkL x y := ok
 refine ⟨_,(pss_one (ps_ret (pe_ifExp (pt_val (pe_call (ok_less T) (hr.mono (by decide)) rfl T.m_less T.F_less.kp T.b_less .nil pass0 (pa_cons (pv 0) (pa_cons (pv 1) pa_nil)))) (pv 1) (pv 0)))),?_⟩
 refine s_ret (P := FrV (Vbchal.greater x y)) ?_ q
 rw [<- greater_by ok.wx ok.wy]
 refine y_if (yt_tB (y_less (y_var rfl h1) (y_var rfl h2) ok)) (fun e => ?_) (fun e => ?_)
 ·rw [if_pos e]; exact y_var rfl h2
 ·rw [if_neg (by rw [e]; decide)]; exact y_var rfl h1
section
variable {H0 : Hp} {σ : L2.St} {ta tb : TE} {E : XK} {x y : Frac}
theorem y_lesser (ha : Yd H0 ta σ (FrV x)) (hb : Yd H0 tb σ (FrV y)) (h : OkL x y) : Yd H0 (tCall sp_lesser [] E (tCons ta (tCons tb tNil))) σ (FrV (Vbchal.lesser x y)) := y_call (x,y) (ya_cons ha (ya_cons hb ya_nil)) h
theorem y_greater (ha : Yd H0 ta σ (FrV x)) (hb : Yd H0 tb σ (FrV y)) (h : OkL x y) : Yd H0 (tCall sp_greater [] E (tCons ta (tCons tb tNil))) σ (FrV (Vbchal.greater x y)) := y_call (x,y) (ya_cons ha (ya_cons hb ya_nil)) h
end
def Ft (n d : Nat) (x : Frac) : Prop := Wf x /\ Sz n d x
theorem Ft.bg {n d : Nat} {x : Frac} (h : Ft n d x) (hn : n <= 60000) (hd : d <= 60000) : Bg x := h.2.mono hn hd
theorem ok2 {n1 d1 n2 d2 : Nat} {x y : Frac} (h1 : Ft n1 d1 x) (h2 : Ft n2 d2 y) (h : d1 + d2 <= 8990 /\ n1 <= 60000 /\ n2 <= 60000) : Ok2 x y :=
 ⟨h1.1,h2.1,h1.bg h.2.1 (by omega),h2.bg h.2.2 (by omega),Nat.lt_of_le_of_lt (mul_pow_le h1.2.2 h2.2.2) (Nat.pow_lt_pow_right (by decide) (by omega))⟩
theorem okD {n1 d1 n2 d2 : Nat} {x y : Frac} (h1 : Ft n1 d1 x) (h2 : Ft n2 d2 y) (hp : 0 < y.num) (h : d1 + n2 <= 8990 /\ n1 <= 60000 /\ d2 <= 60000) : OkD x y :=
 ⟨h1.1,h2.1,h1.bg h.2.1 (by omega),h2.bg (by omega) h.2.2,hp,Nat.lt_of_le_of_lt (mul_pow_le h1.2.2 h2.2.1) (Nat.pow_lt_pow_right (by decide) (by omega))⟩
theorem okL {n1 d1 n2 d2 : Nat} {x y : Frac} (h1 : Ft n1 d1 x) (h2 : Ft n2 d2 y) (h : n1 <= 60000 /\ d1 <= 60000 /\ n2 <= 60000 /\ d2 <= 60000) : OkL x y :=
 ⟨h1.1,h2.1,h1.bg h.1 h.2.1,h2.bg h.2.2.1 h.2.2.2⟩
theorem Ft.mono {n d n' d' : Nat} {x : Frac} (h : Ft n d x) (hn : n <= n') (hd : d <= d') : Ft n' d' x := ⟨h.1,h.2.mono hn hd⟩
theorem Ft.sub {n1 d1 n2 d2 : Nat} {x y : Frac} (h1 : Ft n1 d1 x) (h2 : Ft n2 d2 y) : Ft (max (n1 + d2) (n2 + d1) + 1) (d1 + d2) (Vbchal.sub x y) := ⟨sub_wf h1.1 h2.1,sub_sz h1.2 h2.2⟩
theorem Ft.mul {n1 d1 n2 d2 : Nat} {x y : Frac} (h1 : Ft n1 d1 x) (h2 : Ft n2 d2 y) : Ft (n1 + n2) (d1 + d2) (Vbchal.mul x y) := ⟨mul_wf h1.1 h2.1,mul_sz h1.2 h2.2⟩
theorem Ft.over {n1 d1 n2 d2 : Nat} {x y : Frac} (h1 : Ft n1 d1 x) (h2 : Ft n2 d2 y) (hp : 0 < y.num) : Ft (n1 + d2) (d1 + n2) (Vbchal.over x y) := ⟨over_wf h1.1 (by omega),over_sz h1.2 h2.2 hp⟩
theorem Ft.whole {n : Int} {a : Nat} (h : n.natAbs <= 2 ^ a) : Ft a 0 (whole n) := ⟨whole_wf n,whole_sz h⟩
structure MidP (p : Point) : Prop where
 q : Ft 60 40 p.q
 v : Ft 1100 1000 p.v
theorem MidP.wf {p : Point} (h : MidP p) : PtWf p := ⟨h.q.1,h.v.1⟩
def MidR (l : List Point) : Prop := ∀ p ∈ l,MidP p
section
variable {H0 : Hp} {σ : L2.St} {ta tb tc : TE} {E : XK}
theorem y_dec {b c : Bool} (h : Yd H0 ta σ (BlV b)) (e : b = c) : Yd H0 ta σ (BlV c) := e ▸ h
end
def sp_stands_before : Sp := spA (ι := Point × Point) (fun i => [PtV i.1,PtV i.2]) (fun i => MidP i.1 /\ MidP i.2) (fun i => BlV (before i.1 i.2))
theorem ok_stands_before (T : Txt K mg A) : FnOk P w K mg base CX0 2 A.f_stands_before A.d_stands_before p_stands_before (sp_stands_before) := by
 refine T.F_stands_before.ok sc_stands_before (spA_len fun _ => rfl) fun cdv Ao outer s H vs Q E hr hsp => ?_
 obtain ⟨⟨x,y⟩,⟨v1,_,rfl,h1,v2,_,rfl,h2,rfl⟩,⟨mx,my⟩,q⟩ := hsp
 have mx : MidP x := mx
 have my : MidP y := my
 refine ⟨_,(pss_cons (ps_if (pt_cmpR (op_eqD hr.units) (pe_ix ix_tup (pv 0) pe_int (fun _ _ => rfl)) (pe_ix ix_tup (pv 1) pe_int (fun _ _ => rfl)) (nomark _)) (pss_one (ps_ret (pe_call (ok_less T) (hr.mono (by decide)) rfl T.m_less T.F_less.kp T.b_less .nil pass0 (pa_cons (pe_ix ix_tup (pv 0) pe_int (fun _ _ => rfl)) (pa_cons (pe_ix ix_tup (pv 1) pe_int (fun _ _ => rfl)) pa_nil))))) pss_nil)
   (pss_one (ps_ret (pe_call (ok_less T) (hr.mono (by decide)) rfl T.m_less T.F_less.kp T.b_less .nil pass0 (pa_cons (pe_ix ix_tup (pv 0) pe_int (fun _ _ => rfl)) (pa_cons (pe_ix ix_tup (pv 1) pe_int (fun _ _ => rfl)) pa_nil)))))),?_⟩
 have X : Yd H (tVar 0) (start n_stands_before [v1,v2]) (PtV x) := y_var rfl h1
 have Y : Yd H (tVar 1) (start n_stands_before [v1,v2]) (PtV y) := y_var rfl h2
 refine s_ifq (yt_tst (y_eqF (y_q X) (y_q Y))) (fun e H' s' => ?_) (fun e H' s' => ?_)
 ·refine s_ret (y_less (y_v (X.base s')) (y_v (Y.base s')) (okL mx.v my.v (by decide))) fun v H2 s2 h => q v H2 (s'.trans s2) ?_
  show BlV (before x y) H2 v
  unfold before
  rw [if_pos e]; exact h
 ·refine s_ret (y_less (y_q (X.base s')) (y_q (Y.base s')) (okL mx.q my.q (by decide))) fun v H2 s2 h => q v H2 (s'.trans s2) ?_
  show BlV (before x y) H2 v
  unfold before
  rw [if_neg (by rw [e]; decide)]; exact h
section
variable {H0 : Hp} {σ : L2.St} {ta tb tc : TE} {E : XK} {x y z : Point}
theorem y_before (ha : Yd H0 ta σ (PtV x)) (hb : Yd H0 tb σ (PtV y)) (h : MidP x) (h' : MidP y) : Yd H0 (tCall sp_stands_before [] E (tCons ta (tCons tb tNil))) σ (BlV (before x y)) := y_call (x,y) (ya_cons ha (ya_cons hb ya_nil)) ⟨h,h'⟩
end
def sp_lies_above : Sp := spA (ι := Point × Point × Point) (fun i => [PtV i.1,PtV i.2.1,PtV i.2.2]) (fun i => MidP i.1 /\ MidP i.2.1 /\ MidP i.2.2) (fun i => BlV (!Vbchal.under i.2.1 i.1 i.2.2))
theorem ok_lies_above (T : Txt K mg A) : FnOk P w K mg base CX0 4 A.f_lies_above A.d_lies_above p_lies_above (sp_lies_above) := by
 refine T.F_lies_above.ok sc_lies_above (spA_len fun _ => rfl) fun cdv Ao outer s H vs Q E hr hsp => ?_
 obtain ⟨⟨t,s',p⟩,⟨v1,_,rfl,h1,v2,_,rfl,h2,v3,_,rfl,h3,rfl⟩,⟨mt,ms,mp⟩,q⟩ := hsp
 have mt : MidP t := mt
 have ms : MidP s' := ms
 have mp : MidP p := mp
 refine ⟨_,(pss_cons (ps_set (i := 3) sc_lies_above.nd rfl (Or.inl rfl) (pe_call (ok_times T) (hr.mono (by decide)) rfl T.m_times T.F_times.kp T.b_times .nil pass0 (pa_cons (pe_call (ok_minus T) (hr.mono (by decide)) rfl T.m_minus T.F_minus.kp T.b_minus .nil pass0 (pa_cons (pe_ix ix_tup (pv 0) pe_int (fun _ _ => rfl)) (pa_cons (pe_ix ix_tup (pv 1) pe_int (fun _ _ => rfl)) pa_nil))) (pa_cons (pe_call (ok_minus T) (hr.mono (by decide)) rfl T.m_minus T.F_minus.kp T.b_minus .nil pass0 (pa_cons (pe_ix ix_tup (pv 2) pe_int (fun _ _ => rfl)) (pa_cons (pe_ix ix_tup (pv 1) pe_int (fun _ _ => rfl)) pa_nil))) pa_nil))))
   (pss_cons (ps_set (i := 4) sc_lies_above.nd rfl (Or.inl rfl) (pe_call (ok_times T) (hr.mono (by decide)) rfl T.m_times T.F_times.kp T.b_times .nil pass0 (pa_cons (pe_call (ok_minus T) (hr.mono (by decide)) rfl T.m_minus T.F_minus.kp T.b_minus .nil pass0 (pa_cons (pe_ix ix_tup (pv 2) pe_int (fun _ _ => rfl)) (pa_cons (pe_ix ix_tup (pv 1) pe_int (fun _ _ => rfl)) pa_nil))) (pa_cons (pe_call (ok_minus T) (hr.mono (by decide)) rfl T.m_minus T.F_minus.kp T.b_minus .nil pass0 (pa_cons (pe_ix ix_tup (pv 0) pe_int (fun _ _ => rfl)) (pa_cons (pe_ix ix_tup (pv 1) pe_int (fun _ _ => rfl)) pa_nil))) pa_nil))))
   (pss_one (ps_ret (pe_call (ok_less T) (hr.mono (by decide)) rfl T.m_less T.F_less.kp T.b_less .nil pass0 (pa_cons (pv 4) (pa_cons (pv 3) pa_nil))))))),?_⟩
 have X : Yd H (tVar 0) (start n_lies_above [v1,v2,v3]) (PtV t) := y_var rfl h1
 have Y : Yd H (tVar 1) (start n_lies_above [v1,v2,v3]) (PtV s') := y_var rfl h2
 have Z : Yd H (tVar 2) (start n_lies_above [v1,v2,v3]) (PtV p) := y_var rfl h3
 have r1 := (mt.v.sub ms.v).mul (mp.q.sub ms.q)
 have r2 := (mp.v.sub ms.v).mul (mt.q.sub ms.q)
 refine s_set (y_times (y_minus (y_v X) (y_v Y) (ok2 mt.v ms.v (by decide))) (y_minus (y_q Z) (y_q Y) (ok2 mp.q ms.q (by decide))) (ok2 (mt.v.sub ms.v) (mp.q.sub ms.q) (by decide))) fun v4 H4 s4 h4 => ?_
 have h1 : PtV t H4 v1 := Mono.up s4 h1
 have h2 : PtV s' H4 v2 := Mono.up s4 h2
 have h3 : PtV p H4 v3 := Mono.up s4 h3
 refine s_set (y_times (y_minus (y_v (y_var rfl h3)) (y_v (y_var rfl h2)) (ok2 mp.v ms.v (by decide))) (y_minus (y_q (y_var rfl h1)) (y_q (y_var rfl h2)) (ok2 mt.q ms.q (by decide))) (ok2 (mp.v.sub ms.v) (mt.q.sub ms.q) (by decide))) fun v5 H5 s5 h5 => ?_
 refine s_ret (y_dec (y_less (y_var rfl h5) (y_var rfl (Mono.up s5 h4 : FrV _ H5 v4)) (okL r2 r1 (by decide))) ?_) fun v H6 s6 h => q v H6 (s4.trans (s5.trans s6)) h
 show Vbchal.less _ _ = !Vbchal.under s' t p
 unfold Vbchal.under
 rw [<- le_not_less r1.1 r2.1,Bool.not_not]
section
variable {H0 : Hp} {σ : L2.St} {ta tb tc : TE} {E : XK} {x y z : Point}
theorem y_above (ha : Yd H0 ta σ (PtV x)) (hb : Yd H0 tb σ (PtV y)) (hc : Yd H0 tc σ (PtV z)) (h : MidP x) (h' : MidP y) (h'' : MidP z) : Yd H0 (tCall sp_lies_above [] E (tCons ta (tCons tb (tCons tc tNil)))) σ (BlV (!Vbchal.under y x z)) :=
 y_call (x,y,z) (ya_cons ha (ya_cons hb (ya_cons hc ya_nil))) ⟨h,h',h''⟩
end
def sp_piece_slope : Sp := spA (ι := Point × Point) (fun i => [PtV i.1,PtV i.2]) (fun i => MidP i.1 /\ MidP i.2 /\ val i.1.q < val i.2.q) (fun i => FrV (slope i.1 i.2))
theorem ok_piece_slope (T : Txt K mg A) : FnOk P w K mg base CX0 4 A.f_piece_slope A.d_piece_slope p_piece_slope (sp_piece_slope) := by
 refine T.F_piece_slope.ok sc_piece_slope (spA_len fun _ => rfl) fun cdv Ao outer s H vs Q E hr hsp => ?_
 obtain ⟨⟨x,y⟩,⟨v1,_,rfl,h1,v2,_,rfl,h2,rfl⟩,⟨mx,my,hl⟩,q⟩ := hsp
 have mx : MidP x := mx
 have my : MidP y := my
 refine ⟨_,(pss_one (ps_ret (pe_call (ok_over T) (hr.mono (by decide)) rfl T.m_over T.F_over.kp T.b_over .nil pass0 (pa_cons (pe_call (ok_minus T) (hr.mono (by decide)) rfl T.m_minus T.F_minus.kp T.b_minus .nil pass0 (pa_cons (pe_ix ix_tup (pv 1) pe_int (fun _ _ => rfl)) (pa_cons (pe_ix ix_tup (pv 0) pe_int (fun _ _ => rfl)) pa_nil))) (pa_cons (pe_call (ok_minus T) (hr.mono (by decide)) rfl T.m_minus T.F_minus.kp T.b_minus .nil pass0 (pa_cons (pe_ix ix_tup (pv 1) pe_int (fun _ _ => rfl)) (pa_cons (pe_ix ix_tup (pv 0) pe_int (fun _ _ => rfl)) pa_nil))) pa_nil))))),?_⟩
 have X : Yd H (tVar 0) (start n_piece_slope [v1,v2]) (PtV x) := y_var rfl h1
 have Y : Yd H (tVar 1) (start n_piece_slope [v1,v2]) (PtV y) := y_var rfl h2
 exact s_ret (y_over (y_minus (y_v Y) (y_v X) (ok2 my.v mx.v (by decide))) (y_minus (y_q Y) (y_q X) (ok2 my.q mx.q (by decide))) (okD (my.v.sub mx.v) (my.q.sub mx.q) (diff_pos mx.wf my.wf hl) (by decide))) q
section
variable {H0 : Hp} {σ : L2.St} {ta tb tc : TE} {E : XK} {x y z : Point}
theorem y_slope (ha : Yd H0 ta σ (PtV x)) (hb : Yd H0 tb σ (PtV y)) (h : MidP x) (h' : MidP y) (hl : val x.q < val y.q) : Yd H0 (tCall sp_piece_slope [] E (tCons ta (tCons tb tNil))) σ (FrV (slope x y)) := y_call (x,y) (ya_cons ha (ya_cons hb ya_nil)) ⟨h,h',hl⟩
end
def sp_scaled : Sp := spN (ι := List Point × Nat × Nat) (fun i => [RowV i.1,FrV (lowest (i.2.2 : Int) i.2.1)]) (fun i => MidR i.1 /\ i.1.length <= 100 /\ 0 < i.2.1 /\ i.2.1 <= 100 /\ i.2.2 <= 100) (fun i _ => RowV (i.1.map (Vbchal.taken i.2.1 i.2.2)))
theorem ok_scaled (T : Txt K mg A) : FnOk P w K mg base CX0 4 A.f_scaled A.d_scaled p_scaled (sp_scaled) := by
 refine T.F_scaled.ok sc_scaled (spN_len fun _ => rfl) fun cdv Ao outer s H vs Q E hr hsp => ?_
 obtain ⟨⟨l,a,b⟩,⟨v1,_,rfl,h1,v2,_,rfl,h2,rfl⟩,⟨ml,hl,ha,ha2,hb2⟩,q⟩ := hsp
 refine ⟨_,(pss_one (ps_ret (pe_lc (g := gTup K 2 (gCons (gName 2) (gCons (gName 3) gNil))) (own := [("q",2),("v",3)]) rfl sc_scaled.nd (pi_list (pv 0)) (blkOk_by (N := n_scaled) (sc := defScope s_scaled) (by decide +kernel)) (fun _ _ _ _ _ => (pg_tup rfl (pgs_cons (pg_name (i := 2) sc_scaled.nd rfl (Or.inl rfl) (.inr rfl)) (pgs_cons (pg_name (i := 3) sc_scaled.nd rfl (Or.inl rfl) (.inr rfl)) pgs_nil)))) (fun _ _ _ _ _ => pts_nil) (fun _ _ _ _ _ => (pe_tup (pa_cons (pe_call (ok_times T) (hr.mono (by decide)) rfl T.m_times T.F_times.kp T.b_times .nil pass0 (pa_cons (pv 2) (pa_cons (pv 1) pa_nil))) (pa_cons (pe_call (ok_times T) (hr.mono (by decide)) rfl T.m_times T.F_times.kp T.b_times .nil pass0 (pa_cons (pv 3) (pa_cons (pv 1) pa_nil))) pa_nil))))))),?_⟩
 have X : Yd H (tVar 0) (start n_scaled [v1,v2]) (RowV l) := y_var rfl h1
 have fb : Ft 7 7 (lowest (b : Int) a) := ⟨lowest_wf _ ha,lowest_sz (by have : b <= 100 := hb2; simp; omega) (by have : a <= 100 := ha2; omega)⟩
 refine s_ret (y_lcm (F := PtV) (f := Vbchal.taken a b) (Nat.le_of_lt (small1000 (by have : l.length <= 100 := hl; omega))) (yi_list X) fun y x H' hy sH hE => ?_) fun v H' s' h => q v H' s' h.1 h.2
 obtain ⟨T',u',w',rfl,hT,hq,hv⟩ := hE
 refine ⟨_,g_pair hT,rfl,?_⟩
 have my := ml y hy
 have e : Vbchal.taken a b y = ⟨Vbchal.mul y.q (lowest (b : Int) a),Vbchal.mul y.v (lowest (b : Int) a)⟩ := by
  unfold Vbchal.taken
  rw [taken_by my.q.1 ha,taken_by my.v.1 ha]
 rw [e]
 have h2' : FrV (lowest (b : Int) a) H' v2 := Mono.up sH h2
 exact y_point (y_times (y_var (P := FrV y.q) rfl hq) (y_var rfl h2') (ok2 my.q fb (by decide))) (y_times (y_var (P := FrV y.v) rfl hv) (y_var rfl h2') (ok2 my.v fb (by decide)))
theorem merge_step {x p : Point} {l r : List Point} (h : before x p = true) : mergeP (p :: l) (x :: r) = x :: mergeP (p :: l) r := by
 rw [mergeP,mergeP,List.takeWhile_cons,List.dropWhile_cons,if_pos h,if_pos h]
 rfl
theorem merge_nil {p : Point} {l : List Point} : mergeP (p :: l) [] = p :: mergeP l [] := rfl
theorem merge_stop {x p : Point} {l r : List Point} (h : before x p = false) : mergeP (p :: l) (x :: r) = p :: mergeP l (x :: r) := by
 have h' : ¬ (before x p = true) := by rw [h]; decide
 rw [mergeP,List.takeWhile_cons,List.dropWhile_cons,if_neg h',if_neg h']
 rfl
theorem merge_len : ∀ l r : List Point,(mergeP l r).length = l.length + r.length
 | [],r => by simp [mergeP]
 | p :: l,r => by
  have e : r.length = (r.takeWhile (before · p)).length + (r.dropWhile (before · p)).length := by rw [<- List.length_append,List.takeWhile_append_dropWhile]
  rw [mergeP,List.length_append,List.length_cons,merge_len l,List.length_cons]
  omega
theorem drop_at {α : Type} {l : List α} {i : Nat} {x : α} (h : l[i]? = some x) : l.drop i = x :: l.drop (i + 1) := by
 obtain ⟨hi,e⟩ := List.getElem?_eq_some_iff.mp h
 rw [List.drop_eq_getElem_cons hi,e]
def sp_merged : Sp := spN (ι := List Point × List Point) (fun i => [RowV i.1,RowV i.2]) (fun i => MidR i.1 /\ MidR i.2 /\ i.1.length <= 100 /\ i.2.length <= 100) (fun i _ => RowV (mergeP i.1 i.2))
theorem ok_merged (T : Txt K mg A) : FnOk P w K mg base CX0 3 A.f_merged A.d_merged p_merged (sp_merged) := by
 refine T.F_merged.ok sc_merged (spN_len fun _ => rfl) fun cdv Ao outer s H vs Q E hr hsp => ?_
 obtain ⟨⟨l,r⟩,⟨v1,_,rfl,h1,v2,_,rfl,h2,rfl⟩,⟨ml,mr,hl,hr2⟩,q⟩ := hsp
 have hl : l.length <= 100 := hl
 have hr2 : r.length <= 100 := hr2
 refine ⟨_,(pss_cons (ps_set (i := 2) sc_merged.nd rfl (Or.inl rfl) (pe_lst pa_nil))
   (pss_cons (ps_set (i := 3) sc_merged.nd rfl (Or.inl rfl) pe_int)
   (pss_cons (ps_for PassesOwn.never rfl (pi_list (pv 0)) (pg_name (i := 4) sc_merged.nd rfl (Or.inl rfl)) (pss_cons (ps_while PassesOwn.never (PW.pt (pw_and (pt_cmpR op_lt (pv 3) (pe_callB call_len_seq (by rfl) T.n_len boot_len (pa_cons (pv 1) pa_nil)) (nomark _)) (pw_and1 (pt_val (pe_call (ok_stands_before T) (hr.mono (by decide)) rfl T.m_stands_before T.F_stands_before.kp T.b_stands_before .nil pass0 (pa_cons (pe_ix ix_list (pv 1) (pv 3) (fun _ _ => rfl)) (pa_cons (pv 4) pa_nil))))))) (pss_cons (ps_expr (pe_bm PySem.F.plainAttrs_list PySem.F.slot_list_append PySem.F.type_list_append mt_append (pv 2) (pa_cons (pe_ix ix_list (pv 1) (pv 3) (fun _ _ => rfl)) pa_nil)))
   (pss_one (ps_aug (i := 3) sc_merged.nd rfl (Or.inl rfl) pe_int ip_add))))
   (pss_one (ps_expr (pe_bm PySem.F.plainAttrs_list PySem.F.slot_list_append PySem.F.type_list_append mt_append (pv 2) (pa_cons (pv 4) pa_nil))))))
   (pss_one (ps_ret (pe_op op_cat (pv 2) (pe_slice sl_list (pv 1) (po_some (pv 3)) po_none))))))),?_⟩
 refine s_set (y_lst (F := PtV) (l := []) (by decide) yl_nil) fun vb H1 s1 h3 => ?_
 obtain ⟨⟨a,vs0,rfl,ea,f0⟩,⟨a',e',na⟩⟩ := h3
 cases e'
 cases f0
 refine s_set y_c fun vt H2 s2 et => ?_
 cases et
 obtain ⟨al,vl,rfl,eal,fal⟩ := id h1
 obtain ⟨ar,vr,rfl,ear,far⟩ := id h2
 let W : List Point -> Nat -> Hp -> Prop := fun todo k H' => Same H H' /\ k <= r.length /\ ∃ out outP,H' a = some (.lst out) /\ All2 (fun u x => PtV x H' u) out outP /\ mergeP l r = outP ++ mergeP todo (r.drop k)
 have wlen : ∀ {todo k H'} {out : List V} {outP : List Point},All2 (fun u x => PtV x H' u) out outP -> mergeP l r = outP ++ mergeP todo (r.drop k) -> out.length <= 200 := fun {todo k H' out outP} f e => by
  have := congrArg List.length e
  rw [merge_len,List.length_append] at this
  have := f.len
  omega
 refine s_forM (P := EqV (.ref al)) (y_var rfl rfl) fun v H3 s3 e3 => ?_
 cases e3
 refine ⟨al,vl,rfl,s3 _ _ (s2 _ _ (s1 _ _ eal)),fun i σ H' => ∃ (k : Nat) (pt : Option V),σ = [some (.ref al),some (.ref ar),some (.ref a),some (.int k),pt] /\ W (l.drop i) k H',?_,?_,?_,?_⟩
 ·refine ⟨0,none,rfl,s1.trans (s2.trans s3),Nat.zero_le _,[],[],s3 _ _ (s2 _ _ ea),.nil,by simp⟩
 ·rintro i σ H' hi ⟨k,pt,rfl,sH,_⟩
  exact sH _ _ eal
 ·rintro i x σ H' hx ⟨k,pt,rfl,w0⟩
  obtain ⟨p,hp,fp⟩ := fal.got hx
  have mp : MidP p := ml p (List.mem_of_getElem? hp)
  rw [drop_at hp] at w0
  show tSeq _ _ _ [some (V.ref al),some (V.ref ar),some (V.ref a),some (V.int k),some x] H'
  refine s_while (fun m σ H'' => ∃ (k : Nat),σ = [some (.ref al),some (.ref ar),some (.ref a),some (.int k),some x] /\ m = r.length - k /\ W (p :: l.drop (i + 1)) k H'') (r.length - k) ⟨k,rfl,rfl,w0⟩ ?_
  rintro m σ H4 ⟨k,rfl,rfl,sH,hk,out,outP,eo,fo,em⟩
  have fp4 : PtV p H4 x := Mono.up sH fp
  have app : ∀ {H5 H6 : Hp} {out : List V} {outP : List Point},Same H4 H5 -> Same H5 H6 -> H4 a = some (.lst out) -> All2 (fun u x => PtV x H4 u) out outP -> All2 (fun u y => PtV y (upd H6 a (.lst (out ++ [x]))) u) (out ++ [x]) (outP ++ [p]) := fun {H5 H6 out outP} s5 s6 eo fo =>
   have mu : MuL a H6 (upd H6 a (.lst (out ++ [x]))) := MuL.upd (s6 _ _ (s5 _ _ eo))
   (all_tk mu.tk (all_up (s5.trans s6) fo)).append (.one (TkV.tk mu.tk (Mono.up (s5.trans s6) fp4)))
  have R : Yd H4 (tVar 1) [some (V.ref al),some (V.ref ar),some (V.ref a),some (V.int k),some x] (RowV r) := y_var rfl (Mono.up sH h2)
  have Kx : Yd H4 (tVar 3) [some (V.ref al),some (V.ref ar),some (V.ref a),some (V.int k),some x] (IntV k) := y_var rfl rfl
  by_cases hlt : k < r.length
  ·have er : r[k]? = some r[k] := List.getElem?_eq_getElem hlt
   have mk : MidP r[k] := mr _ (List.getElem_mem hlt)
   have RK : Yd H4 (tOp (rIxL K) (tVar 1) (tVar 3)) [some (V.ref al),some (V.ref ar),some (V.ref a),some (V.int k),some x] (PtV r[k]) := y_ixL R Kx (atI_nat er)
   refine ⟨before r[k] p,?_,fun H5 s5 => ?_⟩
   ·refine (yt_and (yt_tst (y_rI0 Kx (y_len R))) fun _ => yt_tB (y_before RK (y_var rfl fp4) mk mp)).eq ?_
    rw [decide_eq_true (by omega),Bool.true_and]
   ·by_cases hb : before r[k] p = true
    ·refine iteT' hb ?_
     refine s_append (P := PtV r[k]) rfl (s5 _ _ eo) (by have := wlen fo em; show _ < sizeLine; exact Nat.lt_of_le_of_lt this (by decide)) (RK.base s5) fun v H6 s6 hv => ?_
     have mu : MuL a H6 (upd H6 a (.lst (out ++ [v]))) := MuL.upd (s6 _ _ (s5 _ _ eo))
     refine s_aug1 (y := 1) rfl y_c fun H7 s7 => ?_
     refine ⟨r.length - (k + 1),by omega,k + 1,rfl,rfl,((sH.trans (s5.trans s6)).mu na).trans s7,hlt,_,outP ++ [r[k]],s7 _ _ upd_same,?_,?_⟩
     ·exact (all_up s7 (all_tk mu.tk (all_up (s5.trans s6) fo))).append (.one (Mono.up s7 (TkV.tk mu.tk hv)))
     ·rw [em,drop_at er,merge_step hb,List.append_assoc]
      rfl
    ·have hb' : before r[k] p = false := by simpa using hb
     refine iteF' hb' ?_
     refine s_append1 (P := EqV x) rfl (s5 _ _ eo) (by have := wlen fo em; exact Nat.lt_of_le_of_lt this (by decide)) (y_var rfl rfl) fun v H6 s6 hv => ?_
     cases hv
     refine ⟨k,some x,rfl,(sH.trans (s5.trans s6)).mu na,hk,_,outP ++ [p],upd_same,app s5 s6 eo fo,?_⟩
     rw [em,drop_at er,merge_stop hb',List.append_assoc]
     rfl
  ·have ek : k = r.length := by omega
   refine ⟨false,?_,fun H5 s5 => iteF ?_⟩
   ·refine (yt_and (c := false) (yt_tst (y_rI0 Kx (y_len R))) fun e => ?_).eq (by simp)
    have := of_decide_eq_true e
    omega
   ·refine s_append1 (P := EqV x) rfl (s5 _ _ eo) (by have := wlen fo em; exact Nat.lt_of_le_of_lt this (by decide)) (y_var rfl rfl) fun v H6 s6 hv => ?_
    cases hv
    refine ⟨k,some x,rfl,(sH.trans (s5.trans s6)).mu na,hk,_,outP ++ [p],upd_same,app s5 s6 eo fo,?_⟩
    rw [em,ek,List.drop_length,merge_nil,List.append_assoc]
    rfl
 ·rintro σ H' ⟨k,pt,rfl,sH,hk,out,outP,eo,fo,em⟩
  rw [fal.len,List.drop_length] at em
  refine s_ret (y_cat (F := PtV) (l := outP) (m := r.drop k) (by have := wlen (todo := []) fo em; have := fo.len; rw [List.length_drop]; show _ <= sizeLine; refine Nat.le_trans (m := 300) (by omega) (by decide)) (y_var rfl ⟨a,out,rfl,eo,fo⟩) ?_) fun v H5 s5 hv => q v H5 (sH.trans s5) ?_ (hv.2.old sH)
  ·refine (y_sl (F := PtV) (y_var rfl (Mono.up sH h2)) (yo_some (y_var rfl rfl : Yd H' (tVar 3) _ (IntV k))) yo_none).l.imp fun H v h => ?_
   rw [HT.sIx_nat,HT.sIx_none,Nat.min_eq_left hk,List.take_of_length_le (by rw [List.length_drop]; omega)] at h
   exact h
  ·have e : mergeP l r = outP ++ r.drop k := em
   show RowV (mergeP l r) H5 v
   rw [e]
   exact hv.1
section
variable {H0 : Hp} {σ : L2.St} {ta tb tc : TE} {E : XK}
theorem y_merged {l r : List Point} (ha : Yd H0 ta σ (RowV l)) (hb : Yd H0 tb σ (RowV r)) (h : MidR l /\ MidR r /\ l.length <= 100 /\ r.length <= 100) : Yd H0 (tCall sp_merged [] E (tCons ta (tCons tb tNil))) σ (AndV (RowV (mergeP l r)) (NewV H0)) :=
 y_callN (l,r) (ya_cons ha (ya_cons hb ya_nil)) h fun _ _ _ _ q => q
end
theorem atI_last2 {α : Type} (xs : List α) (u v : α) : atI (xs ++ [u,v]) (-2) = some u := by
 have e : ixN (xs ++ [u,v]).length (-2) = some xs.length := by
  unfold ixN
  rw [if_neg (by decide),if_pos (by simp; omega)]
  simp
  omega
 unfold atI
 rw [e]
 simp
def sp_upper_row : Sp := spN (ι := List Point × List Point) (fun i => [RowV i.1,RowV i.2]) (fun i => MidR i.1 /\ MidR i.2 /\ i.1.length <= 100 /\ i.2.length <= 100) (fun i _ => RowV (upperP (mergeP i.1 i.2)))
theorem ok_upper_row (T : Txt K mg A) : FnOk P w K mg base CX0 5 A.f_upper_row A.d_upper_row p_upper_row (sp_upper_row) := by
 refine T.F_upper_row.ok sc_upper_row (spN_len fun _ => rfl) fun cdv Ao outer s H vs Q E hr hsp => ?_
 obtain ⟨⟨l,r⟩,⟨v1,_,rfl,h1,v2,_,rfl,h2,rfl⟩,⟨ml,mr,hl,hr2⟩,q⟩ := hsp
 have hl : l.length <= 100 := hl
 have hr2 : r.length <= 100 := hr2
 refine ⟨_,(pss_cons (ps_set (i := 2) sc_upper_row.nd rfl (Or.inl rfl) (pe_lst pa_nil))
   (pss_cons (ps_for PassesOwn.never rfl (pi_list (pe_call (ok_merged T) (hr.mono (by decide)) rfl T.m_merged T.F_merged.kp T.b_merged .nil pass0 (pa_cons (pv 0) (pa_cons (pv 1) pa_nil)))) (pg_name (i := 3) sc_upper_row.nd rfl (Or.inl rfl)) (pss_cons (ps_if (PW.pt (pw_and (pt_cmpR op_gt (pe_callB call_len_seq (by rfl) T.n_len boot_len (pa_cons (pv 2) pa_nil)) pe_int (nomark _)) (pw_and1 (pt_cmpR (op_eqD hr.units) (pe_ix ix_tup (pe_ix ix_list (pv 2) (pe_un un_neg pe_int) (fun _ _ => rfl)) pe_int (fun _ _ => rfl)) (pe_ix ix_tup (pv 3) pe_int (fun _ _ => rfl)) (nomark _))))) (pss_one (ps_expr (pe_bm0 PySem.F.plainAttrs_list PySem.F.slot_list_pop PySem.F.type_list_pop mt_pop (pv 2)))) pss_nil)
   (pss_cons (ps_while PassesOwn.never (PW.pt (pw_and (pt_cmpR op_gt (pe_callB call_len_seq (by rfl) T.n_len boot_len (pa_cons (pv 2) pa_nil)) pe_int (nomark _)) (pw_and1 (pt_not (pt_val (pe_call (ok_lies_above T) (hr.mono (by decide)) rfl T.m_lies_above T.F_lies_above.kp T.b_lies_above .nil pass0 (pa_cons (pe_ix ix_list (pv 2) (pe_un un_neg pe_int) (fun _ _ => rfl)) (pa_cons (pe_ix ix_list (pv 2) (pe_un un_neg pe_int) (fun _ _ => rfl)) (pa_cons (pv 3) pa_nil))))))))) (pss_one (ps_expr (pe_bm0 PySem.F.plainAttrs_list PySem.F.slot_list_pop PySem.F.type_list_pop mt_pop (pv 2)))))
   (pss_one (ps_expr (pe_bm PySem.F.plainAttrs_list PySem.F.slot_list_append PySem.F.type_list_append mt_append (pv 2) (pa_cons (pv 3) pa_nil)))))))
   (pss_one (ps_ret (pv 2))))),?_⟩
 refine s_set (y_lst (F := PtV) (l := []) (by decide) yl_nil) fun vb H1 s1 h3 => ?_
 obtain ⟨⟨a,vs0,rfl,ea,f0⟩,⟨a',e',na⟩⟩ := h3
 cases e'
 cases f0
 have hM : ∀ p ∈ mergeP l r,MidP p := fun p hp => (List.mem_append.mp ((merge_mem _ _ _).mp hp)).elim (ml p) (mr p)
 have lM := merge_len l r
 generalize hMe : mergeP l r = M at hM lM
 refine s_forM (y_merged (l := l) (r := r) (y_var rfl (Mono.up s1 h1)) (y_var rfl (Mono.up s1 h2)) ⟨ml,mr,hl,hr2⟩) fun vm H2 s2 h4 => ?_
 obtain ⟨⟨b,ms,rfl,eb,fb⟩,hnb⟩ := h4
 have hab : b ≠ a := fun z => hnb.off ea (by rw [z])
 rw [hMe] at fb
 let R : List Point -> Hp -> Prop := fun st H' => Same H H' /\ H' b = some (.lst ms) /\ All2 (fun u x => PtV x H' u) ms M /\ (∀ p ∈ st,MidP p) /\ ∃ vs,H' a = some (.lst vs) /\ All2 (fun u x => PtV x H' u) vs st.reverse
 have Rmu : ∀ {st st' H'} {vs' : List V},R st H' -> (∀ p ∈ st',MidP p) -> All2 (fun u x => PtV x H' u) vs' st'.reverse -> R st' (upd H' a (.lst vs')) := fun {st st' H' vs'} h hm hf => by
  obtain ⟨sH,ebH,fbH,_,vs,ev,_⟩ := h
  have mu : MuL a H' (upd H' a (.lst vs')) := MuL.upd ev
  exact ⟨sH.mu na,mu.keep _ _ hab ebH,all_tk mu.tk fbH,hm,vs',upd_same,all_tk mu.tk hf⟩
 have Rup : ∀ {st H' H''},R st H' -> Same H' H'' -> R st H'' := fun {st H' H''} h s => by
  obtain ⟨sH,ebH,fbH,hm,vs,ev,fv⟩ := h
  exact ⟨sH.trans s,s _ _ ebH,all_up s fbH,hm,vs,s _ _ ev,all_up s fv⟩
 have Rpop : ∀ {t st H'} {vs : List V},R (t :: st) H' -> H' a = some (.lst vs) -> vs ≠ [] /\ R st (upd H' a (.lst vs.dropLast)) := fun {t st H' vs} h ev => by
  obtain ⟨_,_,_,hm,vs',ev',fv⟩ := id h
  rw [ev] at ev'
  cases ev'
  rw [List.reverse_cons] at fv
  refine ⟨fun z => ?_,Rmu h (fun p hp => hm p (List.mem_cons_of_mem _ hp)) ?_⟩
  ·have := fv.len
   rw [z] at this
   simp at this
  ·have := fv.dropLast
   rw [List.dropLast_concat] at this
   exact this
 refine ⟨b,ms,rfl,eb,fun i σ H' => ∃ pt st,σ = [some v1,some v2,some (.ref a),pt] /\ st = (M.take i).foldl turnP [] /\ st.length <= i /\ R st H',?_,?_,?_,?_⟩
 ·exact ⟨none,[],rfl,rfl,Nat.le_refl _,s1.trans s2,eb,fb,by simp,[],s2 _ _ ea,.nil⟩
 ·rintro i σ H' hi ⟨pt,st,rfl,_,_,_,e,_⟩
  exact e
 ·rintro i x σ H' hx ⟨pt,st,rfl,est,hsl,hR⟩
  obtain ⟨sH,ebH,fbH,hm,vs,ev,fv⟩ := id hR
  obtain ⟨p,hp,fp⟩ := fbH.got hx
  have mp : MidP p := hM p (List.mem_of_getElem? hp)
  have hiM : i < M.length := (List.getElem?_eq_some_iff.mp hp).1
  show tSeq _ _ _ [some v1,some v2,some (V.ref a),some x] H'
  have go : ∀ st' H3,st'.length <= i -> R st' H3 -> PtV p H3 x -> pops p st' = pops p (unsame p st) -> ∀ D' : Ends,D'.nx = (fun σ H' => ∃ pt st,σ = [some v1,some v2,some (.ref a),pt] /\ st = (M.take (i + 1)).foldl turnP [] /\ st.length <= i + 1 /\ R st H') ->
    tSeq (tWhile (tAnd (tTest (tOp (rI0 fun i j => .bl (decide (j < i))) (tCB (fun xs H Q => ∃ p ys,xs = [.ref p] /\ (SqL K H p ys \/ SqT K H p ys) /\ Q (.int ys.length) H) (tCons (tVar 2) tNil)) (tC (.int 1)))) (tNot (tB (tCall sp_lies_above [] E0 (tCons (tOp (rIxL K) (tVar 2) (tUn (rU fun i => .int (-i)) (tC (.int 1)))) (tCons (tOp (rIxL K) (tVar 2) (tUn (rU fun i => .int (-i)) (tC (.int 2)))) (tCons (tVar 3) tNil)))))))
     (tDrop (tBM0 K "list" rPop (tVar 2)))) (tDrop (tBM K "list" rAppend (tVar 2) (tCons (tVar 3) tNil))) D' [some v1,some v2,some (V.ref a),some x] H3 := fun st' H3 hl3 hR3 fp3 hpp D' hD' => by
   refine s_while (fun m σ H4 => ∃ st4,σ = [some v1,some v2,some (V.ref a),some x] /\ m = st4.length /\ st4.length <= i /\ R st4 H4 /\ PtV p H4 x /\ pops p st4 = pops p (unsame p st)) st'.length ⟨st',rfl,rfl,hl3,hR3,fp3,hpp⟩ ?_
   rintro m σ H4 ⟨st4,rfl,rfl,hl4,hR4,fp4,hpp4⟩
   obtain ⟨sH4,ebH4,fbH4,hm4,vs4,ev4,fv4⟩ := id hR4
   have RW : Yd H4 (tVar 2) [some v1,some v2,some (V.ref a),some x] (RowV st4.reverse) := y_var rfl ⟨a,vs4,rfl,ev4,fv4⟩
   have fin : ∀ H5,Same H4 H5 -> pops p st4 = st4 -> tDrop (tBM K "list" rAppend (tVar 2) (tCons (tVar 3) tNil)) D' [some v1,some v2,some (V.ref a),some x] H5 := fun H5 s5 e4 => by
    refine s_append1 (P := EqV x) rfl (s5 _ _ ev4) (by have := fv4.len; rw [List.length_reverse] at this; exact Nat.lt_of_le_of_lt (m := 300) (by omega) (by decide)) (y_var rfl rfl) fun v H6 s6 hv => ?_
    cases hv
    rw [hD']
    refine ⟨some x,p :: st4,rfl,?_,by simp; omega,Rmu (Rup hR4 (s5.trans s6)) (fun y hy => ?_) ?_⟩
    ·rw [List.take_succ,hp,List.foldl_append,<- est]
     show p :: st4 = turnP st p
     rw [turnP,<- hpp4,e4]
    ·rcases List.mem_cons.mp hy with z | z
     ·rw [z]; exact mp
     ·exact hm4 y z
    ·rw [List.reverse_cons]
     exact (all_up (s5.trans s6) fv4).append (.one (Mono.up (s5.trans s6) fp4))
   match st4,hl4,hR4,hpp4,hm4,fv4,RW,fin with
   | [],hl4,hR4,hpp4,hm4,fv4,RW,fin =>
    refine ⟨false,(yt_and (c := false) (yt_tst (y_rI0 (y_len RW) y_c)) fun e => ?_).eq (by simp),fun H5 s5 => iteF (fin H5 s5 rfl)⟩
    simp at e
   | [t],hl4,hR4,hpp4,hm4,fv4,RW,fin =>
    refine ⟨false,(yt_and (c := false) (yt_tst (y_rI0 (y_len RW) y_c)) fun e => ?_).eq (by simp),fun H5 s5 => iteF (fin H5 s5 rfl)⟩
    simp at e
   | t :: s0 :: rest,hl4,hR4,hpp4,hm4,fv4,RW,fin =>
    have er : (t :: s0 :: rest).reverse = rest.reverse ++ [s0,t] := by simp
    have T1 : Yd H4 (tOp (rIxL K) (tVar 2) (tUn (rU fun i => .int (-i)) (tC (.int 1)))) [some v1,some v2,some (V.ref a),some x] (PtV t) := y_ixL RW (y_rU y_c) (by rw [List.reverse_cons]; exact atI_last _ _)
    have T2 : Yd H4 (tOp (rIxL K) (tVar 2) (tUn (rU fun i => .int (-i)) (tC (.int 2)))) [some v1,some v2,some (V.ref a),some x] (PtV s0) := y_ixL RW (y_rU y_c) (by rw [er]; exact atI_last2 _ _ _)
    refine ⟨Vbchal.under s0 t p,(yt_and (yt_tst (y_rI0 (y_len RW) y_c)) fun _ => yt_not (yt_tB (y_above T1 T2 (y_var rfl fp4) (hm4 t (by simp)) (hm4 s0 (by simp)) mp))).eq (by simp; omega),fun H5 s5 => ?_⟩
    by_cases hu : Vbchal.under s0 t p = true
    ·refine iteT' hu ?_
     have hR5 := Rup hR4 s5
     obtain ⟨n5,hR6⟩ := Rpop hR5 (s5 _ _ ev4)
     refine s_pop1 rfl (s5 _ _ ev4) n5 ⟨(s0 :: rest).length,by simp,s0 :: rest,rfl,rfl,by simp at hl4 ⊢; omega,hR6,?_,?_⟩
     ·exact TkV.tk (MuL.upd (s5 _ _ ev4)).tk (Mono.up s5 fp4)
     ·rw [<- hpp4,pops,if_pos hu]
    ·refine iteF' (by simpa using hu) (fin H5 s5 ?_)
     rw [pops,if_neg hu]
  have RW0 : Yd H' (tVar 2) [some v1,some v2,some (V.ref a),some x] (RowV st.reverse) := y_var rfl ⟨a,vs,rfl,ev,fv⟩
  match st,hsl,hR,hm,fv,RW0,go with
  | [],hsl,hR,hm,fv,RW0,go =>
   refine s_ifq (b := false) ((yt_and (c := false) (yt_tst (y_rI0 (y_len RW0) y_c)) fun e => ?_).eq (by simp)) (fun e => by cases e) fun _ H3 s3 => ?_
   ·simp at e
   ·exact go [] H3 (by simp) (Rup hR s3) (Mono.up s3 fp) rfl _ rfl
  | t :: rest,hsl,hR,hm,fv,RW0,go =>
   have T1 : Yd H' (tOp (rIxL K) (tVar 2) (tUn (rU fun i => .int (-i)) (tC (.int 1)))) [some v1,some v2,some (V.ref a),some x] (PtV t) := y_ixL RW0 (y_rU y_c) (by rw [List.reverse_cons]; exact atI_last _ _)
   refine s_ifq (b := Vbchal.same t.q p.q) ((yt_and (yt_tst (y_rI0 (y_len RW0) y_c)) fun _ => yt_tst (y_eqF (y_q T1) (y_q (y_var rfl fp)))).eq (by simp)) (fun e H3 s3 => ?_) fun e H3 s3 => ?_
   ·obtain ⟨n5,hR6⟩ := Rpop (Rup hR s3) (s3 _ _ ev)
    refine s_pop1 rfl (s3 _ _ ev) n5 ?_
    exact go rest _ (by simp at hsl; omega) hR6 (TkV.tk (MuL.upd (s3 _ _ ev)).tk (Mono.up s3 fp)) (by rw [unsame,if_pos e]) _ rfl
   ·exact go (t :: rest) H3 hsl (Rup hR s3) (Mono.up s3 fp) (by rw [unsame,if_neg (by rw [e]; decide)]) _ rfl
 ·rintro σ H' ⟨pt,st,rfl,est,_,sH,_,_,hm,vs,ev,fv⟩
  refine s_ret (P := AndV (RowV (upperP M)) (EqV (.ref a))) (y_var rfl ⟨⟨a,vs,rfl,ev,?_⟩,rfl⟩) fun v H5 s5 hv => ?_
  ·rw [fb.len,List.take_length] at est
   rw [upperP,<- est]
   exact fv
  ·refine q v H5 (sH.trans s5) ?_ ⟨a,hv.2,na⟩
   show RowV (upperP (mergeP l r)) H5 v
   rw [hMe]
   exact hv.1
section
variable {H0 : Hp} {σ : L2.St} {ta tb tc : TE} {E : XK}
theorem y_upper {l r : List Point} (ha : Yd H0 ta σ (RowV l)) (hb : Yd H0 tb σ (RowV r)) (h : MidR l /\ MidR r /\ l.length <= 100 /\ r.length <= 100) : Yd H0 (tCall sp_upper_row [] E (tCons ta (tCons tb tNil))) σ (AndV (RowV (upperP (mergeP l r))) (NewV H0)) :=
 y_callN (l,r) (ya_cons ha (ya_cons hb ya_nil)) h fun _ _ _ _ q => q
end
def sp_value_at : Sp := spA (ι := List Point × Frac) (fun i => [RowV i.1,FrV i.2]) (fun i => SRow i.1 /\ MidR i.1 /\ i.1 ≠ [] /\ Ft 60 40 i.2 /\ val (Vbchal.firstQ i.1) <= val i.2 /\ val i.2 <= val (Vbchal.lastQ i.1)) (fun i => FrV (Vbchal.valueAt i.2 i.1))
theorem ok_value_at (T : Txt K mg A) : FnOk P w K mg base CX0 5 A.f_value_at A.d_value_at p_value_at (sp_value_at) := by
 refine T.F_value_at.ok sc_value_at (spA_len fun _ => rfl) fun cdv Ao outer s H vs Q E hr hsp => ?_
 obtain ⟨⟨l,x⟩,⟨v1,_,rfl,h1,v2,_,rfl,h2,rfl⟩,⟨sr,ml,hn,fx,hlo,hhi⟩,q⟩ := hsp
 have sr : SRow l := sr
 have fx : Ft 60 40 x := fx
 have hlo : val (Vbchal.firstQ l) <= val x := hlo
 have hhi : val x <= val (Vbchal.lastQ l) := hhi
 have hn : l ≠ [] := hn
 refine ⟨_,(pss_cons (ps_set (i := 2) sc_value_at.nd rfl (Or.inl rfl) pe_int)
   (pss_cons (ps_while PassesOwn.never (pt_val (pe_call (ok_less T) (hr.mono (by decide)) rfl T.m_less T.F_less.kp T.b_less .nil pass0 (pa_cons (pe_ix ix_tup (pe_ix ix_list (pv 0) (pv 2) (fun _ _ => rfl)) pe_int (fun _ _ => rfl)) (pa_cons (pv 1) pa_nil)))) (pss_one (ps_aug (i := 2) sc_value_at.nd rfl (Or.inl rfl) pe_int ip_add)))
   (pss_cons (ps_set (i := 3) sc_value_at.nd rfl (Or.inl rfl) (pe_ix ix_list (pv 0) (pv 2) (fun _ _ => rfl)))
   (pss_cons (ps_if (pt_cmpR (op_eqD hr.units) (pe_ix ix_tup (pv 3) pe_int (fun _ _ => rfl)) (pv 1) (nomark _)) (pss_one (ps_ret (pe_ix ix_tup (pv 3) pe_int (fun _ _ => rfl)))) pss_nil)
   (pss_cons (ps_set (i := 4) sc_value_at.nd rfl (Or.inl rfl) (pe_ix ix_list (pv 0) (pe_op op_sub (pv 2) pe_int) (fun _ _ => rfl)))
   (pss_one (ps_ret (pe_call (ok_plus T) (hr.mono (by decide)) rfl T.m_plus T.F_plus.kp T.b_plus .nil pass0 (pa_cons (pe_ix ix_tup (pv 4) pe_int (fun _ _ => rfl)) (pa_cons (pe_call (ok_times T) (hr.mono (by decide)) rfl T.m_times T.F_times.kp T.b_times .nil pass0 (pa_cons (pe_call (ok_piece_slope T) (hr.mono (by decide)) rfl T.m_piece_slope T.F_piece_slope.kp T.b_piece_slope .nil pass0 (pa_cons (pv 4) (pa_cons (pv 3) pa_nil))) (pa_cons (pe_call (ok_minus T) (hr.mono (by decide)) rfl T.m_minus T.F_minus.kp T.b_minus .nil pass0 (pa_cons (pv 1) (pa_cons (pe_ix ix_tup (pv 4) pe_int (fun _ _ => rfl)) pa_nil))) pa_nil))) pa_nil)))))))))),?_⟩
 refine s_set y_c fun vp H1 s1 e1 => ?_
 cases e1
 have hlen : 0 < l.length := List.length_pos_iff.mpr hn
 refine s_while (fun m σ H' => ∃ k : Nat,σ = [some v1,some v2,some (.int k),none,none] /\ m = l.length - k /\ k < l.length /\ Same H H' /\ ∀ p ∈ l.take k,val p.q < val x) l.length ⟨0,rfl,by omega,hlen,s1,by simp⟩ ?_
 rintro m σ H' ⟨k,rfl,rfl,hk,sH,hpre⟩
 have ek : l[k]? = some l[k] := List.getElem?_eq_getElem hk
 have mk : MidP l[k] := ml _ (List.getElem_mem hk)
 have RW : Yd H' (tVar 0) [some v1,some v2,some (V.int k),none,none] (RowV l) := y_var rfl (Mono.up sH h1)
 have QX : Yd H' (tVar 1) [some v1,some v2,some (V.int k),none,none] (FrV x) := y_var rfl (Mono.up sH h2)
 have RK : Yd H' (tOp (rIxL K) (tVar 0) (tVar 2)) [some v1,some v2,some (V.int k),none,none] (PtV l[k]) := y_ixL RW (y_var (P := IntV k) rfl rfl) (atI_nat ek)
 refine ⟨_,yt_tB (y_less (y_q RK) QX (okL mk.q fx (by decide))),fun H2 s2 => ?_⟩
 have split : l = l.take k ++ l[k] :: l.drop (k + 1) := by rw [<- drop_at ek,List.take_append_drop]
 by_cases hb : Vbchal.less l[k].q x = true
 ·refine iteT' hb ?_
  have hb' := (less_iff mk.q.1 fx.1).mp hb
  refine s_aug1 (y := 1) rfl y_c fun H3 s3 => ⟨l.length - (k + 1),by omega,k + 1,rfl,rfl,?_,sH.trans (s2.trans s3),fun p hp => ?_⟩
  ·rcases Nat.lt_or_ge (k + 1) l.length with h | h
   ·exact h
   ·exfalso
    have e : l.getLast? = some l[k] := by
     rw [List.getLast?_eq_getElem?]
     have : l.length - 1 = k := by omega
     rw [this]; exact ek
    rw [lastQ_of e] at hhi
    grind
  ·rw [List.take_succ,ek] at hp
   rcases List.mem_append.mp hp with z | z
   ·exact hpre p z
   ·have : p = l[k] := by simpa using z
    rw [this]; exact hb'
 ·refine iteF' (by simpa using hb) ?_
  have hge : val x <= val l[k].q := by
   have := fun z => hb ((less_iff mk.q.1 fx.1).mpr z)
   grind
  have h0 : l.take k = [] -> val l[k].q <= val x := fun z => by
   have e : l.head? = some l[k] := by
    conv => lhs; rw [split,z]
    rfl
   rw [firstQ_of e] at hlo
   exact hlo
  have spec := value_split fx.1 (l.take k) l[k] (l.drop (k + 1)) (by rw [<- split]; exact sr) hpre hge h0
  rw [<- split] at spec
  refine s_set (RK.base s2) fun v3 H3 s3 h3 => ?_
  have QX3 : FrV x H3 v2 := Mono.up (sH.trans (s2.trans s3)) h2
  refine s_ifq (yt_tst (y_eqF (y_q (y_var rfl h3)) (y_var rfl QX3))) (fun e H4 s4 => ?_) (fun e H4 s4 => ?_)
  ·refine s_ret (y_v (y_var rfl (Mono.up s4 h3))) fun v H5 s5 h => q v H5 (sH.trans (s2.trans (s3.trans (s4.trans s5)))) ?_
   show FrV (Vbchal.valueAt x l) H5 v
   rw [spec,if_pos e]
   exact h
  ·rw [if_neg (by rw [e]; decide)] at spec
   have hk0 : k ≠ 0 := fun z => by
    subst z
    have a := h0 (by simp)
    have := same_iff.mpr (val_inj mk.q.1 fx.1 (Rat.le_antisymm a hge))
    rw [this] at e
    cases e
   have hk1 : k - 1 < l.length := by omega
   have ek1 : l[k - 1]? = some l[k - 1] := List.getElem?_eq_getElem hk1
   have mk1 : MidP l[k - 1] := ml _ (List.getElem_mem hk1)
   have elast : (l.take k).getLast? = some l[k - 1] := by
    rw [List.getLast?_take,if_neg hk0,ek1]
    rfl
   rw [elast] at spec
   have hlt : val l[k - 1].q < val l[k].q := by
    have := hpre l[k - 1] (List.mem_of_getLast? elast)
    have ne : val l[k].q ≠ val x := fun z => by
     have := same_iff.mpr (val_inj mk.q.1 fx.1 z)
     rw [this] at e
     cases e
    grind
   have sH4 := sH.trans (s2.trans (s3.trans s4))
   refine s_set (P := PtV l[k - 1]) (y_ixL (y_var rfl (Mono.up sH4 h1)) (y_rI0 (y_var (P := IntV k) rfl rfl) y_c) ?_) fun v5 H5 s5 h5 => ?_
   ·exact at_ofG (by show (k : Int) - 1 = ((k - 1 : Nat) : Int); omega) ek1
   have fs : Ft (max (1100 + 1000) (1100 + 1000) + 1 + (40 + 40)) (1000 + 1000 + (max (60 + 40) (60 + 40) + 1)) (slope l[k - 1] l[k]) := (mk.v.sub mk1.v).over (mk.q.sub mk1.q) (diff_pos mk1.wf mk.wf hlt)
   have QX5 : FrV x H5 v2 := Mono.up (s4.trans s5) QX3
   have P3 : PtV l[k] H5 v3 := Mono.up (s4.trans s5) h3
   refine s_ret (y_plus (y_v (y_var rfl h5)) (y_times (y_slope (y_var rfl h5) (y_var rfl P3) mk1 mk hlt) (y_minus (y_var rfl QX5) (y_q (y_var rfl h5)) (ok2 fx mk1.q (by decide))) (ok2 fs (fx.sub mk1.q) (by decide))) (ok2 mk1.v (fs.mul (fx.sub mk1.q)) (by decide))) fun v H6 s6 h => q v H6 (sH4.trans (s5.trans s6)) ?_
   show FrV (Vbchal.valueAt x l) H6 v
   rw [spec]
   exact h
section
variable {H0 : Hp} {σ : L2.St} {ta tb tc : TE} {E : XK}
theorem y_value {l : List Point} {x : Frac} (ha : Yd H0 ta σ (RowV l)) (hb : Yd H0 tb σ (FrV x)) (h : SRow l /\ MidR l /\ l ≠ [] /\ Ft 60 40 x /\ val (Vbchal.firstQ l) <= val x /\ val x <= val (Vbchal.lastQ l)) : Yd H0 (tCall sp_value_at [] E (tCons ta (tCons tb tNil))) σ (FrV (Vbchal.valueAt x l)) :=
 y_call (l,x) (ya_cons ha (ya_cons hb ya_nil)) h
end
def sp_cut_row : Sp := spN (ι := List Point × Frac × Frac) (fun i => [RowV i.1,FrV i.2.1,FrV i.2.2]) (fun i => SRow i.1 /\ MidR i.1 /\ i.1 ≠ [] /\ Ft 14 0 i.2.1 /\ Ft 14 0 i.2.2 /\ i.1.length <= 200) (fun i _ => RowV (Vbchal.between i.2.1 i.2.2 i.1))
theorem ok_cut_row (T : Txt K mg A) : FnOk P w K mg base CX0 6 A.f_cut_row A.d_cut_row p_cut_row (sp_cut_row) := by
 refine T.F_cut_row.ok sc_cut_row (spN_len fun _ => rfl) fun cdv Ao outer s H vs Q E hr hsp => ?_
 obtain ⟨⟨l,lo,hi⟩,⟨v1,_,rfl,h1,v2,_,rfl,h2,v3,_,rfl,h3,rfl⟩,⟨sr,ml,hn,flo,fhi,hlen⟩,q⟩ := hsp
 have sr : SRow l := sr
 have ml : MidR l := ml
 have hn : l ≠ [] := hn
 have flo : Ft 14 0 lo := flo
 have fhi : Ft 14 0 hi := fhi
 have hlen : l.length <= 200 := hlen
 refine ⟨_,(pss_cons (ps_set (i := 3) sc_cut_row.nd rfl (Or.inr rfl) (pe_call (ok_greater T) (hr.mono (by decide)) rfl T.m_greater T.F_greater.kp T.b_greater .nil pass0 (pa_cons (pv 1) (pa_cons (pe_ix ix_tup (pe_ix ix_list (pv 0) pe_int (fun _ _ => rfl)) pe_int (fun _ _ => rfl)) pa_nil))))
   (pss_cons (ps_set (i := 4) sc_cut_row.nd rfl (Or.inr rfl) (pe_call (ok_lesser T) (hr.mono (by decide)) rfl T.m_lesser T.F_lesser.kp T.b_lesser .nil pass0 (pa_cons (pv 2) (pa_cons (pe_ix ix_tup (pe_ix ix_list (pv 0) (pe_un un_neg pe_int) (fun _ _ => rfl)) pe_int (fun _ _ => rfl)) pa_nil))))
   (pss_cons (ps_if (pt_val (pe_call (ok_less T) (hr.mono (by decide)) rfl T.m_less T.F_less.kp T.b_less .nil pass0 (pa_cons (pv 4) (pa_cons (pv 3) pa_nil)))) (pss_one (ps_ret (pe_lst pa_nil))) pss_nil)
   (pss_cons (ps_if (pt_cmpR (op_eqD hr.units) (pv 3) (pv 4) (nomark _)) (pss_one (ps_ret (pe_lst (pa_cons (pe_tup (pa_cons (pv 3) (pa_cons (pe_call (ok_value_at T) (hr.mono (by decide)) rfl T.m_value_at T.F_value_at.kp T.b_value_at .nil pass0 (pa_cons (pv 0) (pa_cons (pv 3) pa_nil))) pa_nil))) pa_nil)))) pss_nil)
   (pss_cons (ps_setLc (i := 5) rfl sc_cut_row.nd rfl rfl (sw_true rfl rfl rfl rfl) (tt := tAnd (tB (tCall sp_less [] E0 (tCons (tVar 3) (tCons (tOp (rIxT K) (tVar 6) (tC (.int 0))) tNil)))) (tB (tCall sp_less [] E0 (tCons (tOp (rIxT K) (tVar 6) (tC (.int 0))) (tCons (tVar 4) tNil))))) (own := [("point",6)]) (pi_list (pv 0)) (blkOk_by (N := n_cut_row) (sc := defScope s_cut_row) (by decide +kernel)) (fun _ _ _ _ _ => (pg_name (i := 6) sc_cut_row.nd rfl (Or.inl rfl) (.inr rfl))) (fun _ _ _ _ _ => (pts_one (PW.pt (pw_and (pt_val (pe_call (ok_less T) (hr.mono (by decide)) rfl T.m_less T.F_less.kp T.b_less .nil pass0 (pa_cons (pv 3) (pa_cons (pe_ix ix_tup (pv 6) pe_int (fun _ _ => rfl)) pa_nil)))) (pw_and1 (pt_val (pe_call (ok_less T) (hr.mono (by decide)) rfl T.m_less T.F_less.kp T.b_less .nil pass0 (pa_cons (pe_ix ix_tup (pv 6) pe_int (fun _ _ => rfl)) (pa_cons (pv 4) pa_nil))))))))) (fun _ _ _ _ _ => (pv 6)))
   (pss_one (ps_ret (pe_op op_cat (pe_op op_cat (pe_lst (pa_cons (pe_tup (pa_cons (pv 3) (pa_cons (pe_call (ok_value_at T) (hr.mono (by decide)) rfl T.m_value_at T.F_value_at.kp T.b_value_at .nil pass0 (pa_cons (pv 0) (pa_cons (pv 3) pa_nil))) pa_nil))) pa_nil)) (pv 5)) (pe_lst (pa_cons (pe_tup (pa_cons (pv 4) (pa_cons (pe_call (ok_value_at T) (hr.mono (by decide)) rfl T.m_value_at T.F_value_at.kp T.b_value_at .nil pass0 (pa_cons (pv 0) (pa_cons (pv 4) pa_nil))) pa_nil))) pa_nil)))))))))),?_⟩
 obtain ⟨pa,hpa⟩ := head_of hn
 obtain ⟨pb,hpb⟩ := last_of hn
 have ma : MidP pa := ml pa (List.mem_of_mem_head? hpa)
 have mb : MidP pb := ml pb (List.mem_of_getLast? hpb)
 have eA : cutA lo l = Vbchal.greater lo pa.q := by unfold cutA; rw [firstQ_of hpa]
 have eB : cutB hi l = Vbchal.lesser hi pb.q := by unfold cutB; rw [lastQ_of hpb]
 have fA : Ft 60 40 (cutA lo l) := by rw [eA]; exact greater_ind (flo.mono (by decide) (by decide)) ma.q
 have fB : Ft 60 40 (cutB hi l) := by rw [eB]; exact lesser_ind (fhi.mono (by decide) (by decide)) mb.q
 have vA : val (cutA lo l) = max (val lo) (val pa.q) := by rw [eA]; exact val_greater flo.1 ma.q.1
 have vB : val (cutB hi l) = min (val hi) (val pb.q) := by rw [eB]; exact val_lesser fhi.1 mb.q.1
 have def_ := between_def lo hi hn
 have a0 : atI l 0 = some pa := by
  cases l with
  | nil => exact absurd rfl hn
  | cons z zs => exact atI_nat (j := 0) hpa
 have a1 : atI l (-1) = some pb := by
  obtain ⟨ys,e⟩ := List.getLast?_eq_some_iff.mp hpb
  rw [e]; exact atI_last _ _
 refine s_set (P := FrV (cutA lo l)) (by rw [eA]; exact y_greater (y_var rfl h2) (y_q (y_ixL (y_var rfl h1) y_c a0)) (okL flo ma.q (by decide))) fun v4 H4 s4 h4 => ?_
 refine s_set (P := FrV (cutB hi l)) (by rw [eB]; exact y_lesser (y_var rfl (Mono.up s4 h3)) (y_q (y_ixL (y_var rfl (Mono.up s4 h1)) (y_rU y_c) a1)) (okL fhi mb.q (by decide))) fun v5 H5 s5 h5 => ?_
 have h4 : FrV (cutA lo l) H5 v4 := Mono.up s5 h4
 have h1 : RowV l H5 v1 := Mono.up (s4.trans s5) h1
 refine s_ifq (yt_tB (y_less (y_var rfl h5) (y_var rfl h4) (okL fB fA (by decide)))) (fun e H6 s6 => ?_) (fun e H6 s6 => ?_)
 ·rw [if_pos e] at def_
  refine s_ret (y_lst (F := PtV) (l := []) (by decide) yl_nil) fun v H7 s7 h => q v H7 (s4.trans (s5.trans (s6.trans s7))) ?_ (h.2.old (s4.trans (s5.trans s6)))
  show RowV (Vbchal.between lo hi l) H7 v
  rw [def_]; exact h.1
 ·rw [if_neg (by rw [e]; decide)] at def_
  have hAB : val (cutA lo l) <= val (cutB hi l) := by
   have n : ¬ val (cutB hi l) < val (cutA lo l) := fun z => by rw [(less_iff fB.1 fA.1).mpr z] at e; cases e
   grind
  have fQ : val (Vbchal.firstQ l) = val pa.q := by rw [firstQ_of hpa]
  have lQ : val (Vbchal.lastQ l) = val pb.q := by rw [lastQ_of hpb]
  have okA : SRow l /\ MidR l /\ l ≠ [] /\ Ft 60 40 (cutA lo l) /\ val (Vbchal.firstQ l) <= val (cutA lo l) /\ val (cutA lo l) <= val (Vbchal.lastQ l) := ⟨sr,ml,hn,fA,by grind,by grind⟩
  have okB : SRow l /\ MidR l /\ l ≠ [] /\ Ft 60 40 (cutB hi l) /\ val (Vbchal.firstQ l) <= val (cutB hi l) /\ val (cutB hi l) <= val (Vbchal.lastQ l) := ⟨sr,ml,hn,fB,by grind,by grind⟩
  refine s_ifq (yt_tst (y_eqF (y_var rfl (Mono.up s6 h4)) (y_var rfl (Mono.up s6 h5)))) (fun e2 H7 s7 => ?_) (fun e2 H7 s7 => ?_)
  ·rw [if_pos e2] at def_
   have h47 : FrV (cutA lo l) H7 v4 := Mono.up (s6.trans s7) h4
   refine s_ret (y_lst (F := PtV) (l := [⟨cutA lo l,Vbchal.valueAt (cutA lo l) l⟩]) (by simp) (yl_cons (y_point (y_var rfl h47) (y_value (y_var rfl (Mono.up (s6.trans s7) h1)) (y_var rfl h47) okA)) yl_nil)) fun v H8 s8 h => q v H8 (s4.trans (s5.trans (s6.trans (s7.trans s8)))) ?_ (h.2.old (s4.trans (s5.trans (s6.trans s7))))
   show RowV (Vbchal.between lo hi l) H8 v
   rw [def_]; exact h.1
  ·rw [if_neg (by rw [e2]; decide)] at def_
   have h47 : FrV (cutA lo l) H7 v4 := Mono.up (s6.trans s7) h4
   have h57 : FrV (cutB hi l) H7 v5 := Mono.up (s6.trans s7) h5
   have h17 : RowV l H7 v1 := Mono.up (s6.trans s7) h1
   refine s_set (y_lc (F := PtV) (f := id) (p := fun p => Vbchal.less (cutA lo l) p.q && Vbchal.less p.q (cutB hi l)) (Nat.le_of_lt (small1000 (by omega))) (yi_list (y_var rfl h17)) fun y x H8 hy s8 hE => ?_) fun v6 H8 s8 h6 => ?_
   ·have my := ml y hy
    refine ⟨_,g_name,rfl,yt_and (yt_tB (y_less (y_var rfl (Mono.up s8 h47)) (y_q (y_var rfl hE)) (okL fA my.q (by decide)))) (fun _ => yt_tB (y_less (y_q (y_var rfl hE)) (y_var rfl (Mono.up s8 h57)) (okL my.q fB (by decide)))),fun _ => y_var (P := PtV y) rfl hE⟩
   ·have h6 : RowV (l.filter fun p => Vbchal.less (cutA lo l) p.q && Vbchal.less p.q (cutB hi l)) H8 v6 := by
     have := h6.1
     rw [List.map_id] at this
     exact this
    have h48 : FrV (cutA lo l) H8 v4 := Mono.up s8 h47
    have h58 : FrV (cutB hi l) H8 v5 := Mono.up s8 h57
    have h18 : RowV l H8 v1 := Mono.up s8 h17
    have lf := List.length_filter_le (fun p : Point => Vbchal.less (cutA lo l) p.q && Vbchal.less p.q (cutB hi l)) l
    have Y1 := (y_lst (F := PtV) (l := [⟨cutA lo l,Vbchal.valueAt (cutA lo l) l⟩]) (by simp) (yl_cons (y_point (y_var (σ := [some v1,some v2,some v3,some v4,some v5,some v6,none]) (i := 3) rfl h48) (y_value (E := E0) (ta := tVar 0) (tb := tVar 3) (y_var rfl h18) (y_var rfl h48) okA)) yl_nil)).l
    have Y2 := (y_lst (F := PtV) (l := [⟨cutB hi l,Vbchal.valueAt (cutB hi l) l⟩]) (by simp) (yl_cons (y_point (y_var (σ := [some v1,some v2,some v3,some v4,some v5,some v6,none]) (i := 4) rfl h58) (y_value (E := E0) (ta := tVar 0) (tb := tVar 4) (y_var rfl h18) (y_var rfl h58) okB)) yl_nil)).l
    refine s_ret (y_cat (F := PtV) (Nat.le_of_lt (small1000 (by simp; omega))) (y_cat (F := PtV) (Nat.le_of_lt (small1000 (by simp; omega))) Y1 (y_var rfl h6)).l Y2) fun v H9 s9 h => q v H9 (s4.trans (s5.trans (s6.trans (s7.trans (s8.trans s9))))) ?_ (h.2.old (s4.trans (s5.trans (s6.trans (s7.trans s8)))))
    show RowV (Vbchal.between lo hi l) H9 v
    rw [def_]; exact h.1
section
variable {H0 : Hp} {σ : L2.St} {ta tb tc : TE} {E : XK}
theorem y_cut {l : List Point} {lo hi : Frac} (ha : Yd H0 ta σ (RowV l)) (hb : Yd H0 tb σ (FrV lo)) (hc : Yd H0 tc σ (FrV hi)) (h : SRow l /\ MidR l /\ l ≠ [] /\ Ft 14 0 lo /\ Ft 14 0 hi /\ l.length <= 200) : Yd H0 (tCall sp_cut_row [] E (tCons ta (tCons tb (tCons tc tNil)))) σ (AndV (RowV (Vbchal.between lo hi l)) (NewV H0)) :=
 y_callN (l,lo,hi) (ya_cons ha (ya_cons hb (ya_cons hc ya_nil))) h fun _ _ _ _ q => q
end
structure BigP (p : Point) : Prop where
 q : Ft 100 100 p.q
 v : Ft 3200 3200 p.v
theorem BigP.wf {p : Point} (h : BigP p) : PtWf p := ⟨h.q.1,h.v.1⟩
theorem term_ft {p : Point} {x : Frac} (h : BigP p) (fx : Ft 40 0 x) : Ft 3400 3300 (Vbchal.sub p.v (Vbchal.mul p.q x)) := (h.v.sub (h.q.mul fx)).mono (by decide) (by decide)
theorem mostP_ft {x : Frac} (fx : Ft 40 0 x) : ∀ {l : List Point} {f : Frac},Ft 3400 3300 f -> (∀ p ∈ l,BigP p) -> Ft 3400 3300 (mostP x f l)
 | [],f,hf,_ => hf
 | p :: l,f,hf,h => mostP_ft (l := l) fx (greater_ind hf (term_ft (h p (by simp)) fx)) fun y hy => h y (List.mem_cons_of_mem _ hy)
theorem mostP_take {x f : Frac} {l : List Point} {i : Nat} {p : Point} (h : l[i]? = some p) : mostP x f (l.take (i + 1)) = Vbchal.greater (mostP x f (l.take i)) (Vbchal.sub p.v (Vbchal.mul p.q x)) := by
 unfold mostP
 rw [List.take_succ,h,List.foldl_append]
 rfl
def sp_least_cash : Sp := spA (ι := List Point × Frac) (fun i => [RowV i.1,FrV i.2]) (fun i => (∀ p ∈ i.1,BigP p) /\ i.1 ≠ [] /\ Ft 40 0 i.2) (fun i => FrV (Vbchal.most i.2 i.1))
theorem ok_least_cash (T : Txt K mg A) : FnOk P w K mg base CX0 4 A.f_least_cash A.d_least_cash p_least_cash (sp_least_cash) := by
 refine T.F_least_cash.ok sc_least_cash (spA_len fun _ => rfl) fun cdv Ao outer s H vs Q E hr hsp => ?_
 obtain ⟨⟨l,x⟩,⟨v1,_,rfl,h1,v2,_,rfl,h2,rfl⟩,⟨bl,hn,fx⟩,q⟩ := hsp
 have bl : ∀ p ∈ l,BigP p := bl
 have hn : l ≠ [] := hn
 have fx : Ft 40 0 x := fx
 refine ⟨_,(pss_cons (ps_set (i := 2) sc_least_cash.nd rfl (Or.inl rfl) (pe_call (ok_minus T) (hr.mono (by decide)) rfl T.m_minus T.F_minus.kp T.b_minus .nil pass0 (pa_cons (pe_ix ix_tup (pe_ix ix_list (pv 0) pe_int (fun _ _ => rfl)) pe_int (fun _ _ => rfl)) (pa_cons (pe_call (ok_times T) (hr.mono (by decide)) rfl T.m_times T.F_times.kp T.b_times .nil pass0 (pa_cons (pe_ix ix_tup (pe_ix ix_list (pv 0) pe_int (fun _ _ => rfl)) pe_int (fun _ _ => rfl)) (pa_cons (pv 1) pa_nil))) pa_nil))))
   (pss_cons (ps_for PassesOwn.never rfl (pi_list (pv 0)) (pg_tup rfl (pgs_cons (pg_name (i := 3) sc_least_cash.nd rfl (Or.inl rfl)) (pgs_cons (pg_name (i := 4) sc_least_cash.nd rfl (Or.inl rfl)) pgs_nil))) (pss_one (ps_set (i := 2) sc_least_cash.nd rfl (Or.inl rfl) (pe_call (ok_greater T) (hr.mono (by decide)) rfl T.m_greater T.F_greater.kp T.b_greater .nil pass0 (pa_cons (pv 2) (pa_cons (pe_call (ok_minus T) (hr.mono (by decide)) rfl T.m_minus T.F_minus.kp T.b_minus .nil pass0 (pa_cons (pv 4) (pa_cons (pe_call (ok_times T) (hr.mono (by decide)) rfl T.m_times T.F_times.kp T.b_times .nil pass0 (pa_cons (pv 3) (pa_cons (pv 1) pa_nil))) pa_nil))) pa_nil))))))
   (pss_one (ps_ret (pv 2))))),?_⟩
 obtain ⟨p,l',rfl⟩ : ∃ p l',l = p :: l' := by
  cases l with
  | nil => exact absurd rfl hn
  | cons p l' => exact ⟨p,l',rfl⟩
 have bp := bl p (by simp)
 have a0 : atI (p :: l') 0 = some p := atI_nat (j := 0) rfl
 refine s_set (P := FrV (Vbchal.sub p.v (Vbchal.mul p.q x))) (y_minus (y_v (y_ixL (y_var rfl h1) y_c a0)) (y_times (y_q (y_ixL (y_var rfl h1) y_c a0)) (y_var rfl h2) (ok2 bp.q fx (by decide))) (ok2 bp.v (bp.q.mul fx) (by decide))) fun v3 H3 s3 h3 => ?_
 have f0 := term_ft bp fx
 refine s_for (yi_list (F := PtV) (l := p :: l') (y_var rfl (Mono.up s3 h1))) (fun i σ H' => ∃ vf a b,σ = [some v1,some v2,some vf,a,b] /\ FrV (mostP x (Vbchal.sub p.v (Vbchal.mul p.q x)) ((p :: l').take i)) H' vf) (fun H' s' => ⟨v3,none,none,rfl,Mono.up s' h3⟩) ?_ ?_
 ·rintro i y z σ H4 H5 hz s4 s5 ⟨vf,a,b,rfl,hf⟩ hE
  obtain ⟨T',u',w',rfl,hT,hq,hv⟩ := hE
  have bz := bl z (List.mem_of_getElem? hz)
  refine g_pair hT _ ?_
  have fi := mostP_ft fx f0 (l := (p :: l').take i) fun y hy => bl y (List.mem_of_mem_take hy)
  have h25 : FrV x H5 v2 := Mono.up (s3.trans (s4.trans s5)) h2
  refine s_set1 (y_greater (y_var rfl (Mono.up s5 hf)) (y_minus (y_var (P := FrV z.v) rfl hv) (y_times (y_var (P := FrV z.q) rfl hq) (y_var rfl h25) (ok2 bz.q fx (by decide))) (ok2 bz.v (bz.q.mul fx) (by decide))) (okL fi (term_ft bz fx) (by decide))) fun v6 H6 s6 h6 => ⟨s5.trans s6,v6,_,_,rfl,?_⟩
  rw [mostP_take hz]
  exact h6
 ·rintro σ H4 s4 ⟨vf,a,b,rfl,hf⟩
  rw [List.take_length,mostP_eq fx.1 fun y hy => (bl y hy).wf] at hf
  exact s_ret (y_var rfl hf) fun v H5 s5 h => q v H5 (s3.trans (s4.trans s5)) h
section
variable {H0 : Hp} {σ : L2.St} {ta tb tc : TE} {E : XK}
theorem y_least {l : List Point} {x : Frac} (ha : Yd H0 ta σ (RowV l)) (hb : Yd H0 tb σ (FrV x)) (h : (∀ p ∈ l,BigP p) /\ l ≠ [] /\ Ft 40 0 x) : Yd H0 (tCall sp_least_cash [] E (tCons ta (tCons tb tNil))) σ (FrV (Vbchal.most x l)) :=
 y_call (l,x) (ya_cons ha (ya_cons hb ya_nil)) h
theorem txt_cps (i : Int) : (txt i).cps.toList = (toString i).toList.map Char.toNat := by
 show (Str.ofString (toString i)).cps.toList = _
 rw [Str.ofString_eq_toList]
theorem int_text (i : Int) : (toString i).toList = (if i < 0 then ['-'] else []) ++ (toString i.natAbs).toList := by
 cases i with
 | ofNat m =>
  rw [if_neg (by show ¬ (m : Int) < 0; omega)]
  rfl
 | negSucc m =>
  rw [if_pos (Int.negSucc_lt_zero m)]
  show ("-" ++ toString (m + 1)).toList = _
  rw [String.toList_append]
  rfl
theorem nat_text_len {n k : Nat} (hk : 1 <= k) (h : n < 10 ^ k) : (toString n).toList.length <= k := by
 show (String.ofList (Nat.toDigits 10 n)).toList.length <= k
 rw [String.toList_ofList]
 exact toDigits_len_pow (by decide) hk h
theorem txt_len {i : Int} (h : i.natAbs < 10 ^ 4300) : (txt i).length <= 4301 := by
 have e : (txt i).length = (txt i).cps.toList.length := by show (txt i).cps.size = _; simp
 rw [e,txt_cps,List.length_map,int_text,List.length_append]
 have := nat_text_len (by decide) h
 split
 ·simp only [List.length_cons,List.length_nil]; omega
 ·simp only [List.length_nil]; omega
theorem str_app_len (a b : Str) : (a ++ b).length = a.length + b.length := by
 show (a.cps ++ b.cps).size = _
 rw [Array.size_append]; rfl
theorem str_app_cps (a b : Str) : (a ++ b).cps.toList = a.cps.toList ++ b.cps.toList := by
 show (a.cps ++ b.cps).toList = _
 rw [Array.toList_append]
theorem y_fs {i j : Int} {mid : Str} (ha : Yd H0 ta σ (IntV i)) (hb : Yd H0 tb σ (IntV j)) (h1 : i.natAbs < 10 ^ 4300) (h2 : j.natAbs < 10 ^ 4300) (hm : mid.length <= 10) : Yd H0 (tFs ta tb mid) σ (EqV (.str (Str.empty ++ txt i ++ mid ++ txt j))) := fun H Q s k =>
 ha H _ s fun v H1 s1 e1 => by
  have l0 : Str.empty.length = 0 := rfl
  have l1 := txt_len h1
  have l2 := txt_len h2
  have big : 20000 <= sizeLine := by decide
  refine ⟨i,e1,h1,?_,?_,hb H1 _ (s.trans s1) fun u H2 s2 e2 => ⟨j,e2,h2,?_,k _ H2 (s1.trans s2) rfl⟩⟩
  ·rw [str_app_len]; omega
  ·rw [str_app_len,str_app_len]; omega
  ·rw [str_app_len,str_app_len,str_app_len]; omega
theorem y_ord {c : Nat} (ha : Yd H0 ta σ (EqV (.str ⟨#[c]⟩))) : Yd H0 (tCB (fun xs H Q => ∃ x,xs = [.str x] /\ x.length = 1 /\ Q (.int (x.cps.getD 0 0 : Nat)) H) (tCons ta tNil)) σ (IntV (c : Int)) := fun H Q s k =>
 ha H _ s fun v H1 s1 e1 => by
  cases e1
  exact ⟨_,rfl,rfl,k _ H1 s1 rfl⟩
end
theorem frac_text {x : Frac} {mid : Str} (hm : mid.cps.toList = [47]) : ((Str.empty ++ txt x.num ++ mid ++ txt (x.den : Int)).cps.toList.map fun c : Nat => (c : Int)) = Vbchal.fracText x := by
 have e0 : Str.empty.cps.toList = [] := rfl
 have hd : ¬ ((x.den : Int) < 0) := by omega
 rw [str_app_cps,str_app_cps,str_app_cps,e0,hm,txt_cps,txt_cps,int_text x.num,int_text (x.den : Int),if_neg hd,Int.natAbs_natCast]
 unfold Vbchal.fracText Vbchal.decimal
 by_cases hn : x.num < 0
 ·rw [if_pos hn,if_pos hn]
  simp [List.map_map]
  rfl
 ·rw [if_neg hn,if_neg hn]
  simp [List.map_map]
  rfl
def Short (x : Frac) : Prop := x.num.natAbs < 10 ^ 4300 /\ x.den < 10 ^ 4300
def sp_text_bytes : Sp := spN (ι := Frac) (fun i => [FrV i]) (fun i => Short i) (fun i _ => IntsV (Vbchal.fracText i))
theorem text_len {x : Frac} (h : Short x) : (Vbchal.fracText x).length <= 9000 := by
 unfold Vbchal.fracText Vbchal.decimal
 have a := nat_text_len (by decide) h.1
 have b := nat_text_len (by decide) h.2
 rw [List.length_append,List.length_append,List.length_cons,List.length_map,List.length_map]
 split
 ·simp only [List.length_cons,List.length_nil]; omega
 ·simp only [List.length_nil]; omega
theorem ok_text_bytes (T : Txt K mg A) : FnOk P w K mg base CX0 1 A.f_text_bytes A.d_text_bytes p_text_bytes (sp_text_bytes) := by
 refine T.F_text_bytes.ok sc_text_bytes (spN_len fun _ => rfl) fun cdv Ao outer s H vs Q E hr hsp => ?_
 obtain ⟨x,⟨v1,_,rfl,h1,rfl⟩,⟨hx1,hx2⟩,q⟩ := hsp
 have h1 : FrV x H v1 := h1
 refine ⟨_,(pss_cons (ps_set (i := 1) sc_text_bytes.nd rfl (Or.inl rfl) (pe_ix ix_tup (pv 0) pe_int (fun _ _ => rfl)))
   (pss_cons (ps_set (i := 2) sc_text_bytes.nd rfl (Or.inl rfl) (pe_ix ix_tup (pv 0) pe_int (fun _ _ => rfl)))
   (pss_one (ps_ret (pe_lc (own := [("sign",3)]) rfl sc_text_bytes.nd (pi_str (pe_fs rfl (pv 1) (pv 2))) (blkOk_by (N := n_text_bytes) (sc := defScope s_text_bytes) (by decide +kernel)) (fun _ _ _ _ _ => (pg_name (i := 3) sc_text_bytes.nd rfl (Or.inl rfl) (.inr rfl))) (fun _ _ _ _ _ => pts_nil) (fun _ _ _ _ _ => (pe_callB call_ord (by rfl) T.n_ord boot_ord (pa_cons (pv 3) pa_nil)))))))),?_⟩
 refine s_set (y_num (y_var rfl h1)) fun v2 H2 s2 e2 => ?_
 cases e2
 refine s_set (y_den (y_var rfl (Mono.up s2 h1))) fun v3 H3 s3 e3 => ?_
 cases e3
 have hd : ((x.den : Int)).natAbs < 10 ^ 4300 := by rw [Int.natAbs_natCast]; exact hx2
 have Y := y_fs (σ := [some v1,some (V.int x.num),some (V.int (x.den : Int)),none]) (H0 := H3) (ta := tVar 1) (tb := tVar 2) (i := x.num) (j := (x.den : Int)) (mid := "/") (y_var rfl rfl) (y_var rfl rfl) hx1 hd (by decide)
 have et : ((Str.empty ++ txt x.num ++ Str.ofString "/" ++ txt (x.den : Int)).cps.toList.map fun c : Nat => (c : Int)) = Vbchal.fracText x := frac_text (by decide)
 refine s_ret (y_lcm (F := IntV) (f := fun c : Nat => (c : Int)) ?_ (yi_str Y) fun y z H' hy sH hE => ?_) fun v H4 s4 h => q v H4 (s2.trans (s3.trans s4)) ?_ (h.2.old (s2.trans s3))
 ·have := text_len (x := x) ⟨hx1,hx2⟩
  rw [<- et,List.length_map] at this
  exact Nat.le_trans this (by decide)
 ·exact ⟨_,g_name,rfl,y_ord (y_var rfl hE)⟩
 ·show IntsV (Vbchal.fracText x) H4 v
  rw [<- et]; exact h.1
section
variable {H0 : Hp} {σ : L2.St} {ta tb tc : TE} {E : XK}
theorem y_text {x : Frac} (ha : Yd H0 ta σ (FrV x)) (h : Short x) : Yd H0 (tCall sp_text_bytes [] E (tCons ta tNil)) σ (AndV (IntsV (Vbchal.fracText x)) (NewV H0)) := y_callN x (ya_cons ha ya_nil) h fun _ _ _ _ q => q
end
def sp_counted_bytes : Sp := spN (ι := Frac) (fun i => [FrV i]) (fun i => Short i) (fun i _ => IntsV (Vbchal.counted i))
theorem ok_counted_bytes (T : Txt K mg A) : FnOk P w K mg base CX0 2 A.f_counted_bytes A.d_counted_bytes p_counted_bytes (sp_counted_bytes) := by
 refine T.F_counted_bytes.ok sc_counted_bytes (spN_len fun _ => rfl) fun cdv Ao outer s H vs Q E hr hsp => ?_
 obtain ⟨x,⟨v1,_,rfl,h1,rfl⟩,hx,q⟩ := hsp
 have h1 : FrV x H v1 := h1
 have hx : Short x := hx
 refine ⟨_,(pss_cons (ps_set (i := 1) sc_counted_bytes.nd rfl (Or.inl rfl) (pe_call (ok_text_bytes T) (hr.mono (by decide)) rfl T.m_text_bytes T.F_text_bytes.kp T.b_text_bytes .nil pass0 (pa_cons (pv 0) pa_nil)))
   (pss_one (ps_ret (pe_op op_cat (pe_lst (pa_cons (pe_callB call_len_seq (by rfl) T.n_len boot_len (pa_cons (pv 1) pa_nil)) pa_nil)) (pv 1))))),?_⟩
 refine s_set (y_text (y_var rfl h1) hx).l fun v2 H2 s2 h2 => ?_
 have lt := text_len hx
 refine s_ret (y_cat (F := IntV) (l := [((Vbchal.fracText x).length : Int)]) ?_ (y_lst (F := IntV) (l := [((Vbchal.fracText x).length : Int)]) (by simp) (yl_cons (y_len (y_var rfl h2)) yl_nil)).l (y_var rfl h2)) fun v H3 s3 h => q v H3 (s2.trans s3) h.1 (h.2.old s2)
 show 1 + _ <= sizeLine
 exact Nat.le_trans (m := 9001) (by omega) (by decide)
section
variable {H0 : Hp} {σ : L2.St} {ta tb tc : TE} {E : XK}
theorem y_counted {x : Frac} (ha : Yd H0 ta σ (FrV x)) (h : Short x) : Yd H0 (tCall sp_counted_bytes [] E (tCons ta tNil)) σ (AndV (IntsV (Vbchal.counted x)) (NewV H0)) := y_callN x (ya_cons ha ya_nil) h fun _ _ _ _ q => q
end
section
variable {H0 H : Hp} {σ : L2.St} {te ta tb tc tv : TE} {R : VP} {D : Ends} {u : TS} {i : Nat} {a C dx : Addr} {f : Str} {fs : List (Str × V)} {E : XK}
theorem s_fld1 {P : VP} (h : Yd H tv σ P) (e : σ[i]? = some (some (.ref a))) (ha : H a = some (.ins C dx fs)) (c : Cls K C) (n : NoAttr K C f) (hl : fs.length < 1000) (k : ∀ y H',Same H H' -> P H' y -> D.nx σ (upd H' a (.ins C dx (putF f y fs)))) : sFld K (tVar i) tv f D σ H :=
 h H _ (Same.refl H) fun y H' s' hy => ⟨_,e,a,C,dx,fs,rfl,s' _ _ ha,c,n,hl,k y H' s' hy⟩
theorem s_fld {P : VP} (h : Yd H tv σ P) (e : σ[i]? = some (some (.ref a))) (ha : H a = some (.ins C dx fs)) (c : Cls K C) (n : NoAttr K C f) (hl : fs.length < 1000) (k : ∀ y H',Same H H' -> P H' y -> u D σ (upd H' a (.ins C dx (putF f y fs)))) : tSeq (sFld K (tVar i) tv f) u D σ H :=
 s_fld1 (D := { D with nx := u D }) h e ha c n hl k
def But (a : Addr) (H H' : Hp) : Prop := ∀ b o,b ≠ a -> H b = some o -> H' b = some o
theorem But.upd {H : Hp} {o : HO} : But a H (upd H a o) := fun b o' n e => by rw [upd_ne n]; exact e
theorem But.trans {H1 H2 H3 : Hp} (h : But a H1 H2) (h' : But a H2 H3) : But a H1 H3 := fun b o n e => h' b o n (h b o n e)
theorem But.of {H1 H2 : Hp} (h : Same H1 H2) : But a H1 H2 := fun b o _ e => h b o e
theorem Same.make {H1 H2 : Hp} {x dx C : Addr} (nx : H1 x = Option.none) (nd : H1 dx = Option.none) (h : But x (upd (upd H1 dx (.own x)) x (.ins C dx [])) H2) : Same H1 H2 := fun b o e => by
 have n1 := ne_of_none e nx
 exact h b o n1 (by rw [upd_ne n1,upd_ne (ne_of_none e nd)]; exact e)
def ClaimV (C : Addr) (c : Vbchal.Claim) : VP := fun H v => ∃ p dx u w,v = .ref p /\ H p = some (.ins C dx [("cash",u),("units",w)]) /\ IntsV c.cash H u /\ IntsV c.units H w
instance (C : Addr) (c : Vbchal.Claim) : Mono (ClaimV C c) := ⟨fun s ⟨p,dx,u,w,e,h,h1,h2⟩ => ⟨p,dx,u,w,e,s _ _ h,Mono.up s h1,Mono.up s h2⟩⟩
end
theorem few {f : Str} {v : V} : ∀ {fs : List (Str × V)} {n : Nat},fs.length <= n -> (putF f v fs).length <= n + 1
 | [],n,_ => by simp [putF]
 | (g,x) :: r,n,h => by
  unfold putF
  split
  ·simp only [List.length_cons] at h ⊢; omega
  ·cases n with
   | zero => simp at h
   | succ n =>
    have := few (f := f) (v := v) (fs := r) (n := n) (by simpa using h)
    simp only [List.length_cons]
    omega
theorem few1 {f : Str} {v : V} {fs : List (Str × V)} (h : fs.length <= 20) : (putF f v fs).length < 1000 := Nat.lt_of_le_of_lt (few h) (by decide)
def sp_Claim_init (C : Addr) : Sp := fun vs H Q _ => ∃ a dx u v,vs = [.ref a,u,v] /\ H a = some (.ins C dx []) /\ Q .non (upd H a (.ins C dx [("cash",u),("units",v)]))
theorem ok_Claim_init (T : Txt K mg A) : FnOk P w K mg base CX0 1 A.f_Claim_init A.d_Claim_init p_Claim_init (sp_Claim_init A.c_Claim) := by
 refine T.F_Claim_init.ok sc_Claim_init (fun vs H Q E ⟨a,dx,u,v,e,_⟩ => by rw [e]; rfl) fun cdv Ao outer s H vs Q E hr hsp => ?_
 obtain ⟨a,dx,u,v,rfl,ha,q⟩ := hsp
 refine ⟨_,(pss_cons (ps_fld (pv 0) (pv 1) rfl)
   (pss_one (ps_fld (pv 0) (pv 2) rfl))),?_⟩
 refine ⟨u,rfl,_,rfl,a,_,dx,[],rfl,ha,T.cl_Claim,T.na_Claim_cash,by decide,?_⟩
 refine ⟨v,rfl,_,rfl,a,_,dx,_,rfl,upd_same,T.cl_Claim,T.na_Claim_units,few1 (by decide),?_⟩
 rw [upd_upd]
 exact q
section
variable {H0 : Hp} {σ : L2.St} {ta tb tc : TE} {E : XK} {C : Addr}
theorem y_mkClaim {c : Vbchal.Claim} (ha : Yd H0 ta σ (IntsV c.cash)) (hb : Yd H0 tb σ (IntsV c.units)) : Yd H0 (tMake C (sp_Claim_init C) [] E (tCons ta (tCons tb tNil))) σ (AndV (ClaimV C c) (NewV H0)) := fun H Q s k =>
 ha H _ s fun v H1 s1 h1 => hb H1 _ (s.trans s1) fun u H2 s2 h2 x dx nx nd ne => by
  refine ⟨x,dx,v,u,rfl,upd_same,rfl,?_⟩
  have sm : Same H2 (upd (upd (upd H2 dx (.own x)) x (.ins C dx [])) x (.ins C dx [("cash",v),("units",u)])) := Same.make nx nd But.upd
  exact k _ _ (s1.trans (s2.trans sm)) ⟨⟨x,dx,v,u,rfl,upd_same,Mono.up (s2.trans sm) h1,Mono.up sm h2⟩,⟨x,rfl,(s.trans (s1.trans s2)).free nx⟩⟩
theorem y_cash (T : Txt K mg A) {c : Vbchal.Claim} (ha : Yd H0 ta σ (ClaimV A.c_Claim c)) : Yd H0 (tFld K ta "cash") σ (IntsV c.cash) := y_fld ha fun H v ⟨p,dx,u,w,e,h,h1,h2⟩ => ⟨p,_,dx,_,u,e,h,T.cl_Claim,T.na_Claim_cash,rfl,h1⟩
theorem y_units (T : Txt K mg A) {c : Vbchal.Claim} (ha : Yd H0 ta σ (ClaimV A.c_Claim c)) : Yd H0 (tFld K ta "units") σ (IntsV c.units) := y_fld ha fun H v ⟨p,dx,u,w,e,h,h1,h2⟩ => ⟨p,_,dx,_,w,e,h,T.cl_Claim,T.na_Claim_units,rfl,h2⟩
theorem y_rep {β : Type} {F : β -> VP} [∀ x,Mono (F x)] {x : β} {n : Nat} (hn : n <= 1000) (ha : Yd H0 ta σ (LsV F [x])) (hb : Yd H0 tb σ (IntV (n : Int))) : Yd H0 (tOp rRep ta tb) σ (AndV (LsV F (List.replicate n x)) (NewV H0)) := fun H Q s k =>
 ha H _ s fun v H1 s1 h1 => hb H1 _ (s.trans s1) fun u H2 s2 h2 => by
  obtain ⟨a,vs,rfl,ea,fa⟩ := (Mono.up s2 h1 : LsV F [x] H2 v)
  cases fa with
  | cons hf ht =>
   cases ht
   rename_i v0
   cases h2
   have el : ∀ n : Nat,(List.replicate n [v0]).flatten = List.replicate n v0 := fun n => by
    induction n with
    | zero => rfl
    | succ n ih => rw [List.replicate_succ,List.flatten_cons,ih]; rfl
   have fr : ∀ (Hx : Hp),F x Hx v0 -> ∀ n : Nat,All2 (fun u y => F y Hx u) (List.replicate n v0) (List.replicate n x) := fun Hx hf n => by
    induction n with
    | zero => exact .nil
    | succ n ih => exact .cons hf ih
   refine ⟨a,n,[v0],rfl,rfl,ea,by omega,by omega,by simp; exact Nat.le_of_lt (small1000 hn),fun p hp => k _ _ (s1.trans (s2.trans (Same.upd hp))) ⟨⟨p,_,rfl,upd_same,?_⟩,⟨p,rfl,(s.trans (s1.trans s2)).free hp⟩⟩⟩
   rw [Int.toNat_natCast,el]
   exact fr _ (Mono.up (Same.upd hp) hf) n
end
def sp_empty_claim (C : Addr) : Sp := spN (ι := Nat) (fun i => [IntV (i : Int)]) (fun i => i <= 100) (fun i _ => ClaimV C ⟨List.replicate (i + 1) 0,List.replicate (i + 1) 0⟩)
theorem ok_empty_claim (T : Txt K mg A) : FnOk P w K mg base CX0 3 A.f_empty_claim A.d_empty_claim p_empty_claim (sp_empty_claim A.c_Claim) := by
 refine T.F_empty_claim.ok sc_empty_claim (spN_len fun _ => rfl) fun cdv Ao outer s H vs Q E hr hsp => ?_
 obtain ⟨n,⟨v1,_,rfl,h1,rfl⟩,hn,q⟩ := hsp
 cases h1
 have hn : n <= 100 := hn
 refine ⟨_,(pss_one (ps_ret (pe_make T.mk_Claim (ok_Claim_init T) (hr.mono (by decide)) rfl T.m_Claim T.b_Claim_init .nil pass0 (pa_cons (pe_op op_rep (pe_lst (pa_cons pe_int pa_nil)) (pe_op op_add (pv 0) pe_int)) (pa_cons (pe_op op_rep (pe_lst (pa_cons pe_int pa_nil)) (pe_op op_add (pv 0) pe_int)) pa_nil))))),?_⟩
 have Y := (y_rep (H0 := H) (σ := start n_empty_claim [V.int (n : Int)]) (F := IntV) (x := 0) (n := n + 1) (by omega) (y_lst (F := IntV) (l := [0]) (by decide) (yl_cons y_c yl_nil)).l (Yd.eq (y_rI0 (f := fun i j => .int (i + j)) (tb := tC (.int 1)) (y_var (i := 0) (P := IntV n) rfl rfl) y_c) (by rfl))).l
 exact s_ret (y_mkClaim (c := ⟨List.replicate (n + 1) 0,List.replicate (n + 1) 0⟩) Y Y) fun v H' s' h => q v H' s' h.1 h.2
section
variable {H0 : Hp} {σ : L2.St} {ta tb tc : TE} {E : XK} {C : Addr}
theorem y_empty {n : Nat} (ha : Yd H0 ta σ (IntV (n : Int))) (h : n <= 100) : Yd H0 (tCall (sp_empty_claim C) [] E (tCons ta tNil)) σ (AndV (ClaimV C ⟨List.replicate (n + 1) 0,List.replicate (n + 1) 0⟩) (NewV H0)) := y_callN n (ya_cons ha ya_nil) h fun _ _ _ _ q => q
end
def sp_turned (C : Addr) : Sp := spN (ι := Vbchal.Claim) (fun c => [ClaimV C c]) (fun c => c.cash.length <= 100 /\ c.units.length <= 100) (fun c _ => ClaimV C ⟨c.cash.map fun n => -n,c.units.map fun n => -n⟩)
theorem ok_turned (T : Txt K mg A) : FnOk P w K mg base CX0 3 A.f_turned A.d_turned p_turned (sp_turned A.c_Claim) := by
 refine T.F_turned.ok sc_turned (spN_len fun _ => rfl) fun cdv Ao outer s H vs Q E hr hsp => ?_
 obtain ⟨c,⟨v1,_,rfl,h1,rfl⟩,⟨l1,l2⟩,q⟩ := hsp
 have h1 : ClaimV A.c_Claim c H v1 := h1
 have l1 : c.cash.length <= 100 := l1
 have l2 : c.units.length <= 100 := l2
 refine ⟨_,(pss_one (ps_ret (pe_make T.mk_Claim (ok_Claim_init T) (hr.mono (by decide)) rfl T.m_Claim T.b_Claim_init .nil pass0 (pa_cons (pe_lc (own := [("cash",1)]) rfl sc_turned.nd (pi_list (pe_fld (pv 0) rfl)) (blkOk_by (N := n_turned) (sc := defScope s_turned) (by decide +kernel)) (fun _ _ _ _ _ => (pg_name (i := 1) sc_turned.nd rfl (Or.inl rfl) (.inr rfl))) (fun _ _ _ _ _ => pts_nil) (fun _ _ _ _ _ => (pe_un un_neg (pv 1)))) (pa_cons (pe_lc (own := [("units",2)]) rfl sc_turned.nd (pi_list (pe_fld (pv 0) rfl)) (blkOk_by (N := n_turned) (sc := defScope s_turned) (by decide +kernel)) (fun _ _ _ _ _ => (pg_name (i := 2) sc_turned.nd rfl (Or.inl rfl) (.inr rfl))) (fun _ _ _ _ _ => pts_nil) (fun _ _ _ _ _ => (pe_un un_neg (pv 2)))) pa_nil))))),?_⟩
 refine s_ret (y_mkClaim (c := ⟨c.cash.map fun n => -n,c.units.map fun n => -n⟩) (y_lcm (F := IntV) (f := fun n => -n) (Nat.le_of_lt (small1000 (by omega))) (yi_list (y_cash T (y_var rfl h1))) fun y z H' hy sH hE => ⟨_,g_name,rfl,y_rU (f := fun i => .int (-i)) (i := y) (y_var rfl hE)⟩).l
  (y_lcm (F := IntV) (f := fun n => -n) (Nat.le_of_lt (small1000 (by omega))) (yi_list (y_units T (y_var rfl h1))) fun y z H' hy sH hE => ⟨_,g_name,rfl,y_rU (f := fun i => .int (-i)) (i := y) (y_var rfl hE)⟩).l) fun v H' s' h => q v H' s' h.1 h.2
def sp_together (C : Addr) : Sp := spN (ι := Vbchal.Claim × Vbchal.Claim) (fun c => [ClaimV C c.1,ClaimV C c.2]) (fun c => c.1.cash.length <= 100 /\ c.1.units.length <= 100)
 (fun c _ => ClaimV C ⟨(c.1.cash.zip c.2.cash).map fun z => z.1 + z.2,(c.1.units.zip c.2.units).map fun z => z.1 + z.2⟩)
theorem ok_together (T : Txt K mg A) : FnOk P w K mg base CX0 3 A.f_together A.d_together p_together (sp_together A.c_Claim) := by
 refine T.F_together.ok sc_together (spN_len fun _ => rfl) fun cdv Ao outer s H vs Q E hr hsp => ?_
 obtain ⟨⟨c,d⟩,⟨v1,_,rfl,h1,v2,_,rfl,h2,rfl⟩,⟨l1,l2⟩,q⟩ := hsp
 have h1 : ClaimV A.c_Claim c H v1 := h1
 have h2 : ClaimV A.c_Claim d H v2 := h2
 have l1 : c.cash.length <= 100 := l1
 have l2 : c.units.length <= 100 := l2
 refine ⟨_,(pss_cons (ps_setLc (i := 2) rfl sc_together.nd rfl rfl (sw_true rfl rfl rfl rfl) (g := gTup K 2 (gCons (gName 4) (gCons (gName 5) gNil))) (own := [("x",4),("y",5)]) (pi_zip rfl T.n_zip (pa_cons (pe_fld (pv 0) rfl) (pa_cons (pe_fld (pv 1) rfl) pa_nil))) (blkOk_by (N := n_together) (sc := defScope s_together) (by decide +kernel)) (fun _ _ _ _ _ => (pg_tup rfl (pgs_cons (pg_name (i := 4) sc_together.nd rfl (Or.inl rfl) (.inr rfl)) (pgs_cons (pg_name (i := 5) sc_together.nd rfl (Or.inl rfl) (.inr rfl)) pgs_nil)))) (fun _ _ _ _ _ => pts_nil) (fun _ _ _ _ _ => (pe_op op_add (pv 4) (pv 5))))
   (pss_cons (ps_setLc (i := 3) rfl sc_together.nd rfl rfl (sw_true rfl rfl rfl rfl) (g := gTup K 2 (gCons (gName 4) (gCons (gName 5) gNil))) (own := [("x",4),("y",5)]) (pi_zip rfl T.n_zip (pa_cons (pe_fld (pv 0) rfl) (pa_cons (pe_fld (pv 1) rfl) pa_nil))) (blkOk_by (N := n_together) (sc := defScope s_together) (by decide +kernel)) (fun _ _ _ _ _ => (pg_tup rfl (pgs_cons (pg_name (i := 4) sc_together.nd rfl (Or.inl rfl) (.inr rfl)) (pgs_cons (pg_name (i := 5) sc_together.nd rfl (Or.inl rfl) (.inr rfl)) pgs_nil)))) (fun _ _ _ _ _ => pts_nil) (fun _ _ _ _ _ => (pe_op op_add (pv 4) (pv 5))))
   (pss_one (ps_ret (pe_make T.mk_Claim (ok_Claim_init T) (hr.mono (by decide)) rfl T.m_Claim T.b_Claim_init .nil pass0 (pa_cons (pv 2) (pa_cons (pv 3) pa_nil))))))),?_⟩
 refine s_set (y_lcm (F := IntV) (f := fun z : Int × Int => z.1 + z.2) (Nat.le_of_lt (small1000 (by rw [List.length_zip]; omega))) (yi_zip (F := IntV) (G := IntV) (y_cash T (y_var rfl h1)) (y_cash T (y_var rfl h2))) fun y z H' hy sH hE => ?_).l fun v3 H3 s3 h3 => ?_
 ·obtain ⟨T',u',w',rfl,hT,hq,hv⟩ := hE
  exact ⟨_,g_pair hT,rfl,y_rI0 (f := fun i j => .int (i + j)) (i := y.1) (j := y.2) (y_var rfl hq) (y_var rfl hv)⟩
 refine s_set (y_lcm (F := IntV) (f := fun z : Int × Int => z.1 + z.2) (Nat.le_of_lt (small1000 (by rw [List.length_zip]; omega))) (yi_zip (F := IntV) (G := IntV) (y_units T (y_var rfl (Mono.up s3 h1))) (y_units T (y_var rfl (Mono.up s3 h2)))) fun y z H' hy sH hE => ?_).l fun v4 H4 s4 h4 => ?_
 ·obtain ⟨T',u',w',rfl,hT,hq,hv⟩ := hE
  exact ⟨_,g_pair hT,rfl,y_rI0 (f := fun i j => .int (i + j)) (i := y.1) (j := y.2) (y_var rfl hq) (y_var rfl hv)⟩
 exact s_ret (y_mkClaim (c := ⟨(c.cash.zip d.cash).map fun z => z.1 + z.2,(c.units.zip d.units).map fun z => z.1 + z.2⟩) (y_var rfl (Mono.up s4 h3)) (y_var rfl h4)) fun v H' s' h => q v H' (s3.trans (s4.trans s')) h.1 (h.2.old (s3.trans s4))
section
variable {H0 : Hp} {σ : L2.St} {ta tb tc : TE} {E : XK} {C : Addr}
theorem y_turned {c : Vbchal.Claim} (ha : Yd H0 ta σ (ClaimV C c)) (h : c.cash.length <= 100 /\ c.units.length <= 100) : Yd H0 (tCall (sp_turned C) [] E (tCons ta tNil)) σ (AndV (ClaimV C ⟨c.cash.map fun n => -n,c.units.map fun n => -n⟩) (NewV H0)) := y_callN c (ya_cons ha ya_nil) h fun _ _ _ _ q => q
theorem y_together {c d : Vbchal.Claim} (ha : Yd H0 ta σ (ClaimV C c)) (hb : Yd H0 tb σ (ClaimV C d)) (h : c.cash.length <= 100 /\ c.units.length <= 100) : Yd H0 (tCall (sp_together C) [] E (tCons ta (tCons tb tNil))) σ (AndV (ClaimV C ⟨(c.cash.zip d.cash).map fun z => z.1 + z.2,(c.units.zip d.units).map fun z => z.1 + z.2⟩) (NewV H0)) :=
 y_callN (c,d) (ya_cons ha (ya_cons hb ya_nil)) h fun _ _ _ _ q => q
end
structure TD where
 n : Nat
 a : Nat
 b : Nat
 bids : List Int
 asks : List Int
def TD.tree (t : TD) : Vbchal.Tree := treeOf t.n t.a t.b t.bids t.asks
def TreeV (C : Addr) (t : TD) : VP := fun H v => ∃ p dx g s u w,v = .ref p /\ H p = some (.ins C dx [("steps",.int t.n),("growth",g),("shrink",s),("bids",u),("asks",w)]) /\ FrV (lowest (t.a : Int) t.b) H g /\ FrV (lowest (t.b : Int) t.a) H s /\ IntsV t.bids H u /\ IntsV t.asks H w
instance (C : Addr) (t : TD) : Mono (TreeV C t) := ⟨fun s ⟨p,dx,g,s',u,w,e,h,h1,h2,h3,h4⟩ => ⟨p,dx,g,s',u,w,e,s _ _ h,Mono.up s h1,Mono.up s h2,Mono.up s h3,Mono.up s h4⟩⟩
section
variable {H0 : Hp} {σ : L2.St} {ta tb tc : TE} {E : XK} {t : TD}
theorem y_steps (T : Txt K mg A) (ha : Yd H0 ta σ (TreeV A.c_Tree t)) : Yd H0 (tFld K ta "steps") σ (IntV (t.n : Int)) := y_fld ha fun H v ⟨p,dx,g,s',u,w,e,h,h1,h2,h3,h4⟩ => ⟨p,_,dx,_,_,e,h,T.cl_Tree,T.na_Tree_steps,rfl,rfl⟩
theorem y_growth (T : Txt K mg A) (ha : Yd H0 ta σ (TreeV A.c_Tree t)) : Yd H0 (tFld K ta "growth") σ (FrV (lowest (t.a : Int) t.b)) := y_fld ha fun H v ⟨p,dx,g,s',u,w,e,h,h1,h2,h3,h4⟩ => ⟨p,_,dx,_,_,e,h,T.cl_Tree,T.na_Tree_growth,rfl,h1⟩
theorem y_shrink (T : Txt K mg A) (ha : Yd H0 ta σ (TreeV A.c_Tree t)) : Yd H0 (tFld K ta "shrink") σ (FrV (lowest (t.b : Int) t.a)) := y_fld ha fun H v ⟨p,dx,g,s',u,w,e,h,h1,h2,h3,h4⟩ => ⟨p,_,dx,_,_,e,h,T.cl_Tree,T.na_Tree_shrink,rfl,h2⟩
theorem y_bids (T : Txt K mg A) (ha : Yd H0 ta σ (TreeV A.c_Tree t)) : Yd H0 (tFld K ta "bids") σ (IntsV t.bids) := y_fld ha fun H v ⟨p,dx,g,s',u,w,e,h,h1,h2,h3,h4⟩ => ⟨p,_,dx,_,_,e,h,T.cl_Tree,T.na_Tree_bids,rfl,h3⟩
theorem y_asks (T : Txt K mg A) (ha : Yd H0 ta σ (TreeV A.c_Tree t)) : Yd H0 (tFld K ta "asks") σ (IntsV t.asks) := y_fld ha fun H v ⟨p,dx,g,s',u,w,e,h,h1,h2,h3,h4⟩ => ⟨p,_,dx,_,_,e,h,T.cl_Tree,T.na_Tree_asks,rfl,h4⟩
end
def sp_nodes_before : Sp := spA (ι := Nat) (fun i => [IntV (i : Int)]) (fun i => i <= 1000000) (fun i => IntV (tri i : Int))
theorem ok_nodes_before (T : Txt K mg A) : FnOk P w K mg base CX0 1 A.f_nodes_before A.d_nodes_before p_nodes_before (sp_nodes_before) := by
 refine T.F_nodes_before.ok sc_nodes_before (spA_len fun _ => rfl) fun cdv Ao outer s H vs Q E hr hsp => ?_
 obtain ⟨i,⟨v1,_,rfl,h1,rfl⟩,hi,q⟩ := hsp
 cases h1
 have hi : i <= 1000000 := hi
 refine ⟨_,(pss_one (ps_ret (pe_op op_fdivB (pe_op op_mulB (pv 0) (pe_op op_add (pv 0) pe_int)) pe_int))),?_⟩
 have big : 1000001 <= 2 ^ 60000 := Nat.le_trans (show 1000001 <= 2 ^ 20 by decide) (Nat.pow_le_pow_right (by decide) (by decide))
 refine s_ret ((y_rI (y_rI (y_var (P := IntV i) rfl rfl) (y_rI0 (y_var (P := IntV i) rfl rfl) y_c) ⟨by rw [Int.natAbs_natCast]; omega,by omega⟩) y_c ⟨by decide,Nat.lt_of_lt_of_le (show 2 < 2 ^ 2 by decide) (Nat.pow_le_pow_right (by decide) (by decide))⟩).eq ?_) q
 show V.int _ = V.int ((i * (i + 1) / 2 : Nat) : Int)
 congr 1
section
variable {H0 : Hp} {σ : L2.St} {ta tb tc : TE} {E : XK} {t : TD}
theorem y_tri {i : Nat} (ha : Yd H0 ta σ (IntV (i : Int))) (h : i <= 1000000) : Yd H0 (tCall sp_nodes_before [] E (tCons ta tNil)) σ (IntV (tri i : Int)) := y_call i (ya_cons ha ya_nil) h
end
def between3 (lo hi : Int) (z : Int) : Bool := decide (lo <= z) && decide (z <= hi)
def sp_all_between : Sp := spA (ι := List Int × Int × Int) (fun i => [IntsV i.1,IntV i.2.1,IntV i.2.2]) (fun i => i.1.length <= 10000) (fun i => BlV (i.1.all (between3 i.2.1 i.2.2)))
section
variable {H0 : Hp} {σ : L2.St} {ta tb tc : TE} {E : XK}
theorem bls_eq : ∀ {vs : List V} {l : List Bool} {H : Hp},All2 (fun u x => BlV x H u) vs l -> vs = l.map V.bl
 | _,_,_,.nil => rfl
 | _,_,_,.cons h t => by
  have e : _ = _ := h
  rw [e,bls_eq t]; rfl
theorem y_all {l : List Bool} (ha : Yd H0 ta σ (LsV BlV l)) : Yd H0 (tCB (rAll K) (tCons ta tNil)) σ (BlV (l.all id)) := fun H Q s k =>
 ha H _ s fun v H1 s1 h1 => by
  obtain ⟨a,vs,rfl,ea,fa⟩ := h1
  rw [bls_eq fa] at ea
  exact ⟨a,l,rfl,SqL.of ea,k _ H1 s1 rfl⟩
theorem y_any {l : List Bool} (ha : Yd H0 ta σ (LsV BlV l)) : Yd H0 (tCB (rAny K) (tCons ta tNil)) σ (BlV (l.any id)) := fun H Q s k =>
 ha H _ s fun v H1 s1 h1 => by
  obtain ⟨a,vs,rfl,ea,fa⟩ := h1
  rw [bls_eq fa] at ea
  exact ⟨a,l,rfl,SqL.of ea,k _ H1 s1 rfl⟩
end
theorem ok_all_between (T : Txt K mg A) : FnOk P w K mg base CX0 1 A.f_all_between A.d_all_between p_all_between (sp_all_between) := by
 refine T.F_all_between.ok sc_all_between (spA_len fun _ => rfl) fun cdv Ao outer s H vs Q E hr hsp => ?_
 obtain ⟨⟨l,lo,hi⟩,⟨v1,_,rfl,h1,v2,_,rfl,h2,v3,_,rfl,h3,rfl⟩,hl,q⟩ := hsp
 have h1 : IntsV l H v1 := h1
 cases h2; cases h3
 have hl : l.length <= 10000 := hl
 refine ⟨_,(pss_one (ps_ret (pe_callB (cr_all rfl) (by rfl) T.n_all boot_all (pa_cons (pe_lc (own := [("number",3)]) rfl sc_all_between.nd (pi_list (pv 0)) (blkOk_by (N := n_all_between) (sc := defScope s_all_between) (by decide +kernel)) (fun _ _ _ _ _ => (pg_name (i := 3) sc_all_between.nd rfl (Or.inl rfl) (.inr rfl))) (fun _ _ _ _ _ => pts_nil) (fun _ _ _ _ _ => (pe_chain op_le op_le (pv 1) (pv 3) (pv 2)))) pa_nil)))),?_⟩
 refine s_ret (y_dec (y_all (y_lcm (F := BlV) (f := between3 lo hi) (Nat.le_trans hl (by decide)) (yi_list (y_var rfl h1)) fun y z H' hy sH hE => ⟨_,g_name,rfl,y_chain (y_var (P := IntV lo) rfl rfl) (y_var rfl hE) (y_var (P := IntV hi) rfl rfl)⟩).l) ?_) q
 rw [List.all_map]
 rfl
section
variable {H0 : Hp} {σ : L2.St} {ta tb tc : TE} {E : XK} {t : TD}
theorem y_allb {l : List Int} {lo hi : Int} (ha : Yd H0 ta σ (IntsV l)) (hb : Yd H0 tb σ (IntV lo)) (hc : Yd H0 tc σ (IntV hi)) (h : l.length <= 10000) : Yd H0 (tCall sp_all_between [] E (tCons ta (tCons tb (tCons tc tNil)))) σ (BlV (l.all (between3 lo hi))) :=
 y_call (l,lo,hi) (ya_cons ha (ya_cons hb (ya_cons hc ya_nil))) h
end
theorem ntT {b : Bool} (h : (!b) = true) : b = false := by cases b <;> simp_all
theorem ntF {b : Bool} (h : (!b) = false) : b = true := by cases b <;> simp_all
def refOf (n a b : Int) (bids asks : List Int) : Int :=
 if (decide (1 <= n) && decide (n <= 4)) = false then -1
 else if (decide (1 <= b) && (decide (b <= a) && decide (a <= 100))) = false then -2
 else if bids.length ≠ tri (n.toNat + 1) \/ asks.length ≠ tri (n.toNat + 1) then -3
 else if (bids ++ asks).all (between3 1 10000) = false then -4
 else if ((bids.zip asks).any fun x => decide (x.2 < x.1)) = true then -5
 else 0
def sp_tree_refusal : Sp := spA (ι := Int × Int × Int × List Int × List Int) (fun i => [IntV i.1,IntV i.2.1,IntV i.2.2.1,IntsV i.2.2.2.1,IntsV i.2.2.2.2]) (fun i => i.2.2.2.1.length <= 100 /\ i.2.2.2.2.length <= 100) (fun i => IntV (refOf i.1 i.2.1 i.2.2.1 i.2.2.2.1 i.2.2.2.2))
theorem ok_tree_refusal (T : Txt K mg A) : FnOk P w K mg base CX0 2 A.f_tree_refusal A.d_tree_refusal p_tree_refusal (sp_tree_refusal) := by
 refine T.F_tree_refusal.ok sc_tree_refusal (spA_len fun _ => rfl) fun cdv Ao outer s H vs Q E hr hsp => ?_
 obtain ⟨⟨n,a,b,bids,asks⟩,⟨v1,_,rfl,h1,v2,_,rfl,h2,v3,_,rfl,h3,v4,_,rfl,h4,v5,_,rfl,h5,rfl⟩,⟨l1,l2⟩,q⟩ := hsp
 cases h1; cases h2; cases h3
 have h4 : IntsV bids H v4 := h4
 have h5 : IntsV asks H v5 := h5
 have l1 : bids.length <= 100 := l1
 have l2 : asks.length <= 100 := l2
 refine ⟨_,(pss_cons (ps_if (pt_not (pt_chain op_le op_le pe_int (pv 0) pe_int)) (pss_one (ps_ret (pe_un un_neg pe_int))) pss_nil)
   (pss_cons (ps_if (pt_not (pt_chain3 op_le op_le op_le pe_int (pv 2) (pv 1) pe_int)) (pss_one (ps_ret (pe_un un_neg pe_int))) pss_nil)
   (pss_cons (ps_set (i := 5) sc_tree_refusal.nd rfl (Or.inl rfl) (pe_call (ok_nodes_before T) (hr.mono (by decide)) rfl T.m_nodes_before T.F_nodes_before.kp T.b_nodes_before .nil pass0 (pa_cons (pe_op op_add (pv 0) pe_int) pa_nil)))
   (pss_cons (ps_if (PW.pt (pw_or (pt_cmpR op_ne (pe_callB call_len_seq (by rfl) T.n_len boot_len (pa_cons (pv 3) pa_nil)) (pv 5) (nomark _)) (pw_or1 (pt_cmpR op_ne (pe_callB call_len_seq (by rfl) T.n_len boot_len (pa_cons (pv 4) pa_nil)) (pv 5) (nomark _))))) (pss_one (ps_ret (pe_un un_neg pe_int))) pss_nil)
   (pss_cons (ps_if (pt_not (pt_val (pe_call (ok_all_between T) (hr.mono (by decide)) rfl T.m_all_between T.F_all_between.kp T.b_all_between .nil pass0 (pa_cons (pe_op op_cat (pv 3) (pv 4)) (pa_cons pe_int (pa_cons pe_int pa_nil)))))) (pss_one (ps_ret (pe_un un_neg pe_int))) pss_nil)
   (pss_cons (ps_if (pt_val (pe_callB (cr_any rfl) (by rfl) T.n_any boot_any (pa_cons (pe_lc (g := gTup K 2 (gCons (gName 6) (gCons (gName 7) gNil))) (own := [("bid",6),("ask",7)]) rfl sc_tree_refusal.nd (pi_zip rfl T.n_zip (pa_cons (pv 3) (pa_cons (pv 4) pa_nil))) (blkOk_by (N := n_tree_refusal) (sc := defScope s_tree_refusal) (by decide +kernel)) (fun _ _ _ _ _ => (pg_tup rfl (pgs_cons (pg_name (i := 6) sc_tree_refusal.nd rfl (Or.inl rfl) (.inr rfl)) (pgs_cons (pg_name (i := 7) sc_tree_refusal.nd rfl (Or.inl rfl) (.inr rfl)) pgs_nil)))) (fun _ _ _ _ _ => pts_nil) (fun _ _ _ _ _ => (pe_cmpR op_gt (pv 6) (pv 7) (nomark _)))) pa_nil))) (pss_one (ps_ret (pe_un un_neg pe_int))) pss_nil)
   (pss_one (ps_ret pe_int)))))))),?_⟩
 have q : ∀ r H',Same H H' -> r = .int (refOf n a b bids asks) -> Q r H' := q
 refine s_ifn (yt_not (yt_tst (y_chain (f := fun i j => decide (i <= j)) (g := fun i j => decide (i <= j)) (i := 1) (j := n) (l := 4) y_c (y_var rfl rfl) y_c))) (fun e H1 s1 => ?_) (fun e H1 s1 => ?_)
 ·refine s_ret (y_rU (y_c (v := .int 1))) fun v H2 s2 h => q v H2 (s1.trans s2) ?_
  rw [show v = _ from h,refOf,if_pos (ntT e)]
 have e1 : (decide (1 <= n) && decide (n <= 4)) = true := ntF e
 refine s_ifn (yt_not (yt_tst (y_chain3 (f := fun i j => decide (i <= j)) (g := fun i j => decide (i <= j)) (h := fun i j => decide (i <= j)) (i := 1) (j := b) (l := a) (m := 100) y_c (y_var rfl rfl) (y_var rfl rfl) y_c))) (fun e H2 s2 => ?_) (fun e H2 s2 => ?_)
 ·refine s_ret (y_rU (y_c (v := .int 2))) fun v H3 s3 h => q v H3 (s1.trans (s2.trans s3)) ?_
  rw [show v = _ from h,refOf,if_neg (by rw [e1]; decide),if_pos (ntT e)]
 have e2 : (decide (1 <= b) && (decide (b <= a) && decide (a <= 100))) = true := ntF e
 have en : 1 <= n /\ n <= 4 := by simpa using e1
 obtain ⟨m,rfl⟩ : ∃ m : Nat,n = (m : Int) := ⟨n.toNat,by omega⟩
 refine s_set (y_tri (i := m + 1) ((y_rI0 (y_var (P := IntV m) rfl rfl) y_c).eq (by rfl)) (by omega)) fun v6 H3 s3 h6 => ?_
 cases h6
 have s13 := s1.trans (s2.trans s3)
 have h43 : IntsV bids H3 v4 := Mono.up s13 h4
 have h53 : IntsV asks H3 v5 := Mono.up s13 h5
 have tn : ((m : Int).toNat + 1) = m + 1 := by simp
 refine s_ifn (b := decide (bids.length ≠ tri (m + 1) \/ asks.length ≠ tri (m + 1))) ?_ (fun e H4 s4 => ?_) (fun e H4 s4 => ?_)
 ·refine (yt_or (yt_tst (y_ne rfl (y_len (y_var rfl h43)) (y_var (P := IntV (tri (m + 1) : Int)) rfl rfl))) fun _ => yt_tst (y_ne rfl (y_len (y_var rfl h53)) (y_var (P := IntV (tri (m + 1) : Int)) rfl rfl))).eq ?_
  simp
  rw [Bool.eq_iff_iff]
  simp
  omega
 ·refine s_ret (y_rU (y_c (v := .int 3))) fun v H5 s5 h => q v H5 (s13.trans (s4.trans s5)) ?_
  rw [show v = _ from h,refOf,if_neg (by rw [e1]; decide),if_neg (by rw [e2]; decide),if_pos (by rw [tn]; exact of_decide_eq_true e)]
 have e3 : ¬ (bids.length ≠ tri (m + 1) \/ asks.length ≠ tri (m + 1)) := of_decide_eq_false e
 refine s_ifn (yt_not (yt_tB (y_allb (y_cat (F := IntV) (Nat.le_of_lt (small1000 (by omega))) (y_var rfl (Mono.up s4 h43)) (y_var rfl (Mono.up s4 h53))).l y_c y_c (by rw [List.length_append]; omega)))) (fun e H5 s5 => ?_) (fun e H5 s5 => ?_)
 ·refine s_ret (y_rU (y_c (v := .int 4))) fun v H6 s6 h => q v H6 (s13.trans (s4.trans (s5.trans s6))) ?_
  rw [show v = _ from h,refOf,if_neg (by rw [e1]; decide),if_neg (by rw [e2]; decide),if_neg (by rw [tn]; exact e3),if_pos (ntT e)]
 have e4 : (bids ++ asks).all (between3 1 10000) = true := ntF e
 have s5' := s4.trans s5
 refine s_ifn (yt_tB (y_any (y_lcm (F := BlV) (f := fun x : Int × Int => decide (x.2 < x.1)) (Nat.le_of_lt (small1000 (by rw [List.length_zip]; omega))) (yi_zip (F := IntV) (G := IntV) (y_var rfl (Mono.up s5' h43)) (y_var rfl (Mono.up s5' h53))) fun y z H' hy sH hE => ?_).l)) (fun e H6 s6 => ?_) (fun e H6 s6 => ?_)
 ·obtain ⟨T',u',w',rfl,hT,hq,hv⟩ := hE
  exact ⟨_,g_pair hT,rfl,y_rI0 (y_var rfl hq) (y_var rfl hv)⟩
 ·rw [List.any_map] at e
  have e : ((bids.zip asks).any fun x => decide (x.2 < x.1)) = true := e
  refine s_ret (y_rU (y_c (v := .int 5))) fun v H7 s7 h => q v H7 (s13.trans (s5'.trans (s6.trans s7))) ?_
  rw [show v = _ from h,refOf,if_neg (by rw [e1]; decide),if_neg (by rw [e2]; decide),if_neg (by rw [tn]; exact e3),if_neg (by rw [e4]; decide),if_pos e]
 ·rw [List.any_map] at e
  have e : ((bids.zip asks).any fun x => decide (x.2 < x.1)) = false := e
  refine s_ret (y_c (v := .int 0)) fun v H7 s7 h => q v H7 (s13.trans (s5'.trans (s6.trans s7))) ?_
  rw [show v = _ from h,refOf,if_neg (by rw [e1]; decide),if_neg (by rw [e2]; decide),if_neg (by rw [tn]; exact e3),if_neg (by rw [e4]; decide),if_neg (by rw [e]; decide)]
section
variable {H0 : Hp} {σ : L2.St} {ta tb tc td te : TE} {E : XK}
theorem y_refOf {n a b : Int} {bids asks : List Int} (ha : Yd H0 ta σ (IntV n)) (hb : Yd H0 tb σ (IntV a)) (hc : Yd H0 tc σ (IntV b)) (hd : Yd H0 td σ (IntsV bids)) (he : Yd H0 te σ (IntsV asks)) (h : bids.length <= 100 /\ asks.length <= 100) :
  Yd H0 (tCall sp_tree_refusal [] E (tCons ta (tCons tb (tCons tc (tCons td (tCons te tNil)))))) σ (IntV (refOf n a b bids asks)) := y_call (n,a,b,bids,asks) (ya_cons ha (ya_cons hb (ya_cons hc (ya_cons hd (ya_cons he ya_nil))))) h
end
def sp_Tree_init (C : Addr) : Sp := fun vs H Q _ => ∃ (p dx : Addr) (t : TD) (u v : V),vs = [.ref p,.int t.n,.int t.a,.int t.b,u,v] /\ H p = some (.ins C dx []) /\ (1 <= t.b /\ t.b <= t.a /\ t.a <= 100) /\
 ∀ H' g s,But p H H' -> H' p = some (.ins C dx [("steps",.int t.n),("growth",g),("shrink",s),("bids",u),("asks",v)]) -> FrV (lowest (t.a : Int) t.b) H' g -> FrV (lowest (t.b : Int) t.a) H' s -> Q .non H'
theorem small9000 {n : Nat} (h : n <= 100) : n < 2 ^ 9000 := Nat.lt_of_le_of_lt h (Nat.lt_of_lt_of_le (show 100 < 2 ^ 7 by decide) (Nat.pow_le_pow_right (by decide) (by decide)))
theorem tk_ins {H : Hp} {p C dx : Addr} {fs fs' : List (Str × V)} (h : H p = some (.ins C dx fs)) : Tk H (upd H p (.ins C dx fs')) := fun b xs e => by
 rw [upd_ne (ne_of e h (by intro z; cases z))]; exact e
theorem ok_Tree_init (T : Txt K mg A) : FnOk P w K mg base CX0 3 A.f_Tree_init A.d_Tree_init p_Tree_init (sp_Tree_init A.c_Tree) := by
 refine T.F_Tree_init.ok sc_Tree_init (fun vs H Q E ⟨_,_,_,_,_,e,_⟩ => by rw [e]; rfl) fun cdv Ao outer s H vs Q E hr hsp => ?_
 obtain ⟨p,dx,t,u,v,rfl,hp,⟨b1,ba,a2⟩,q⟩ := hsp
 refine ⟨_,(pss_cons (ps_fld (pv 0) (pv 1) rfl)
   (pss_cons (ps_fld (pv 0) (pe_call (ok_ratio T) (hr.mono (by decide)) rfl T.m_ratio T.F_ratio.kp T.b_ratio .nil pass0 (pa_cons (pv 2) (pa_cons (pv 3) pa_nil))) rfl)
   (pss_cons (ps_fld (pv 0) (pe_call (ok_ratio T) (hr.mono (by decide)) rfl T.m_ratio T.F_ratio.kp T.b_ratio .nil pass0 (pa_cons (pv 3) (pa_cons (pv 2) pa_nil))) rfl)
   (pss_cons (ps_fld (pv 0) (pv 4) rfl)
   (pss_one (ps_fld (pv 0) (pv 5) rfl)))))),?_⟩
 refine s_fld (P := IntV t.n) (y_var rfl rfl) rfl hp T.cl_Tree T.na_Tree_steps (by decide) fun y1 H1 s1 e1 => ?_
 cases e1
 refine s_fld (y_ratio (t := t.a) (b := t.b) (y_var (P := IntV t.a) rfl rfl) (y_var (P := IntV t.b) rfl rfl) ⟨b1,small9000 (by omega)⟩) rfl upd_same T.cl_Tree T.na_Tree_growth (few1 (by decide)) fun y2 H2 s2 h2 => ?_
 have p2 : H2 p = some (.ins A.c_Tree dx [("steps",.int t.n)]) := s2 _ _ upd_same
 refine s_fld (y_ratio (t := t.b) (b := t.a) (y_var (P := IntV t.b) rfl rfl) (y_var (P := IntV t.a) rfl rfl) ⟨by omega,small9000 a2⟩) rfl upd_same T.cl_Tree T.na_Tree_shrink (few1 (Nat.le_trans (few (Nat.le_refl 0)) (by decide))) fun y3 H3 s3 h3 => ?_
 have p3 : H3 p = some (.ins A.c_Tree dx [("steps",.int t.n),("growth",y2)]) := s3 _ _ upd_same
 refine s_fld (P := EqV u) (y_var rfl rfl) rfl upd_same T.cl_Tree T.na_Tree_bids (few1 (Nat.le_trans (few (few (Nat.le_refl 0))) (by decide))) fun y4 H4 s4 e4 => ?_
 cases e4
 have p4 : H4 p = some (.ins A.c_Tree dx [("steps",.int t.n),("growth",y2),("shrink",y3)]) := s4 _ _ upd_same
 refine s_fld1 (P := EqV v) (y_var rfl rfl) rfl upd_same T.cl_Tree T.na_Tree_asks (few1 (Nat.le_trans (few (few (few (Nat.le_refl 0)))) (by decide))) fun y5 H5 s5 e5 => ?_
 cases e5
 have p5 : H5 p = some (.ins A.c_Tree dx [("steps",.int t.n),("growth",y2),("shrink",y3),("bids",u)]) := s5 _ _ upd_same
 refine q _ y2 y3 ?_ upd_same ?_ ?_
 ·exact (But.of s1).trans (But.upd.trans ((But.of s2).trans (But.upd.trans ((But.of s3).trans (But.upd.trans ((But.of s4).trans (But.upd.trans ((But.of s5).trans But.upd))))))))
 ·exact FrA.tk (tk_ins p5) (FrA.up s5 (FrA.tk (tk_ins p4) (FrA.up s4 (FrA.tk (tk_ins p3) (FrA.up s3 (FrA.tk (tk_ins p2) h2))))))
 ·exact FrA.tk (tk_ins p5) (FrA.up s5 (FrA.tk (tk_ins p4) (FrA.up s4 (FrA.tk (tk_ins p3) h3))))
section
variable {H0 : Hp} {σ : L2.St} {t1 t2 t3 t4 t5 ta tb tc : TE} {E : XK} {C : Addr} {t : TD}
theorem y_mkTree (h1 : Yd H0 t1 σ (IntV t.n)) (h2 : Yd H0 t2 σ (IntV t.a)) (h3 : Yd H0 t3 σ (IntV t.b)) (h4 : Yd H0 t4 σ (IntsV t.bids)) (h5 : Yd H0 t5 σ (IntsV t.asks)) (h : 1 <= t.b /\ t.b <= t.a /\ t.a <= 100) :
  Yd H0 (tMake C (sp_Tree_init C) [] E (tCons t1 (tCons t2 (tCons t3 (tCons t4 (tCons t5 tNil)))))) σ (AndV (TreeV C t) (NewV H0)) := fun H Q s k =>
 h1 H _ s fun v1 H1 s1 e1 => h2 H1 _ (s.trans s1) fun v2 H2 s2 e2 => h3 H2 _ (s.trans (s1.trans s2)) fun v3 H3 s3 e3 => h4 H3 _ (s.trans (s1.trans (s2.trans s3))) fun v4 H4 s4 e4 => h5 H4 _ (s.trans (s1.trans (s2.trans (s3.trans s4)))) fun v5 H5 s5 e5 x dx nx nd ne => by
  cases e1; cases e2; cases e3
  refine ⟨x,dx,t,v4,v5,rfl,upd_same,h,fun H' g s' hb hp hg hs => ⟨rfl,?_⟩⟩
  have sm : Same H5 H' := Same.make nx nd hb
  exact k _ _ (s1.trans (s2.trans (s3.trans (s4.trans (s5.trans sm))))) ⟨⟨x,dx,g,s',v4,v5,rfl,hp,hg,hs,Mono.up (s5.trans sm) e4,Mono.up sm e5⟩,⟨x,rfl,(s.trans (s1.trans (s2.trans (s3.trans (s4.trans s5))))).free nx⟩⟩
end
def hasNode (n : Nat) (i j : Int) : Bool := decide (0 <= j) && (decide (j <= i) && decide (i <= (n : Int)))
def sp_Tree_has_node (C : Addr) : Sp := spA (ι := TD × Int × Int) (fun i => [TreeV C i.1,IntV i.2.1,IntV i.2.2]) (fun _ => True) (fun i => BlV (hasNode i.1.n i.2.1 i.2.2))
theorem ok_Tree_has_node (T : Txt K mg A) : FnOk P w K mg base CX0 1 A.f_Tree_has_node A.d_Tree_has_node p_Tree_has_node (sp_Tree_has_node A.c_Tree) := by
 refine T.F_Tree_has_node.ok sc_Tree_has_node (spA_len fun _ => rfl) fun cdv Ao outer s H vs Q E hr hsp => ?_
 obtain ⟨⟨t,i,j⟩,⟨v1,_,rfl,h1,v2,_,rfl,h2,v3,_,rfl,h3,rfl⟩,_,q⟩ := hsp
 cases h2; cases h3
 have h1 : TreeV A.c_Tree t H v1 := h1
 refine ⟨_,(pss_one (ps_ret (pe_chain3 op_le op_le op_le pe_int (pv 2) (pv 1) (pe_fld (pv 0) rfl)))),?_⟩
 exact s_ret (y_chain3 (f := fun i j => decide (i <= j)) (g := fun i j => decide (i <= j)) (h := fun i j => decide (i <= j)) (i := 0) (j := j) (l := i) y_c (y_var rfl rfl) (y_var rfl rfl) (y_steps T (y_var rfl h1))) q
section
variable {H0 : Hp} {σ : L2.St} {ta tb tc : TE} {E : XK} {C : Addr} {t : TD} {i j : Int}
theorem y_hasNode (ha : Yd H0 ta σ (TreeV C t)) (hb : Yd H0 tb σ (IntV i)) (hc : Yd H0 tc σ (IntV j)) : Yd H0 (tMeth C "has_node" (sp_Tree_has_node C) [] E ta (tCons tb (tCons tc tNil))) σ (BlV (hasNode t.n i j)) :=
 y_meth ha (fun H v ⟨p,dx,g,s',u,w,e,h,_⟩ => ⟨p,dx,_,e,h,rfl⟩) (t,i,j) (ya_cons hb (ya_cons hc ya_nil)) rfl trivial
end
def sp_Tree_has_node_before_last (C : Addr) : Sp := spA (ι := TD × Int × Int) (fun i => [TreeV C i.1,IntV i.2.1,IntV i.2.2]) (fun _ => True) (fun i => BlV (hasNode i.1.n i.2.1 i.2.2 && decide (i.2.1 < (i.1.n : Int))))
theorem ok_Tree_has_node_before_last (T : Txt K mg A) : FnOk P w K mg base CX0 2 A.f_Tree_has_node_before_last A.d_Tree_has_node_before_last p_Tree_has_node_before_last (sp_Tree_has_node_before_last A.c_Tree) := by
 refine T.F_Tree_has_node_before_last.ok sc_Tree_has_node_before_last (spA_len fun _ => rfl) fun cdv Ao outer s H vs Q E hr hsp => ?_
 obtain ⟨⟨t,i,j⟩,⟨v1,_,rfl,h1,v2,_,rfl,h2,v3,_,rfl,h3,rfl⟩,_,q⟩ := hsp
 cases h2; cases h3
 have h1 : TreeV A.c_Tree t H v1 := h1
 refine ⟨_,(pss_one (ps_ret (pe_and (pe_meth (pv 0) T.cl_Tree T.me_Tree_has_node (ok_Tree_has_node T) (hr.mono (by decide)) T.b_Tree_has_node .nil pass0 (pa_cons (pv 1) (pa_cons (pv 2) pa_nil))) (pe_one (pe_cmpR op_lt (pv 1) (pe_fld (pv 0) rfl) (nomark _)))))),?_⟩
 exact s_ret (y_andV (y_hasNode (y_var rfl h1) (y_var (P := IntV i) rfl rfl) (y_var (P := IntV j) rfl rfl)) fun _ => y_rI0 (y_var (P := IntV i) rfl rfl) (y_steps T (y_var rfl h1))) q
def hasWay (n : Nat) (l : List Int) : Bool := decide (l.length = n) && l.all (between3 0 1)
def sp_Tree_has_way (C : Addr) : Sp := spA (ι := TD × List Int) (fun i => [TreeV C i.1,IntsV i.2]) (fun i => i.2.length <= 100) (fun i => BlV (hasWay i.1.n i.2))
theorem ok_Tree_has_way (T : Txt K mg A) : FnOk P w K mg base CX0 2 A.f_Tree_has_way A.d_Tree_has_way p_Tree_has_way (sp_Tree_has_way A.c_Tree) := by
 refine T.F_Tree_has_way.ok sc_Tree_has_way (spA_len fun _ => rfl) fun cdv Ao outer s H vs Q E hr hsp => ?_
 obtain ⟨⟨t,l⟩,⟨v1,_,rfl,h1,v2,_,rfl,h2,rfl⟩,hl,q⟩ := hsp
 have h1 : TreeV A.c_Tree t H v1 := h1
 have h2 : IntsV l H v2 := h2
 have hl : l.length <= 100 := hl
 refine ⟨_,(pss_one (ps_ret (pe_and (pe_cmpR op_eq (pe_callB call_len_seq (by rfl) T.n_len boot_len (pa_cons (pv 1) pa_nil)) (pe_fld (pv 0) rfl) (nomark _)) (pe_one (pe_call (ok_all_between T) (hr.mono (by decide)) rfl T.m_all_between T.F_all_between.kp T.b_all_between .nil pass0 (pa_cons (pv 1) (pa_cons pe_int (pa_cons pe_int pa_nil)))))))),?_⟩
 refine s_ret (y_dec (y_andV (y_eq rfl (y_len (y_var rfl h2)) (y_steps T (y_var rfl h1))) fun _ => y_allb (y_var rfl h2) y_c y_c (by omega)) ?_) q
 show _ = hasWay t.n l
 unfold hasWay
 congr 1
 simp
 omega
def sp_Tree_bid_at (C : Addr) : Sp := spA (ι := TD × Nat × Nat) (fun i => [TreeV C i.1,IntV (i.2.1 : Int),IntV (i.2.2 : Int)]) (fun i => i.2.1 <= 4 /\ tri i.2.1 + i.2.2 < i.1.bids.length) (fun i => IntV (i.1.bids.getD (tri i.2.1 + i.2.2) 0))
theorem at_getD {l : List Int} {k : Nat} (h : k < l.length) : l[k]? = some (l.getD k 0) := by
 rw [List.getD_eq_getElem?_getD,List.getElem?_eq_getElem h]; rfl
theorem ok_Tree_bid_at (T : Txt K mg A) : FnOk P w K mg base CX0 2 A.f_Tree_bid_at A.d_Tree_bid_at p_Tree_bid_at (sp_Tree_bid_at A.c_Tree) := by
 refine T.F_Tree_bid_at.ok sc_Tree_bid_at (spA_len fun _ => rfl) fun cdv Ao outer s H vs Q E hr hsp => ?_
 obtain ⟨⟨t,i,j⟩,⟨v1,_,rfl,h1,v2,_,rfl,h2,v3,_,rfl,h3,rfl⟩,⟨hi,hk⟩,q⟩ := hsp
 cases h2; cases h3
 have h1 : TreeV A.c_Tree t H v1 := h1
 have hi : i <= 4 := hi
 have hk : tri i + j < t.bids.length := hk
 refine ⟨_,(pss_one (ps_ret (pe_ix ix_list (pe_fld (pv 0) rfl) (pe_op op_add (pe_call (ok_nodes_before T) (hr.mono (by decide)) rfl T.m_nodes_before T.F_nodes_before.kp T.b_nodes_before .nil pass0 (pa_cons (pv 1) pa_nil)) (pv 2)) (fun _ _ => rfl)))),?_⟩
 exact s_ret (y_ixL (y_bids T (y_var rfl h1)) (y_rI0 (y_tri (y_var (P := IntV i) rfl rfl) (by omega)) (y_var (P := IntV j) rfl rfl)) (at_ofG (by rfl) (at_getD hk))) q
def sp_Tree_ask_at (C : Addr) : Sp := spA (ι := TD × Nat × Nat) (fun i => [TreeV C i.1,IntV (i.2.1 : Int),IntV (i.2.2 : Int)]) (fun i => i.2.1 <= 4 /\ tri i.2.1 + i.2.2 < i.1.asks.length) (fun i => IntV (i.1.asks.getD (tri i.2.1 + i.2.2) 0))
theorem ok_Tree_ask_at (T : Txt K mg A) : FnOk P w K mg base CX0 2 A.f_Tree_ask_at A.d_Tree_ask_at p_Tree_ask_at (sp_Tree_ask_at A.c_Tree) := by
 refine T.F_Tree_ask_at.ok sc_Tree_ask_at (spA_len fun _ => rfl) fun cdv Ao outer s H vs Q E hr hsp => ?_
 obtain ⟨⟨t,i,j⟩,⟨v1,_,rfl,h1,v2,_,rfl,h2,v3,_,rfl,h3,rfl⟩,⟨hi,hk⟩,q⟩ := hsp
 cases h2; cases h3
 have h1 : TreeV A.c_Tree t H v1 := h1
 have hi : i <= 4 := hi
 have hk : tri i + j < t.asks.length := hk
 refine ⟨_,(pss_one (ps_ret (pe_ix ix_list (pe_fld (pv 0) rfl) (pe_op op_add (pe_call (ok_nodes_before T) (hr.mono (by decide)) rfl T.m_nodes_before T.F_nodes_before.kp T.b_nodes_before .nil pass0 (pa_cons (pv 1) pa_nil)) (pv 2)) (fun _ _ => rfl)))),?_⟩
 exact s_ret (y_ixL (y_asks T (y_var rfl h1)) (y_rI0 (y_tri (y_var (P := IntV i) rfl rfl) (by omega)) (y_var (P := IntV j) rfl rfl)) (at_ofG (by rfl) (at_getD hk))) q
structure TDok (t : TD) : Prop where
 ok : TOk t.n t.tree
 bl : t.bids.length = tri (t.n + 1)
 al : t.asks.length = tri (t.n + 1)
 pos : ∀ z ∈ t.bids ++ t.asks,0 <= z
theorem TDok.bid {t : TD} (h : TDok t) {i j : Nat} (hi : i <= t.n) (hj : j <= i) : t.bids.getD (tri i + j) 0 = ((Vbchal.quoteAt t.tree i j).bid : Int) := by
 have hl := tri_lt hi hj
 rw [TD.tree,quote_of h.bl h.al hi hj]
 have := h.pos _ (List.mem_append_left _ (getD_in (l := t.bids) (k := tri i + j) (by rw [h.bl]; exact hl)))
 show _ = (((t.bids.getD (tri i + j) 0).toNat : Nat) : Int)
 omega
theorem TDok.ask {t : TD} (h : TDok t) {i j : Nat} (hi : i <= t.n) (hj : j <= i) : t.asks.getD (tri i + j) 0 = ((Vbchal.quoteAt t.tree i j).ask : Int) := by
 have hl := tri_lt hi hj
 rw [TD.tree,quote_of h.bl h.al hi hj]
 have := h.pos _ (List.mem_append_right _ (getD_in (l := t.asks) (k := tri i + j) (by rw [h.al]; exact hl)))
 show _ = (((t.asks.getD (tri i + j) 0).toNat : Nat) : Int)
 omega
section
variable {H0 : Hp} {σ : L2.St} {ta tb tc : TE} {E : XK} {C : Addr} {t : TD}
theorem y_beforeLast {i j : Int} (ha : Yd H0 ta σ (TreeV C t)) (hb : Yd H0 tb σ (IntV i)) (hc : Yd H0 tc σ (IntV j)) : Yd H0 (tMeth C "has_node_before_last" (sp_Tree_has_node_before_last C) [] E ta (tCons tb (tCons tc tNil))) σ (BlV (hasNode t.n i j && decide (i < (t.n : Int)))) :=
 y_meth ha (fun H v ⟨p,dx,g,s',u,w,e,h,_⟩ => ⟨p,dx,_,e,h,rfl⟩) (t,i,j) (ya_cons hb (ya_cons hc ya_nil)) rfl trivial
theorem y_hasWay {l : List Int} (ha : Yd H0 ta σ (TreeV C t)) (hb : Yd H0 tb σ (IntsV l)) (h : l.length <= 100) : Yd H0 (tMeth C "has_way" (sp_Tree_has_way C) [] E ta (tCons tb tNil)) σ (BlV (hasWay t.n l)) :=
 y_meth ha (fun H v ⟨p,dx,g,s',u,w,e,h,_⟩ => ⟨p,dx,_,e,h,rfl⟩) (t,l) (ya_cons hb ya_nil) rfl h
theorem y_bid (h : TDok t) {i j : Nat} (hi : i <= t.n) (hj : j <= i) (ha : Yd H0 ta σ (TreeV C t)) (hb : Yd H0 tb σ (IntV i)) (hc : Yd H0 tc σ (IntV j)) : Yd H0 (tMeth C "bid_at" (sp_Tree_bid_at C) [] E ta (tCons tb (tCons tc tNil))) σ (IntV ((Vbchal.quoteAt t.tree i j).bid : Int)) := by
 rw [<- h.bid hi hj]
 exact y_meth ha (fun H v ⟨p,dx,g,s',u,w,e,h,_⟩ => ⟨p,dx,_,e,h,rfl⟩) (t,i,j) (ya_cons hb (ya_cons hc ya_nil)) rfl ⟨by have := h.ok.n4; show i <= 4; omega,by show _ < t.bids.length; rw [h.bl]; exact tri_lt hi hj⟩
theorem y_ask (h : TDok t) {i j : Nat} (hi : i <= t.n) (hj : j <= i) (ha : Yd H0 ta σ (TreeV C t)) (hb : Yd H0 tb σ (IntV i)) (hc : Yd H0 tc σ (IntV j)) : Yd H0 (tMeth C "ask_at" (sp_Tree_ask_at C) [] E ta (tCons tb (tCons tc tNil))) σ (IntV ((Vbchal.quoteAt t.tree i j).ask : Int)) := by
 rw [<- h.ask hi hj]
 exact y_meth ha (fun H v ⟨p,dx,g,s',u,w,e,h,_⟩ => ⟨p,dx,_,e,h,rfl⟩) (t,i,j) (ya_cons hb (ya_cons hc ya_nil)) rfl ⟨by have := h.ok.n4; show i <= 4; omega,by show _ < t.asks.length; rw [h.al]; exact tri_lt hi hj⟩
end
def sp_end_points : Sp := spN (ι := Vbchal.Quote × Int × Int) (fun i => [IntV (i.1.bid : Int),IntV (i.1.ask : Int),IntV i.2.1,IntV i.2.2]) (fun i => i.1.bid <= i.1.ask /\ i.1.ask <= 10000 /\ i.2.2.natAbs <= 1000000) (fun i _ => RowV (Vbchal.lastPoints i.1 i.2.1 i.2.2))
theorem ok_end_points (T : Txt K mg A) : FnOk P w K mg base CX0 3 A.f_end_points A.d_end_points p_end_points (sp_end_points) := by
 refine T.F_end_points.ok sc_end_points (spN_len fun _ => rfl) fun cdv Ao outer s H vs Q E hr hsp => ?_
 obtain ⟨⟨x,c,u⟩,⟨v1,_,rfl,h1,v2,_,rfl,h2,v3,_,rfl,h3,v4,_,rfl,h4,rfl⟩,⟨hba,ha,hu⟩,q⟩ := hsp
 cases h1; cases h2; cases h3; cases h4
 have hba : x.bid <= x.ask := hba
 have ha : x.ask <= 10000 := ha
 have hu : u.natAbs <= 1000000 := hu
 refine ⟨_,(pss_cons (ps_set (i := 4) sc_end_points.nd rfl (Or.inl rfl) (pe_lst (pa_cons (pe_tup (pa_cons (pe_call (ok_ratio T) (hr.mono (by decide)) rfl T.m_ratio T.F_ratio.kp T.b_ratio .nil pass0 (pa_cons (pv 0) (pa_cons pe_int pa_nil))) (pa_cons (pe_call (ok_ratio T) (hr.mono (by decide)) rfl T.m_ratio T.F_ratio.kp T.b_ratio .nil pass0 (pa_cons (pe_op op_add (pv 2) (pe_op op_mulB (pv 3) (pv 0))) (pa_cons pe_int pa_nil))) pa_nil))) pa_nil)))
   (pss_cons (ps_if (pt_cmpR op_gt (pv 1) (pv 0) (nomark _)) (pss_one (ps_expr (pe_bm PySem.F.plainAttrs_list PySem.F.slot_list_append PySem.F.type_list_append mt_append (pv 4) (pa_cons (pe_tup (pa_cons (pe_call (ok_ratio T) (hr.mono (by decide)) rfl T.m_ratio T.F_ratio.kp T.b_ratio .nil pass0 (pa_cons (pv 1) (pa_cons pe_int pa_nil))) (pa_cons (pe_call (ok_ratio T) (hr.mono (by decide)) rfl T.m_ratio T.F_ratio.kp T.b_ratio .nil pass0 (pa_cons (pe_op op_add (pv 2) (pe_op op_mulB (pv 3) (pv 1))) (pa_cons pe_int pa_nil))) pa_nil))) pa_nil)))) pss_nil)
   (pss_one (ps_ret (pv 4))))),?_⟩
 have big : 1000000 <= 2 ^ 60000 := Nat.le_trans (show 1000000 <= 2 ^ 20 by decide) (Nat.pow_le_pow_right (by decide) (by decide))
 have cm : ∀ p : Nat,p <= 10000 -> CMulB u (p : Int) := fun p hp => ⟨by omega,by rw [Int.natAbs_natCast]; omega⟩
 refine s_set (y_lst (F := PtV) (l := [⟨whole (x.bid : Int),whole (c + u * (x.bid : Int))⟩]) (by simp) (yl_cons (y_point (y_whole (y_var (P := IntV x.bid) rfl rfl)) (y_whole (y_rI0 (y_var (P := IntV c) rfl rfl) (y_rI (y_var (P := IntV u) rfl rfl) (y_var (P := IntV x.bid) rfl rfl) (cm _ (by omega)))))) yl_nil)) fun v5 H1 s1 h5 => ?_
 obtain ⟨h5,a,rfl,na⟩ := h5
 have h5 : RowV [⟨whole (x.bid : Int),whole (c + u * (x.bid : Int))⟩] H1 (.ref a) := h5
 refine s_ifn (b := decide ((x.bid : Int) < (x.ask : Int))) (yt_tst (y_rI0 (y_var (P := IntV x.ask) rfl rfl) (y_var (P := IntV x.bid) rfl rfl))) (fun e H2 s2 => ?_) (fun e H2 s2 => ?_)
 ·have e := of_decide_eq_true e
  obtain ⟨a',vs,ea',ea,fa⟩ := (Mono.up s2 h5 : RowV _ H2 (.ref a))
  cases ea'
  refine s_append1 (P := PtV ⟨whole (x.ask : Int),whole (c + u * (x.ask : Int))⟩) rfl ea (by rw [fa.len]; show 1 < sizeLine; decide) (y_point (y_whole (y_var (P := IntV x.ask) rfl rfl)) (y_whole (y_rI0 (y_var (P := IntV c) rfl rfl) (y_rI (y_var (P := IntV u) rfl rfl) (y_var (P := IntV x.ask) rfl rfl) (cm _ ha))))) fun v H3 s3 hv => ?_
  have mu : MuL a H3 (upd H3 a (.lst (vs ++ [v]))) := MuL.upd (s3 _ _ ea)
  refine s_ret (P := AndV (RowV (Vbchal.lastPoints x c u)) (EqV (.ref a))) (y_var rfl ⟨⟨a,_,rfl,upd_same,?_⟩,rfl⟩) fun v H4 s4 h => q v H4 (((s1.trans (s2.trans s3)).mu na).trans s4) h.1 ⟨a,h.2,na⟩
  unfold Vbchal.lastPoints Vbchal.bidF Vbchal.askF
  rw [if_neg (by omega)]
  exact (all_tk mu.tk (all_up s3 fa)).append (.one (TkV.tk mu.tk hv))
 ·have e := of_decide_eq_false e
  refine s_ret (P := AndV (RowV (Vbchal.lastPoints x c u)) (EqV (.ref a))) (y_var rfl ⟨?_,rfl⟩) fun v H4 s4 h => q v H4 (s1.trans (s2.trans s4)) h.1 ⟨a,h.2,na⟩
  unfold Vbchal.lastPoints Vbchal.bidF Vbchal.askF
  rw [if_pos (by omega)]
  exact Mono.up s2 h5
section
variable {H0 : Hp} {σ : L2.St} {ta tb tc td : TE} {E : XK} {C : Addr} {t : TD}
theorem y_ends {x : Vbchal.Quote} {c u : Int} (h1 : Yd H0 ta σ (IntV (x.bid : Int))) (h2 : Yd H0 tb σ (IntV (x.ask : Int))) (h3 : Yd H0 tc σ (IntV c)) (h4 : Yd H0 td σ (IntV u)) (h : x.bid <= x.ask /\ x.ask <= 10000 /\ u.natAbs <= 1000000) :
  Yd H0 (tCall sp_end_points [] E (tCons ta (tCons tb (tCons tc (tCons td tNil))))) σ (AndV (RowV (Vbchal.lastPoints x c u)) (NewV H0)) := y_callN (x,c,u) (ya_cons h1 (ya_cons h2 (ya_cons h3 (ya_cons h4 ya_nil)))) h fun _ _ _ _ q => q
end
def LevN (H : Hp) (ls : List (List Point)) : VP := LsV (fun l => AndV (RowV l) (NewV H)) ls
theorem LevN.lev {H H' : Hp} {ls : List (List Point)} {v : V} (h : LevN H ls H' v) : LevV ls H' v := by
 obtain ⟨a,vs,e,ha,f⟩ := h
 exact ⟨a,vs,e,ha,f.imp fun _ _ q => q.1⟩
theorem LevN.off {H H' : Hp} {ls : List (List Point)} {v : V} {a : Addr} {o : HO} (h : LevN H ls H' v) (hn : NewV H H' v) (ha : H a = some o) : LevO a ls H' v := by
 obtain ⟨b,vs,e,hb,f⟩ := h
 exact ⟨⟨b,vs,e,hb,f.imp fun _ _ q => ⟨q.1,q.2.off ha⟩⟩,hn.off ha⟩
theorem LevN.old {H0 H H' : Hp} {ls : List (List Point)} {v : V} (s : Same H0 H) (h : LevN H ls H' v) : LevN H0 ls H' v := by
 obtain ⟨b,vs,e,hb,f⟩ := h
 exact ⟨b,vs,e,hb,f.imp fun _ _ q => ⟨q.1,q.2.old s⟩⟩
instance {H : Hp} {ls : List (List Point)} : Mono (LevN H ls) := inferInstanceAs (Mono (LsV _ ls))
def sp_last_step (C D : Addr) : Sp := spN (ι := TD × Vbchal.Claim) (fun i => [TreeV C i.1,ClaimV D i.2]) (fun i => TDok i.1 /\ COk i.1.n i.2) (fun i H => LevN H (lev i.1.tree i.2 i.1.n))
theorem int_get {l : List Int} {j : Nat} (h : j < l.length) : atI l (j : Int) = some (l.getD j 0) := atI_nat (at_getD h)
theorem ok_last_step (T : Txt K mg A) : FnOk P w K mg base CX0 4 A.f_last_step A.d_last_step p_last_step (sp_last_step A.c_Tree A.c_Claim) := by
 refine T.F_last_step.ok sc_last_step (spN_len fun _ => rfl) fun cdv Ao outer s H vs Q E hr hsp => ?_
 obtain ⟨⟨t,c⟩,⟨v1,_,rfl,h1,v2,_,rfl,h2,rfl⟩,⟨tk,ck⟩,q⟩ := hsp
 have h1 : TreeV A.c_Tree t H v1 := h1
 have h2 : ClaimV A.c_Claim c H v2 := h2
 have tk : TDok t := tk
 have ck : COk t.n c := ck
 refine ⟨_,(pss_cons (ps_set (i := 2) sc_last_step.nd rfl (Or.inr rfl) (pe_fld (pv 0) rfl))
   (pss_one (ps_ret (pe_lc (te := tCall sp_end_points [] E0 (tCons (tMeth A.c_Tree "bid_at" (sp_Tree_bid_at A.c_Tree) [] E0 (tVar 0) (tCons (tVar 2) (tCons (tVar 3) tNil))) (tCons (tMeth A.c_Tree "ask_at" (sp_Tree_ask_at A.c_Tree) [] E0 (tVar 0) (tCons (tVar 2) (tCons (tVar 3) tNil))) (tCons (tOp (rIxL K) (tFld K (tVar 1) "cash") (tVar 3)) (tCons (tOp (rIxL K) (tFld K (tVar 1) "units") (tVar 3)) tNil))))) (own := [("j",3)]) rfl sc_last_step.nd (pi_range1 rfl T.n_range (pa_cons (pe_op op_add (pv 2) pe_int) pa_nil)) (blkOk_by (N := n_last_step) (sc := defScope s_last_step) (by decide +kernel)) (fun _ _ _ _ _ => (pg_name (i := 3) sc_last_step.nd rfl (Or.inl rfl) (.inr rfl))) (fun _ _ _ _ _ => pts_nil) (fun _ _ _ _ _ => (pe_call (ok_end_points T) (hr.mono (by decide)) rfl T.m_end_points T.F_end_points.kp T.b_end_points .nil pass0 (pa_cons (pe_meth (pv 0) T.cl_Tree T.me_Tree_bid_at (ok_Tree_bid_at T) (hr.mono (by decide)) T.b_Tree_bid_at .nil pass0 (pa_cons (pv 2) (pa_cons (pv 3) pa_nil))) (pa_cons (pe_meth (pv 0) T.cl_Tree T.me_Tree_ask_at (ok_Tree_ask_at T) (hr.mono (by decide)) T.b_Tree_ask_at .nil pass0 (pa_cons (pv 2) (pa_cons (pv 3) pa_nil))) (pa_cons (pe_ix ix_list (pe_fld (pv 1) rfl) (pv 3) (fun _ _ => rfl)) (pa_cons (pe_ix ix_list (pe_fld (pv 1) rfl) (pv 3) (fun _ _ => rfl)) pa_nil)))))))))),?_⟩
 have n4 := tk.ok.n4
 refine s_set (y_steps T (y_var rfl h1)) fun v3 H1 s1 e3 => ?_
 cases e3
 have h11 : TreeV A.c_Tree t H1 v1 := Mono.up s1 h1
 have h21 : ClaimV A.c_Claim c H1 v2 := Mono.up s1 h2
 refine s_ret (y_lcG (F := fun l => AndV (RowV l) (NewV H)) (E := fun j : Nat => IntV (j : Int)) (l := List.range (t.n + 1)) (f := fun j => Vbchal.lastPoints (Vbchal.quoteAt t.tree t.n j) (c.cash.getD j 0) (c.units.getD j 0)) (p := fun _ => true)
  (fun a l => AndV (OffV a (RowV l)) (NewV H)) (fun H' l => fun H'' v => AndV (RowV l) (NewV H') H'' v /\ Same H H') (fun a x H H' v m h => ⟨RowV.mu m h.1,h.2⟩) (fun a x H H' v s h => ⟨Mono.up s h.1,h.2⟩) (fun a x H v h => ⟨h.1.1,h.2⟩)
  (fun a x H3 H' v ⟨xs,hx⟩ s h => ⟨⟨h.1.1,h.1.2.off hx⟩,h.1.2.old h.2⟩) ?_ (yi_range (n := t.n + 1) ?_ ?_) fun y z H' hy sH hE => ⟨_,g_name,rfl,yt_yes,fun _ => ?_⟩) fun v H' s' h => q v H' (s1.trans s') ?_ (h.2.old s1)
 ·rw [List.length_range]; exact Nat.le_of_lt (small1000 (by omega))
 ·exact Nat.lt_of_le_of_lt (m := 1000) (by omega) (by decide)
 ·exact (y_rI0 (y_var (P := IntV t.n) rfl rfl) y_c).eq (by rfl)
 ·cases hE
  have hj : y <= t.n := by have := List.mem_range.mp hy; omega
  have qk := tk.ok.quo t.n y (Nat.le_refl _) hj
  have t' : TreeV A.c_Tree t H' v1 := Mono.up sH h11
  have c' : ClaimV A.c_Claim c H' v2 := Mono.up sH h21
  have us : (c.units.getD y 0).natAbs <= 1000000 := getD_all ck.us
  refine (y_ends (x := Vbchal.quoteAt t.tree t.n y) (y_bid tk (Nat.le_refl _) hj (y_var rfl t') (y_var (P := IntV t.n) rfl rfl) (y_var (P := IntV y) rfl rfl)) (y_ask tk (Nat.le_refl _) hj (y_var rfl t') (y_var (P := IntV t.n) rfl rfl) (y_var (P := IntV y) rfl rfl))
   (y_ixL (y_cash T (y_var rfl c')) (y_var (P := IntV y) rfl rfl) (int_get (by rw [ck.cl]; omega))) (y_ixL (y_units T (y_var rfl c')) (y_var (P := IntV y) rfl rfl) (int_get (by rw [ck.ul]; omega))) ⟨qk.le,qk.hi,us⟩).imp fun H'' v h => ⟨h,s1.trans sH⟩
 ·rw [filter_yes] at h
  show LevN H (lev t.tree c t.n) H' v
  rw [lev_last tk.ok]
  exact h.1
section
variable {H0 : Hp} {σ : L2.St} {ta tb tc td : TE} {E : XK} {C D : Addr} {t : TD}
theorem y_lastStep {c : Vbchal.Claim} (h1 : Yd H0 ta σ (TreeV C t)) (h2 : Yd H0 tb σ (ClaimV D c)) (h : TDok t /\ COk t.n c) : Yd H0 (tCall (sp_last_step C D) [] E (tCons ta (tCons tb tNil))) σ (AndV (LevN H0 (lev t.tree c t.n)) (NewV H0)) :=
 y_callN (t,c) (ya_cons h1 (ya_cons h2 ya_nil)) h fun _ _ _ s q => q.old s
end
structure RowOk (l : List Point) : Prop where
 row : SRow l
 mid : MidR l
 ne : l ≠ []
 len : l.length <= 100
def sp_row_before (C : Addr) : Sp := spN (ι := TD × List Point × List Point) (fun i => [TreeV C i.1,RowV i.2.1,RowV i.2.2]) (fun i => (1 <= i.1.b /\ i.1.b <= i.1.a /\ i.1.a <= 100) /\ RowOk i.2.1 /\ RowOk i.2.2 /\ MidR (i.2.1.map (Vbchal.taken i.1.a i.1.b)) /\ MidR (i.2.2.map (Vbchal.taken i.1.a i.1.b))) (fun i _ => RowV (Vbchal.joined i.1.a i.1.b i.2.1 i.2.2))
section
variable {H0 : Hp} {σ : L2.St} {ta tb tc td : TE} {E : XK} {C D : Addr} {t : TD}
theorem y_scaled {l : List Point} {a b : Nat} (h1 : Yd H0 ta σ (RowV l)) (h2 : Yd H0 tb σ (FrV (lowest (b : Int) a))) (h : MidR l /\ l.length <= 100 /\ 0 < a /\ a <= 100 /\ b <= 100) : Yd H0 (tCall sp_scaled [] E (tCons ta (tCons tb tNil))) σ (AndV (RowV (l.map (Vbchal.taken a b))) (NewV H0)) :=
 y_callN (l,a,b) (ya_cons h1 (ya_cons h2 ya_nil)) h fun _ _ _ _ q => q
end
theorem ok_row_before (T : Txt K mg A) : FnOk P w K mg base CX0 6 A.f_row_before A.d_row_before p_row_before (sp_row_before A.c_Tree) := by
 refine T.F_row_before.ok sc_row_before (spN_len fun _ => rfl) fun cdv Ao outer s H vs Q E hr hsp => ?_
 obtain ⟨⟨t,l,r⟩,⟨v1,_,rfl,h1,v2,_,rfl,h2,v3,_,rfl,h3,rfl⟩,⟨⟨b1,ba,a2⟩,ol,or,ml,mr⟩,q⟩ := hsp
 have h1 : TreeV A.c_Tree t H v1 := h1
 have h2 : RowV l H v2 := h2
 have h3 : RowV r H v3 := h3
 have b1 : 1 <= t.b := b1
 have ba : t.b <= t.a := ba
 have a2 : t.a <= 100 := a2
 have ol : RowOk l := ol
 have or : RowOk r := or
 refine ⟨_,(pss_one (ps_ret (pe_call (ok_upper_row T) (hr.mono (by decide)) rfl T.m_upper_row T.F_upper_row.kp T.b_upper_row .nil pass0 (pa_cons (pe_call (ok_scaled T) (hr.mono (by decide)) rfl T.m_scaled T.F_scaled.kp T.b_scaled .nil pass0 (pa_cons (pv 1) (pa_cons (pe_fld (pv 0) rfl) pa_nil))) (pa_cons (pe_call (ok_scaled T) (hr.mono (by decide)) rfl T.m_scaled T.F_scaled.kp T.b_scaled .nil pass0 (pa_cons (pv 2) (pa_cons (pe_fld (pv 0) rfl) pa_nil))) pa_nil))))),?_⟩
 refine s_ret (y_upper (y_scaled (y_var rfl h2) (y_shrink T (y_var rfl h1)) ⟨ol.mid,ol.len,by omega,a2,by omega⟩).l (y_scaled (y_var rfl h3) (y_shrink T (y_var rfl h1)) ⟨or.mid,or.len,by omega,a2,by omega⟩).l ⟨ml,mr,by rw [List.length_map]; exact ol.len,by rw [List.length_map]; exact or.len⟩) fun v H' s' h => q v H' s' ?_ h.2
 show RowV (Vbchal.joined t.a t.b l r) H' v
 rw [joined_by ol.row or.row (by omega) b1]
 exact h.1
section
variable {H0 : Hp} {σ : L2.St} {ta tb tc td : TE} {E : XK} {C D : Addr} {t : TD}
theorem y_rowBefore {l r : List Point} (h1 : Yd H0 ta σ (TreeV C t)) (h2 : Yd H0 tb σ (RowV l)) (h3 : Yd H0 tc σ (RowV r)) (h : (1 <= t.b /\ t.b <= t.a /\ t.a <= 100) /\ RowOk l /\ RowOk r /\ MidR (l.map (Vbchal.taken t.a t.b)) /\ MidR (r.map (Vbchal.taken t.a t.b))) :
  Yd H0 (tCall (sp_row_before C) [] E (tCons ta (tCons tb (tCons tc tNil)))) σ (AndV (RowV (Vbchal.joined t.a t.b l r)) (NewV H0)) := y_callN (t,l,r) (ya_cons h1 (ya_cons h2 (ya_cons h3 ya_nil))) h fun _ _ _ _ q => q
end
structure StepOk (t : TD) (i : Nat) (lv : List (List Point)) : Prop where
 len : lv.length = i + 2
 row : ∀ j,j <= i + 1 -> RowOk (lv.getD j [])
 tkn : ∀ j,j <= i + 1 -> MidR ((lv.getD j []).map (Vbchal.taken t.a t.b))
 mid : ∀ j,j <= i -> MidR (Vbchal.joined t.a t.b (lv.getD j []) (lv.getD (j + 1) []))
def stepOf (t : TD) (i : Nat) (lv : List (List Point)) : List (List Point) := (List.range (i + 1)).map fun j => Vbchal.between (Vbchal.bidF (Vbchal.quoteAt t.tree i j)) (Vbchal.askF (Vbchal.quoteAt t.tree i j)) (Vbchal.joined t.a t.b (lv.getD j []) (lv.getD (j + 1) []))
theorem row_get {lv : List (List Point)} {j : Nat} (h : j < lv.length) : atI lv (j : Int) = some (lv.getD j []) := atI_nat (by rw [List.getD_eq_getElem?_getD,List.getElem?_eq_getElem h]; rfl)
def sp_step_before (C : Addr) : Sp := spN (ι := TD × Nat × List (List Point)) (fun i => [TreeV C i.1,IntV (i.2.1 : Int),LevV i.2.2]) (fun i => TDok i.1 /\ i.2.1 < i.1.n /\ StepOk i.1 i.2.1 i.2.2) (fun i H => LevN H (stepOf i.1 i.2.1 i.2.2))
theorem ok_step_before (T : Txt K mg A) : FnOk P w K mg base CX0 7 A.f_step_before A.d_step_before p_step_before (sp_step_before A.c_Tree) := by
 refine T.F_step_before.ok sc_step_before (spN_len fun _ => rfl) fun cdv Ao outer s H vs Q E hr hsp => ?_
 obtain ⟨⟨t,i,lv⟩,⟨v1,_,rfl,h1,v2,_,rfl,h2,v3,_,rfl,h3,rfl⟩,⟨tk,hi,so⟩,q⟩ := hsp
 cases h2
 have h1 : TreeV A.c_Tree t H v1 := h1
 have h3 : LevV lv H v3 := h3
 have tk : TDok t := tk
 have hi : i < t.n := hi
 have so : StepOk t i lv := so
 refine ⟨_,(pss_cons (ps_set (i := 3) sc_step_before.nd rfl (Or.inl rfl) (pe_lst pa_nil))
   (pss_cons (ps_for PassesOwn.never rfl (pi_range1 rfl T.n_range (pa_cons (pe_op op_add (pv 1) pe_int) pa_nil)) (pg_name (i := 4) sc_step_before.nd rfl (Or.inl rfl)) (pss_cons (ps_set (i := 5) sc_step_before.nd rfl (Or.inl rfl) (pe_call (ok_row_before T) (hr.mono (by decide)) rfl T.m_row_before T.F_row_before.kp T.b_row_before .nil pass0 (pa_cons (pv 0) (pa_cons (pe_ix ix_list (pv 2) (pv 4) (fun _ _ => rfl)) (pa_cons (pe_ix ix_list (pv 2) (pe_op op_add (pv 4) pe_int) (fun _ _ => rfl)) pa_nil)))))
   (pss_one (ps_expr (pe_bm PySem.F.plainAttrs_list PySem.F.slot_list_append PySem.F.type_list_append mt_append (pv 3) (pa_cons (pe_call (ok_cut_row T) (hr.mono (by decide)) rfl T.m_cut_row T.F_cut_row.kp T.b_cut_row .nil pass0 (pa_cons (pv 5) (pa_cons (pe_call (ok_ratio T) (hr.mono (by decide)) rfl T.m_ratio T.F_ratio.kp T.b_ratio .nil pass0 (pa_cons (pe_meth (pv 0) T.cl_Tree T.me_Tree_bid_at (ok_Tree_bid_at T) (hr.mono (by decide)) T.b_Tree_bid_at .nil pass0 (pa_cons (pv 1) (pa_cons (pv 4) pa_nil))) (pa_cons pe_int pa_nil))) (pa_cons (pe_call (ok_ratio T) (hr.mono (by decide)) rfl T.m_ratio T.F_ratio.kp T.b_ratio .nil pass0 (pa_cons (pe_meth (pv 0) T.cl_Tree T.me_Tree_ask_at (ok_Tree_ask_at T) (hr.mono (by decide)) T.b_Tree_ask_at .nil pass0 (pa_cons (pv 1) (pa_cons (pv 4) pa_nil))) (pa_cons pe_int pa_nil))) pa_nil)))) pa_nil))))))
   (pss_one (ps_ret (pv 3))))),?_⟩
 have n4 := tk.ok.n4
 have hab : 1 <= t.b /\ t.b <= t.a /\ t.a <= 100 := ⟨tk.ok.b1,tk.ok.ba,tk.ok.a2⟩
 refine s_set (y_lst (F := fun l => RowV l) (l := []) (by decide) yl_nil) fun vp H1 s1 hp => ?_
 obtain ⟨⟨a,vs0,rfl,ea,f0⟩,⟨a',e',na⟩⟩ := hp
 cases e'
 cases f0
 refine s_forR (n := i + 1) ((y_rI0 (y_var (P := IntV i) rfl rfl) y_c).eq (by rfl)) (Nat.lt_of_le_of_lt (m := 1000) (by omega) (by decide))
  (fun m σ H' => ∃ vj vr,σ = [some v1,some (.int i),some v3,some (.ref a),vj,vr] /\ Same H H' /\ ∃ vs,H' a = some (.lst vs) /\ vs.length = m /\ All2 (fun u l => AndV (OffV a (RowV l)) (NewV H) H' u) vs ((List.range m).map fun j => Vbchal.between (Vbchal.bidF (Vbchal.quoteAt t.tree i j)) (Vbchal.askF (Vbchal.quoteAt t.tree i j)) (Vbchal.joined t.a t.b (lv.getD j []) (lv.getD (j + 1) [])))) ?_ ?_ ?_
 ·exact fun H' s' => ⟨none,none,rfl,s1.trans s',[],s' _ _ ea,rfl,.nil⟩
 ·rintro j σ H' hj ⟨vj,vr,rfl,sH,vs,ev,lv',fv⟩
  have hj' : j <= i := by omega
  have t' : TreeV A.c_Tree t H' v1 := Mono.up sH h1
  have l' : LevV lv H' v3 := Mono.up sH h3
  have o1 := so.row j (by omega)
  have o2 := so.row (j + 1) (by omega)
  have jr : SRow (Vbchal.joined t.a t.b (lv.getD j []) (lv.getD (j + 1) [])) := joined_row o1.row o2.row (by omega) (by omega)
  have jn : Vbchal.joined t.a t.b (lv.getD j []) (lv.getD (j + 1) []) ≠ [] := joined_ne o1.row o2.row (by omega) o1.ne
  have jl := joined_len t.a t.b (lv.getD j []) (lv.getD (j + 1) [])
  have l1 := o1.len
  have l2 := o2.len
  have qk := tk.ok.quo i j (by omega) hj'
  show tSeq _ _ _ [some v1,some (V.int i),some v3,some (V.ref a),some (V.int j),vr] H'
  refine s_set (y_rowBefore (t := t) (l := lv.getD j []) (r := lv.getD (j + 1) []) (y_var rfl t') (y_ixL (y_var rfl l') (y_var (P := IntV j) rfl rfl) (row_get (by rw [so.len]; omega))) (y_ixL (y_var rfl l') ((y_rI0 (y_var (P := IntV j) rfl rfl) y_c).eq (by rfl)) (row_get (j := j + 1) (by rw [so.len]; omega))) ⟨hab,o1,o2,so.tkn j (by omega),so.tkn (j + 1) (by omega)⟩).l fun v5 H5 s5 h5 => ?_
  have t5 : TreeV A.c_Tree t H5 v1 := Mono.up s5 t'
  refine s_append1 rfl (s5 _ _ ev) (by exact Nat.lt_of_le_of_lt (m := 1000) (by omega) (by decide)) (y_cut (y_var rfl h5) (y_whole (y_bid tk (by omega) hj' (y_var rfl t5) (y_var (P := IntV i) rfl rfl) (y_var (P := IntV j) rfl rfl))) (y_whole (y_ask tk (by omega) hj' (y_var rfl t5) (y_var (P := IntV i) rfl rfl) (y_var (P := IntV j) rfl rfl))) ⟨jr,so.mid j hj',jn,⟨whole_wf _,bidF_sz qk⟩,⟨whole_wf _,askF_sz qk⟩,by omega⟩) fun v6 H6 s6 h6 => ?_
  have mu : MuL a H6 (upd H6 a (.lst (vs ++ [v6]))) := MuL.upd (s6 _ _ (s5 _ _ ev))
  refine ⟨_,_,rfl,((sH.trans (s5.trans s6)).mu na),_,upd_same,by simp; omega,?_⟩
  rw [List.range_succ,List.map_append]
  refine (fv.imp fun u l h => ⟨RowV.mu mu (Mono.up (s5.trans s6) h.1),h.2⟩).append (.one ⟨RowV.mu mu ⟨h6.1,h6.2.off (s5 _ _ ev)⟩,h6.2.old (sH.trans s5)⟩)
 ·rintro σ H' ⟨vj,vr,rfl,sH,vs,ev,_,fv⟩
  refine s_ret (P := AndV (LevN H (stepOf t i lv)) (EqV (.ref a))) (y_var rfl ⟨⟨a,vs,rfl,ev,fv.imp fun u l h => ⟨h.1.1,h.2⟩⟩,rfl⟩) fun v H2 s2 h => q v H2 (sH.trans s2) h.1 ⟨a,h.2,na⟩
section
variable {H0 : Hp} {σ : L2.St} {ta tb tc td : TE} {E : XK} {C D : Addr} {t : TD}
theorem y_stepBefore {i : Nat} {lv : List (List Point)} (h1 : Yd H0 ta σ (TreeV C t)) (h2 : Yd H0 tb σ (IntV (i : Int))) (h3 : Yd H0 tc σ (LevV lv)) (h : TDok t /\ i < t.n /\ StepOk t i lv) :
  Yd H0 (tCall (sp_step_before C) [] E (tCons ta (tCons tb (tCons tc tNil)))) σ (AndV (LevN H0 (stepOf t i lv)) (NewV H0)) := y_callN (t,i,lv) (ya_cons h1 (ya_cons h2 (ya_cons h3 ya_nil))) h fun _ _ _ s q => q.old s
end
theorem Good.midp {k : Nat} {l : List Point} (h : Good k l) (hk : k <= 3) : MidR l := fun p hp => by
 have s := h.sz p hp
 have wf := h.row.1 p hp
 obtain ⟨a,b,c,d⟩ := NV_le hk
 exact ⟨⟨wf.q,s.1.mono (by omega) (by omega)⟩,⟨wf.v,s.2.mono (by omega) (by omega)⟩⟩
theorem GoodR.midp {k : Nat} {l : List Point} (h : GoodR k l) (hk : k <= 3) : MidR l := fun p hp => by
 have s := h.sz p hp
 have wf := h.row.1 p hp
 obtain ⟨a,b,c,d⟩ := NV_le hk
 exact ⟨⟨wf.q,s.1.mono c d⟩,⟨wf.v,s.2.mono a b⟩⟩
theorem Good.bigp {k : Nat} {l : List Point} (h : Good k l) (hk : k <= 4) : ∀ p ∈ l,BigP p := fun p hp => by
 have s := h.sz p hp
 have wf := h.row.1 p hp
 obtain ⟨a,b,c,d⟩ := NV_le4 hk
 exact ⟨⟨wf.q,s.1.mono c d⟩,⟨wf.v,s.2.mono a b⟩⟩
theorem stepOk_of {t : TD} (tk : TDok t) {c : Vbchal.Claim} {i : Nat} (hi : i < t.n) (g : ∀ j,j <= i + 1 -> Good (t.n - (i + 1)) ((lev t.tree c (i + 1)).getD j [])) : StepOk t i (lev t.tree c (i + 1)) := by
 have n4 := tk.ok.n4
 have hk : t.n - (i + 1) <= 3 := by omega
 have hb : 0 < t.b := tk.ok.b1
 have ha : 0 < t.a := Nat.lt_of_lt_of_le hb tk.ok.ba
 have a2 : t.a <= 100 := tk.ok.a2
 have b2 : t.b <= 100 := Nat.le_trans tk.ok.ba tk.ok.a2
 refine ⟨by rw [lev_len tk.ok c (by omega)],fun j hj => ⟨(g j hj).row,(g j hj).midp hk,(g j hj).ne,?_⟩,fun j hj p hp => ?_,fun j hj => (joined_good (g j (by omega)) (g (j + 1) (by omega)) ha hb a2 b2).midp hk⟩
 ·have := lev_row_len' tk.ok c (i := i + 1) (by omega) hj
  omega
 ·obtain ⟨r,hr,rfl⟩ := List.mem_map.mp hp
  have s := (g j hj).sz r hr
  have wf := (g j hj).row.1 r hr
  obtain ⟨x1,x2,x3,x4⟩ := NV_le hk
  have wt := taken_wf (b := t.b) wf ha
  exact ⟨⟨wt.q,(taken_sz wf.q s.1 ha a2 b2).mono (by omega) (by omega)⟩,⟨wt.v,(taken_sz wf.v s.2 ha a2 b2).mono (by omega) (by omega)⟩⟩
theorem stepOf_lev {t : TD} (tk : TDok t) (c : Vbchal.Claim) {i : Nat} (hi : i < t.n) : stepOf t i (lev t.tree c (i + 1)) = lev t.tree c i := by
 rw [lev_step tk.ok c hi]
 rfl
theorem LevV.offNew {H1 : Hp} {p : Addr} {o : HO} {ls : List (List Point)} {v : V} (h : LevV ls H1 v) (hp : H1 p = Option.none) : LevO p ls (upd H1 p o) v := by
 obtain ⟨b,vs,rfl,hb,f⟩ := h
 have s : Same H1 (upd H1 p o) := Same.upd hp
 have off : ∀ u l,RowV l H1 u -> OffV p (RowV l) (upd H1 p o) u := fun u l q => ⟨Mono.up s q,fun z => by
  obtain ⟨b',vs',e,hb',_⟩ := q
  rw [e] at z
  cases z
  rw [hp] at hb'
  cases hb'⟩
 refine ⟨⟨b,vs,rfl,s _ _ hb,f.imp off⟩,fun z => ?_⟩
 cases z
 rw [hp] at hb
 cases hb
section
variable {H0 H : Hp} {σ : L2.St} {te ta tb tc td : TE} {E : XK} {C D : Addr} {t : TD} {i : Nat} {u : TS} {Dn : Ends} {R : VP}
theorem s_lst1 (h : Yd H te σ R) (k : ∀ v H1 p,Same H H1 -> R H1 v -> H1 p = Option.none -> u Dn (σ.set i (some (.ref p))) (upd H1 p (.lst [v]))) : tSeq (tAsg (tLst (tCons te tNil)) (gName i)) u Dn σ H :=
 h H _ (Same.refl H) fun v H1 s1 hv => ⟨by show 1 <= sizeLine; decide,fun p hp => k v H1 p s1 hv hp⟩
end
def sp_points_by_step (C D : Addr) : Sp := spA (ι := TD × Vbchal.Claim) (fun i => [TreeV C i.1,ClaimV D i.2]) (fun i => TDok i.1 /\ Vbchal.fair i.1.tree = true /\ COk i.1.n i.2) (fun i => LsV LevV ((List.range (i.1.n + 1)).map (lev i.1.tree i.2)))
theorem ok_points_by_step (T : Txt K mg A) : FnOk P w K mg base CX0 8 A.f_points_by_step A.d_points_by_step p_points_by_step (sp_points_by_step A.c_Tree A.c_Claim) := by
 refine T.F_points_by_step.ok sc_points_by_step (spA_len fun _ => rfl) fun cdv Ao outer s H vs Q E hr hsp => ?_
 obtain ⟨⟨t,c⟩,⟨v1,_,rfl,h1,v2,_,rfl,h2,rfl⟩,⟨tk,hf,ck⟩,q⟩ := hsp
 have h1 : TreeV A.c_Tree t H v1 := h1
 have h2 : ClaimV A.c_Claim c H v2 := h2
 have tk : TDok t := tk
 have hf : Vbchal.fair t.tree = true := hf
 have ck : COk t.n c := ck
 refine ⟨_,(pss_cons (ps_set (i := 2) sc_points_by_step.nd rfl (Or.inl rfl) (pe_lst (pa_cons (pe_call (ok_last_step T) (hr.mono (by decide)) rfl T.m_last_step T.F_last_step.kp T.b_last_step .nil pass0 (pa_cons (pv 0) (pa_cons (pv 1) pa_nil))) pa_nil)))
   (pss_cons (ps_for PassesOwn.never rfl (pi_range3 rfl T.n_range (pa_cons (pe_op op_sub (pe_fld (pv 0) rfl) pe_int) (pa_cons (pe_un un_neg pe_int) (pa_cons (pe_un un_neg pe_int) pa_nil)))) (pg_name (i := 3) sc_points_by_step.nd rfl (Or.inl rfl)) (pss_one (ps_expr (pe_bm PySem.F.plainAttrs_list PySem.F.slot_list_insert PySem.F.type_list_insert mt_insert (pv 2) (pa_cons pe_int (pa_cons (pe_call (ok_step_before T) (hr.mono (by decide)) rfl T.m_step_before T.F_step_before.kp T.b_step_before .nil pass0 (pa_cons (pv 0) (pa_cons (pv 3) (pa_cons (pe_ix ix_list (pv 2) pe_int (fun _ _ => rfl)) pa_nil)))) pa_nil))))))
   (pss_one (ps_ret (pv 2))))),?_⟩
 have n4 := tk.ok.n4
 refine s_lst1 (y_lastStep (y_var rfl h1) (y_var rfl h2) ⟨tk,ck⟩) fun v3 H1 a s1 h3 na => ?_
 have h3 : LevN H (lev t.tree c t.n) H1 v3 := h3.1
 have na0 : H a = Option.none := s1.free na
 have s2 : Same H1 (upd H1 a (.lst [v3])) := Same.upd na
 refine s_forD (n := t.n) (y_rI0 (y_steps T (y_var rfl (Mono.up (s1.trans s2) h1))) y_c) (by omega)
  (fun m σ H' => ∃ vi,σ = [some v1,some v2,some (.ref a),vi] /\ Same H H' /\ ∃ vs,H' a = some (.lst vs) /\ All2 (fun u l => LevO a l H' u) vs ((List.range (m + 1)).map fun d => lev t.tree c (t.n - m + d))) ?_ ?_ ?_
 ·exact fun H' s' => ⟨none,rfl,s1.trans (s2.trans s'),[v3],s' _ _ upd_same,.one (by
   have := (LevN.lev h3).offNew (o := .lst [v3]) na
   exact ⟨Mono.up s' this.1,this.2⟩)⟩
 ·rintro m σ H' hm ⟨vi,rfl,sH,vs,ev,fv⟩
  show tDrop _ _ [some v1,some v2,some (V.ref a),some (V.int ((t.n - 1 - m : Nat) : Int))] H'
  have ei : t.n - 1 - m + 1 = t.n - m := by omega
  have hlt : t.n - 1 - m < t.n := by omega
  have so := stepOk_of tk (c := c) hlt fun j hj => good_at tk.ok hf ck (by omega) hj
  rw [ei] at so
  have e0 : atI ((List.range (m + 1)).map fun d => lev t.tree c (t.n - m + d)) 0 = some (lev t.tree c (t.n - m)) := atI_nat (j := 0) (by rw [List.getElem?_map,List.getElem?_range (by omega)]; rfl)
  have hl := fv.len
  rw [List.length_map,List.length_range] at hl
  refine s_insert1 rfl ev (by exact Nat.lt_of_le_of_lt (m := 1000) (by omega) (by decide)) (y_stepBefore (y_var rfl (Mono.up sH h1)) (y_var (P := IntV ((t.n - 1 - m : Nat) : Int)) rfl rfl) (y_ixL (F := LevV) (y_var rfl ⟨a,vs,rfl,ev,fv.imp fun _ _ q => q.lev⟩) y_c e0) ⟨tk,hlt,so⟩) fun v H2 s3 hv => ?_
  have mu : MuL a H2 (upd H2 a (.lst (v :: vs))) := MuL.upd (s3 _ _ ev)
  refine ⟨_,rfl,(sH.trans s3).mu na0,_,upd_same,?_⟩
  rw [List.range_succ_eq_map,List.map_cons,List.map_map]
  have el : lev t.tree c (t.n - (m + 1) + 0) = stepOf t (t.n - 1 - m) (lev t.tree c (t.n - m)) := by
   rw [<- ei,stepOf_lev tk c hlt]
   congr 1
   omega
  refine .cons ?_ ?_
  ·rw [el]
   exact LevO.mu mu (LevN.off hv.1 hv.2 ev)
  ·have eq : ((fun d => lev t.tree c (t.n - (m + 1) + d)) ∘ Nat.succ) = fun d => lev t.tree c (t.n - m + d) := by
    funext d
    show lev t.tree c (t.n - (m + 1) + (d + 1)) = _
    congr 1
    omega
   rw [eq]
   exact fv.imp fun u l q => LevO.mu mu ⟨Mono.up s3 q.1,q.2⟩
 ·rintro σ H' ⟨vi,rfl,sH,vs,ev,fv⟩
  refine s_ret (P := LsV LevV ((List.range (t.n + 1)).map (lev t.tree c))) (y_var rfl ⟨a,vs,rfl,ev,?_⟩) fun v H2 s2 h => q v H2 (sH.trans s2) h
  have eq : (fun d => lev t.tree c (t.n - t.n + d)) = lev t.tree c := by
   funext d
   congr 1
   omega
  rw [eq] at fv
  exact fv.imp fun _ _ q => q.lev
section
variable {H0 H : Hp} {σ : L2.St} {te ta tb tc td : TE} {E : XK} {C D : Addr} {t : TD}
theorem y_points {c : Vbchal.Claim} (h1 : Yd H0 ta σ (TreeV C t)) (h2 : Yd H0 tb σ (ClaimV D c)) (h : TDok t /\ Vbchal.fair t.tree = true /\ COk t.n c) : Yd H0 (tCall (sp_points_by_step C D) [] E (tCons ta (tCons tb tNil))) σ (LsV LevV ((List.range (t.n + 1)).map (lev t.tree c))) :=
 y_call (t,c) (ya_cons h1 (ya_cons h2 ya_nil)) h
theorem y_lev {c : Vbchal.Claim} {i : Nat} (h : TDok t) (hi : i <= t.n) (h1 : Yd H0 ta σ (LsV LevV ((List.range (t.n + 1)).map (lev t.tree c)))) (h2 : Yd H0 tb σ (IntV (i : Int))) : Yd H0 (tOp (rIxL K) ta tb) σ (LevV (lev t.tree c i)) :=
 y_ixL h1 h2 (atI_nat (by rw [List.getElem?_map,List.getElem?_range (by omega)]; rfl))
theorem y_row {c : Vbchal.Claim} {i j : Nat} (h : TDok t) (hi : i <= t.n) (hj : j <= i) (h1 : Yd H0 ta σ (LevV (lev t.tree c i))) (h2 : Yd H0 tb σ (IntV (j : Int))) : Yd H0 (tOp (rIxL K) ta tb) σ (RowV ((lev t.tree c i).getD j [])) :=
 y_ixL h1 h2 (atI_nat (lev_get h.ok c hi hj))
end
theorem nothing_td {t : TD} (tk : TDok t) : Vbchal.nothing t.tree = ⟨List.replicate (t.n + 1) 0,List.replicate (t.n + 1) 0⟩ := nothing_eq tk.ok
def sp_node_range (C D : Addr) : Sp := spA (ι := TD × Nat × Nat) (fun i => [TreeV C i.1,IntV (i.2.1 : Int),IntV (i.2.2 : Int)]) (fun i => TDok i.1 /\ Vbchal.fair i.1.tree = true /\ i.2.1 <= i.1.n /\ i.2.2 <= i.2.1)
 (fun i => PairV (FrV (Vbchal.firstQ ((lev i.1.tree (Vbchal.nothing i.1.tree) i.2.1).getD i.2.2 []))) (FrV (Vbchal.lastQ ((lev i.1.tree (Vbchal.nothing i.1.tree) i.2.1).getD i.2.2 []))))
theorem atI_ends {l : List Point} (hn : l ≠ []) : ∃ pa pb,atI l 0 = some pa /\ atI l (-1) = some pb /\ Vbchal.firstQ l = pa.q /\ Vbchal.lastQ l = pb.q := by
 obtain ⟨pa,hpa⟩ := head_of hn
 obtain ⟨pb,hpb⟩ := last_of hn
 refine ⟨pa,pb,?_,?_,firstQ_of hpa,lastQ_of hpb⟩
 ·cases l with
  | nil => exact absurd rfl hn
  | cons z zs => exact atI_nat (j := 0) hpa
 ·obtain ⟨ys,e⟩ := List.getLast?_eq_some_iff.mp hpb
  rw [e]; exact atI_last _ _
section
variable {H0 H : Hp} {σ : L2.St} {te ta tb tc td : TE} {E : XK} {C D : Addr} {t : TD}
instance {P R : VP} [Mono P] [Mono R] : Mono (PairV P R) := ⟨fun s ⟨T,u,w,e,h,h1,h2⟩ => ⟨T,u,w,e,s _ _ h,Mono.up s h1,Mono.up s h2⟩⟩
theorem y_pair {P R : VP} [Mono P] [Mono R] (ha : Yd H0 ta σ P) (hb : Yd H0 tb σ R) : Yd H0 (tTup (tCons ta (tCons tb tNil))) σ (PairV P R) := fun H Q s k =>
 ha H _ s fun v H1 s1 e1 => hb H1 _ (s.trans s1) fun u H2 s2 e2 => ⟨by show 2 <= sizeLine; decide,fun p hp => k _ _ (s1.trans (s2.trans (Same.upd hp)))
  ⟨p,v,u,rfl,upd_same,Mono.up (s2.trans (Same.upd hp)) e1,Mono.up (Same.upd hp) e2⟩⟩
theorem y_fst {P R : VP} (ha : Yd H0 ta σ (PairV P R)) : Yd H0 (tOp (rIxT K) ta (tC (.int 0))) σ P := y_ixT ha fun H v h => by
 obtain ⟨a,u,w,e,h,h1,h2⟩ := h
 exact ⟨a,_,u,e,SqT.of h,rfl,h1⟩
theorem y_snd {P R : VP} (ha : Yd H0 ta σ (PairV P R)) : Yd H0 (tOp (rIxT K) ta (tC (.int 1))) σ R := y_ixT ha fun H v h => by
 obtain ⟨a,u,w,e,h,h1,h2⟩ := h
 exact ⟨a,_,w,e,SqT.of h,rfl,h2⟩
end
theorem ok_node_range (T : Txt K mg A) : FnOk P w K mg base CX0 9 A.f_node_range A.d_node_range p_node_range (sp_node_range A.c_Tree A.c_Claim) := by
 refine T.F_node_range.ok sc_node_range (spA_len fun _ => rfl) fun cdv Ao outer s H vs Q E hr hsp => ?_
 obtain ⟨⟨t,i,j⟩,⟨v1,_,rfl,h1,v2,_,rfl,h2,v3,_,rfl,h3,rfl⟩,⟨tk,hf,hi,hj⟩,q⟩ := hsp
 cases h2; cases h3
 have h1 : TreeV A.c_Tree t H v1 := h1
 have tk : TDok t := tk
 have hf : Vbchal.fair t.tree = true := hf
 have hi : i <= t.n := hi
 have hj : j <= i := hj
 refine ⟨_,(pss_cons (ps_set (i := 3) sc_node_range.nd rfl (Or.inl rfl) (pe_ix ix_list (pe_ix ix_list (pe_call (ok_points_by_step T) (hr.mono (by decide)) rfl T.m_points_by_step T.F_points_by_step.kp T.b_points_by_step .nil pass0 (pa_cons (pv 0) (pa_cons (pe_call (ok_empty_claim T) (hr.mono (by decide)) rfl T.m_empty_claim T.F_empty_claim.kp T.b_empty_claim .nil pass0 (pa_cons (pe_fld (pv 0) rfl) pa_nil)) pa_nil))) (pv 1) (fun _ _ => rfl)) (pv 2) (fun _ _ => rfl)))
   (pss_one (ps_ret (pe_tup (pa_cons (pe_ix ix_tup (pe_ix ix_list (pv 3) pe_int (fun _ _ => rfl)) pe_int (fun _ _ => rfl)) (pa_cons (pe_ix ix_tup (pe_ix ix_list (pv 3) (pe_un un_neg pe_int) (fun _ _ => rfl)) pe_int (fun _ _ => rfl)) pa_nil)))))),?_⟩
 have n4 := tk.ok.n4
 have ck : COk t.n (Vbchal.nothing t.tree) := nothing_ok tk.ok
 have E0' := (y_empty (H0 := H) (σ := start n_node_range [v1,.int (i : Int),.int (j : Int)]) (E := E0) (C := A.c_Claim) (ta := tFld K (tVar 0) "steps") (y_steps T (y_var rfl h1)) (n := t.n) (by omega)).l
 rw [<- nothing_td tk] at E0'
 refine s_set (y_row tk hi hj (y_lev tk hi (y_points (y_var rfl h1) E0' ⟨tk,hf,ck⟩) (y_var (P := IntV i) rfl rfl)) (y_var (P := IntV j) rfl rfl)) fun v4 H4 s4 h4 => ?_
 have g := good_at tk.ok hf ck hi hj
 obtain ⟨pa,pb,a0,a1,e0,e1⟩ := atI_ends g.ne
 refine s_ret (y_pair (y_q (y_ixL (y_var rfl h4) y_c a0)) (y_q (y_ixL (y_var rfl h4) (y_rU y_c) a1))) fun v H5 s5 h => q v H5 (s4.trans s5) ?_
 show PairV (FrV (Vbchal.firstQ ((lev t.tree (Vbchal.nothing t.tree) i).getD j []))) (FrV (Vbchal.lastQ ((lev t.tree (Vbchal.nothing t.tree) i).getD j []))) H5 v
 rw [e0,e1]
 exact h
def sp_is_let (C D : Addr) : Sp := spA (ι := TD) (fun t => [TreeV C t]) (fun t => TDok t) (fun t => BlV (Vbchal.fair t.tree))
theorem ok_is_let (T : Txt K mg A) : FnOk P w K mg base CX0 8 A.f_is_let A.d_is_let p_is_let (sp_is_let A.c_Tree A.c_Claim) := by
 refine T.F_is_let.ok sc_is_let (spA_len fun _ => rfl) fun cdv Ao outer s H vs Q E hr hsp => ?_
 obtain ⟨t,⟨v1,_,rfl,h1,rfl⟩,tk,q⟩ := hsp
 have h1 : TreeV A.c_Tree t H v1 := h1
 have tk : TDok t := tk
 refine ⟨_,(pss_cons (ps_set (i := 1) sc_is_let.nd rfl (Or.inl rfl) (pe_call (ok_last_step T) (hr.mono (by decide)) rfl T.m_last_step T.F_last_step.kp T.b_last_step .nil pass0 (pa_cons (pv 0) (pa_cons (pe_call (ok_empty_claim T) (hr.mono (by decide)) rfl T.m_empty_claim T.F_empty_claim.kp T.b_empty_claim .nil pass0 (pa_cons (pe_fld (pv 0) rfl) pa_nil)) pa_nil))))
   (pss_cons (ps_for PassesOwn.never rfl (pi_range3 rfl T.n_range (pa_cons (pe_op op_sub (pe_fld (pv 0) rfl) pe_int) (pa_cons (pe_un un_neg pe_int) (pa_cons (pe_un un_neg pe_int) pa_nil)))) (pg_name (i := 2) sc_is_let.nd rfl (Or.inl rfl)) (pss_cons (ps_set (i := 1) sc_is_let.nd rfl (Or.inl rfl) (pe_call (ok_step_before T) (hr.mono (by decide)) rfl T.m_step_before T.F_step_before.kp T.b_step_before .nil pass0 (pa_cons (pv 0) (pa_cons (pv 2) (pa_cons (pv 1) pa_nil)))))
   (pss_one (ps_if (pt_cmpR (op_in_rows hr.units) (pe_lst pa_nil) (pv 1) (by with_unfolding_all rfl)) (pss_one (ps_ret pe_bl)) pss_nil))))
   (pss_one (ps_ret pe_bl)))),?_⟩
 have n4 := tk.ok.n4
 have ck : COk t.n (Vbchal.nothing t.tree) := nothing_ok tk.ok
 have E0' := (y_empty (H0 := H) (σ := start n_is_let [v1]) (E := E0) (C := A.c_Claim) (ta := tFld K (tVar 0) "steps") (y_steps T (y_var rfl h1)) (n := t.n) (by omega)).l
 rw [<- nothing_td tk] at E0'
 have q : ∀ r H',Same H H' -> r = .bl (Vbchal.fair t.tree) -> Q r H' := q
 refine s_set (y_lastStep (y_var rfl h1) E0' ⟨tk,ck⟩) fun v2 H2 s2 h2 => ?_
 have h2 : LevV (lev t.tree (Vbchal.nothing t.tree) t.n) H2 v2 := LevN.lev h2.1
 refine s_forD (n := t.n) (y_rI0 (y_steps T (y_var rfl (Mono.up s2 h1))) y_c) (by omega)
  (fun m σ H' => ∃ vp vi,σ = [some v1,some vp,vi] /\ Same H H' /\ LevV (lev t.tree (Vbchal.nothing t.tree) (t.n - m)) H' vp /\ ∀ i' j',t.n - m <= i' -> i' <= t.n -> j' <= i' -> (lev t.tree (Vbchal.nothing t.tree) i').getD j' [] ≠ []) ?_ ?_ ?_
 ·refine fun H' s' => ⟨v2,none,rfl,s2.trans s',Mono.up s' h2,fun i' j' h1' h2' h3' => ?_⟩
  have e : i' = t.n := by omega
  subst e
  rw [lev_last_at tk.ok _ h3']
  have qk := tk.ok.quo t.n j' (Nat.le_refl _) h3'
  exact (lastPoints_good qk.le qk.hi (getD_all ck.cs) (getD_all ck.us)).ne
 ·rintro m σ H' hm ⟨vp,vi,rfl,sH,hp,hne⟩
  show tSeq _ _ _ [some v1,some vp,some (V.int ((t.n - 1 - m : Nat) : Int))] H'
  have ei : t.n - 1 - m + 1 = t.n - m := by omega
  have hlt : t.n - 1 - m < t.n := by omega
  have so := stepOk_of tk (c := Vbchal.nothing t.tree) hlt fun j hj => (good_lev tk.ok ck (t.n - (t.n - 1 - m + 1)) (t.n - 1 - m + 1) (by omega) (fun i' j' a b c => hne i' j' (by omega) b c) j hj).1
  rw [ei] at so
  refine s_set (y_stepBefore (y_var rfl (Mono.up sH h1)) (y_var (P := IntV ((t.n - 1 - m : Nat) : Int)) rfl rfl) (y_var rfl hp) ⟨tk,hlt,so⟩) fun v3 H3 s3 h3 => ?_
  have h3 : LevV (stepOf t (t.n - 1 - m) (lev t.tree (Vbchal.nothing t.tree) (t.n - m))) H3 v3 := LevN.lev h3.1
  rw [<- ei,stepOf_lev tk _ hlt] at h3
  have ll := lev_len tk.ok (Vbchal.nothing t.tree) (i := t.n - 1 - m) (by omega)
  refine s_if (yt_tst (y_inRows (i := 1) rfl h3)) (fun e H4 s4 => ?_) (fun e H4 s4 => ?_)
  ·refine s_ret (y_c (v := .bl false)) fun v H5 s5 h => q v H5 (sH.trans (s3.trans (s4.trans s5))) ?_
   rw [show v = _ from h]
   congr 1
   cases hff : Vbchal.fair t.tree with
   | false => rfl
   | true =>
    exfalso
    have all := (fair_iff tk.ok).mp hff
    obtain ⟨l,hl,he⟩ := List.any_eq_true.mp e
    obtain ⟨j,hj,ej⟩ := mem_getD (d := []) hl
    rw [ll] at hj
    have := all (t.n - 1 - m) j (by omega) (by omega)
    rw [ej] at this
    exact this (List.isEmpty_iff.mp he)
  ·refine ⟨v3,_,rfl,sH.trans (s3.trans s4),?_,fun i' j' a b c => ?_⟩
   ·have : t.n - (m + 1) = t.n - 1 - m := by omega
    rw [this]
    exact Mono.up s4 h3
   ·rcases Nat.lt_or_ge i' (t.n - m) with z | z
    ·have e' : i' = t.n - 1 - m := by omega
     subst e'
     intro z
     have hm' : (lev t.tree (Vbchal.nothing t.tree) (t.n - 1 - m)).getD j' [] ∈ lev t.tree (Vbchal.nothing t.tree) (t.n - 1 - m) := getD_mem (by rw [ll]; omega)
     rw [z] at hm'
     have : (lev t.tree (Vbchal.nothing t.tree) (t.n - 1 - m)).any List.isEmpty = true := List.any_eq_true.mpr ⟨[],hm',rfl⟩
     rw [this] at e
     cases e
    ·exact hne i' j' z b c
 ·rintro σ H' ⟨vp,vi,rfl,sH,hp,hne⟩
  refine s_ret (D := { nx := fun _ H' => Q .non H',rt := Q }) (σ := [some v1,some vp,vi]) (y_c (v := .bl true)) fun v H5 s5 h => q v H5 (sH.trans s5) ?_
  rw [show v = _ from h,(fair_iff tk.ok).mpr fun i j hi hj => hne i j (by omega) hi hj]
section
variable {H0 H : Hp} {σ : L2.St} {te ta tb tc td : TE} {E : XK} {C D : Addr} {t : TD}
theorem y_isLet (h1 : Yd H0 ta σ (TreeV C t)) (h : TDok t) : Yd H0 (tCall (sp_is_let C D) [] E (tCons ta tNil)) σ (BlV (Vbchal.fair t.tree)) := y_call t (ya_cons h1 ya_nil) h
theorem y_range {i j : Nat} (h1 : Yd H0 ta σ (TreeV C t)) (h2 : Yd H0 tb σ (IntV (i : Int))) (h3 : Yd H0 tc σ (IntV (j : Int))) (h : TDok t /\ Vbchal.fair t.tree = true /\ i <= t.n /\ j <= i) :
  Yd H0 (tCall (sp_node_range C D) [] E (tCons ta (tCons tb (tCons tc tNil)))) σ (PairV (FrV (Vbchal.firstQ ((lev t.tree (Vbchal.nothing t.tree) i).getD j []))) (FrV (Vbchal.lastQ ((lev t.tree (Vbchal.nothing t.tree) i).getD j [])))) := y_call (t,i,j) (ya_cons h1 (ya_cons h2 (ya_cons h3 ya_nil))) h
end
def OptV : Option Frac -> VP
 | none => EqV .non
 | some x => FrV x
theorem sl_tail {β : Type} (l : List β) : (l.drop (HT.sIx l.length 0 (some 1))).take (HT.sIx l.length l.length none - HT.sIx l.length 0 (some 1)) = l.drop 1 := by
 have e : HT.sIx l.length 0 (some 1) = min 1 l.length := HT.sIx_nat l.length 0 1
 rw [e,HT.sIx_none]
 cases l with
 | nil => rfl
 | cons a r =>
  rw [Nat.min_eq_left (by simp),List.take_of_length_le (by simp)]
theorem zip_tail {l : List Point} {i : Nat} {y : Point × Point} (h : (l.zip (l.drop 1))[i]? = some y) : l[i]? = some y.1 /\ l[i + 1]? = some y.2 := by
 obtain ⟨a,b⟩ := List.getElem?_zip_eq_some.mp h
 rw [List.getElem?_drop,Nat.add_comm] at b
 exact ⟨a,b⟩
theorem srow_get {l : List Point} (h : SRow l) {i j : Nat} {p r : Point} (hp : l[i]? = some p) (hr : l[j]? = some r) (hij : i < j) : val p.q < val r.q := by
 obtain ⟨h1,e1⟩ := List.getElem?_eq_some_iff.mp hp
 obtain ⟨h2,e2⟩ := List.getElem?_eq_some_iff.mp hr
 have := List.pairwise_iff_getElem.mp h.2 i j h1 h2 hij
 rw [e1,e2] at this
 exact this
theorem above_short {q : Frac} : ∀ {l : List Point},l.length <= 1 -> Vbchal.slopeAbove q l = none
 | [],_ => rfl
 | [_],_ => rfl
 | _ :: _ :: _,h => by simp at h
theorem below_short {q : Frac} : ∀ {l : List Point},l.length <= 1 -> Vbchal.slopeBelow q l = none
 | [],_ => rfl
 | [_],_ => rfl
 | _ :: _ :: _,h => by simp at h
def sp_lower_bound : Sp := spA (ι := List Point × Frac) (fun i => [RowV i.1,FrV i.2]) (fun i => SRow i.1 /\ MidR i.1 /\ Ft 14 0 i.2 /\ i.1.length <= 200) (fun i => OptV (Vbchal.slopeAbove i.2 i.1))
theorem ok_lower_bound (T : Txt K mg A) : FnOk P w K mg base CX0 5 A.f_lower_bound A.d_lower_bound p_lower_bound (sp_lower_bound) := by
 refine T.F_lower_bound.ok sc_lower_bound (spA_len fun _ => rfl) fun cdv Ao outer s H vs Q E hr hsp => ?_
 obtain ⟨⟨l,x⟩,⟨v1,_,rfl,h1,v2,_,rfl,h2,rfl⟩,⟨sr,ml,fx,hl⟩,q⟩ := hsp
 have h1 : RowV l H v1 := h1
 have h2 : FrV x H v2 := h2
 have sr : SRow l := sr
 have ml : MidR l := ml
 have fx : Ft 14 0 x := fx
 refine ⟨_,(pss_cons (ps_for PassesOwn.never rfl (pi_zip rfl T.n_zip (pa_cons (pv 0) (pa_cons (pe_slice sl_list (pv 0) (po_some pe_int) po_none) pa_nil))) (pg_tup rfl (pgs_cons (pg_name (i := 2) sc_lower_bound.nd rfl (Or.inl rfl)) (pgs_cons (pg_name (i := 3) sc_lower_bound.nd rfl (Or.inl rfl)) pgs_nil))) (pss_one (ps_if (PW.pt (pw_and (pt_not (pt_val (pe_call (ok_less T) (hr.mono (by decide)) rfl T.m_less T.F_less.kp T.b_less .nil pass0 (pa_cons (pv 1) (pa_cons (pe_ix ix_tup (pv 2) pe_int (fun _ _ => rfl)) pa_nil))))) (pw_and1 (pt_val (pe_call (ok_less T) (hr.mono (by decide)) rfl T.m_less T.F_less.kp T.b_less .nil pass0 (pa_cons (pv 1) (pa_cons (pe_ix ix_tup (pv 3) pe_int (fun _ _ => rfl)) pa_nil))))))) (pss_one (ps_ret (pe_call (ok_piece_slope T) (hr.mono (by decide)) rfl T.m_piece_slope T.F_piece_slope.kp T.b_piece_slope .nil pass0 (pa_cons (pv 2) (pa_cons (pv 3) pa_nil))))) pss_nil)))
   (pss_one (ps_ret pe_non))),?_⟩
 have Y2 : Yd H (tSl (rSlL K) (tVar 0) (tPart (tC (.int 1))) tNoPart) (start n_lower_bound [v1,v2]) (RowV (l.drop 1)) := (y_sl (F := PtV) (lo := some 1) (hi := none) (y_var rfl h1) (yo_some y_c) yo_none).l.imp fun H v h => by
  rw [sl_tail] at h; exact h
 refine s_for (yi_zip (F := PtV) (G := PtV) (y_var rfl h1) Y2) (fun i σ H' => ∃ a b,σ = [some v1,some v2,a,b] /\ Vbchal.slopeAbove x l = Vbchal.slopeAbove x (l.drop i)) (fun H' s' => ⟨none,none,rfl,by simp⟩) ?_ ?_
 ·rintro i z y σ H4 H5 hy s4 s5 ⟨a,b,rfl,es⟩ hE
  obtain ⟨T',u',w',rfl,hT,hp,hr'⟩ := hE
  obtain ⟨e1,e2⟩ := zip_tail hy
  have mp : MidP y.1 := ml _ (List.mem_of_getElem? e1)
  have mr : MidP y.2 := ml _ (List.mem_of_getElem? e2)
  have hlt := srow_get sr e1 e2 (Nat.lt_succ_self i)
  refine g_pair hT _ ?_
  have hp : PtV y.1 H5 u' := hp
  have hr' : PtV y.2 H5 w' := hr'
  have h25 : FrV x H5 v2 := Mono.up (s4.trans s5) h2
  show tIfS _ _ _ _ [some v1,some v2,some u',some w'] H5
  refine s_if (yt_and (yt_not (yt_tB (y_less (y_var rfl h25) (y_q (y_var rfl hp)) (okL fx mp.q (by decide))))) fun _ => yt_tB (y_less (y_var rfl h25) (y_q (y_var rfl hr')) (okL fx mr.q (by decide)))) (fun e H6 s6 => ?_) (fun e H6 s6 => ?_)
  ·rw [le_not_less mp.q.1 fx.1,Bool.and_eq_true] at e
   refine s_ret (y_slope (y_var rfl (Mono.up s6 hp)) (y_var rfl (Mono.up s6 hr')) mp mr hlt) fun v H7 s7 h => q v H7 (s4.trans (s5.trans (s6.trans s7))) ?_
   show OptV (Vbchal.slopeAbove x l) H7 v
   rw [es,drop_at e1,drop_at e2,above_cons,if_pos e]
   exact h
  ·rw [le_not_less mp.q.1 fx.1] at e
   refine ⟨s5.trans s6,_,_,rfl,?_⟩
   rw [es,drop_at e1,drop_at e2,above_cons,if_neg]
   intro z
   rw [z.1,z.2] at e
   cases e
 ·rintro σ H4 s4 ⟨a,b,rfl,es⟩
  have lz : (l.zip (l.drop 1)).length = l.length - 1 := by rw [List.length_zip,List.length_drop]; omega
  rw [lz,above_short (l := l.drop (l.length - 1)) (by rw [List.length_drop]; omega)] at es
  refine s_ret (D := { nx := fun _ H' => Q .non H',rt := Q }) (σ := [some v1,some v2,a,b]) (y_c (v := .non)) fun v H7 s7 h => q v H7 (s4.trans s7) ?_
  show OptV (Vbchal.slopeAbove x l) H7 v
  rw [es]
  exact h
def sp_upper_bound : Sp := spA (ι := List Point × Frac) (fun i => [RowV i.1,FrV i.2]) (fun i => SRow i.1 /\ MidR i.1 /\ Ft 14 0 i.2 /\ i.1.length <= 200) (fun i => OptV (Vbchal.slopeBelow i.2 i.1))
theorem ok_upper_bound (T : Txt K mg A) : FnOk P w K mg base CX0 5 A.f_upper_bound A.d_upper_bound p_upper_bound (sp_upper_bound) := by
 refine T.F_upper_bound.ok sc_upper_bound (spA_len fun _ => rfl) fun cdv Ao outer s H vs Q E hr hsp => ?_
 obtain ⟨⟨l,x⟩,⟨v1,_,rfl,h1,v2,_,rfl,h2,rfl⟩,⟨sr,ml,fx,hl⟩,q⟩ := hsp
 have h1 : RowV l H v1 := h1
 have h2 : FrV x H v2 := h2
 have sr : SRow l := sr
 have ml : MidR l := ml
 have fx : Ft 14 0 x := fx
 refine ⟨_,(pss_cons (ps_for PassesOwn.never rfl (pi_zip rfl T.n_zip (pa_cons (pv 0) (pa_cons (pe_slice sl_list (pv 0) (po_some pe_int) po_none) pa_nil))) (pg_tup rfl (pgs_cons (pg_name (i := 2) sc_upper_bound.nd rfl (Or.inl rfl)) (pgs_cons (pg_name (i := 3) sc_upper_bound.nd rfl (Or.inl rfl)) pgs_nil))) (pss_one (ps_if (PW.pt (pw_and (pt_val (pe_call (ok_less T) (hr.mono (by decide)) rfl T.m_less T.F_less.kp T.b_less .nil pass0 (pa_cons (pe_ix ix_tup (pv 2) pe_int (fun _ _ => rfl)) (pa_cons (pv 1) pa_nil)))) (pw_and1 (pt_not (pt_val (pe_call (ok_less T) (hr.mono (by decide)) rfl T.m_less T.F_less.kp T.b_less .nil pass0 (pa_cons (pe_ix ix_tup (pv 3) pe_int (fun _ _ => rfl)) (pa_cons (pv 1) pa_nil)))))))) (pss_one (ps_ret (pe_call (ok_piece_slope T) (hr.mono (by decide)) rfl T.m_piece_slope T.F_piece_slope.kp T.b_piece_slope .nil pass0 (pa_cons (pv 2) (pa_cons (pv 3) pa_nil))))) pss_nil)))
   (pss_one (ps_ret pe_non))),?_⟩
 have Y2 : Yd H (tSl (rSlL K) (tVar 0) (tPart (tC (.int 1))) tNoPart) (start n_upper_bound [v1,v2]) (RowV (l.drop 1)) := (y_sl (F := PtV) (lo := some 1) (hi := none) (y_var rfl h1) (yo_some y_c) yo_none).l.imp fun H v h => by
  rw [sl_tail] at h; exact h
 refine s_for (yi_zip (F := PtV) (G := PtV) (y_var rfl h1) Y2) (fun i σ H' => ∃ a b,σ = [some v1,some v2,a,b] /\ Vbchal.slopeBelow x l = Vbchal.slopeBelow x (l.drop i)) (fun H' s' => ⟨none,none,rfl,by simp⟩) ?_ ?_
 ·rintro i z y σ H4 H5 hy s4 s5 ⟨a,b,rfl,es⟩ hE
  obtain ⟨T',u',w',rfl,hT,hp,hr'⟩ := hE
  obtain ⟨e1,e2⟩ := zip_tail hy
  have mp : MidP y.1 := ml _ (List.mem_of_getElem? e1)
  have mr : MidP y.2 := ml _ (List.mem_of_getElem? e2)
  have hlt := srow_get sr e1 e2 (Nat.lt_succ_self i)
  refine g_pair hT _ ?_
  have hp : PtV y.1 H5 u' := hp
  have hr' : PtV y.2 H5 w' := hr'
  have h25 : FrV x H5 v2 := Mono.up (s4.trans s5) h2
  show tIfS _ _ _ _ [some v1,some v2,some u',some w'] H5
  refine s_if (yt_and (yt_tB (y_less (y_q (y_var rfl hp)) (y_var rfl h25) (okL mp.q fx (by decide)))) fun _ => yt_not (yt_tB (y_less (y_q (y_var rfl hr')) (y_var rfl h25) (okL mr.q fx (by decide))))) (fun e H6 s6 => ?_) (fun e H6 s6 => ?_)
  ·rw [le_not_less fx.1 mr.q.1,Bool.and_eq_true] at e
   refine s_ret (y_slope (y_var rfl (Mono.up s6 hp)) (y_var rfl (Mono.up s6 hr')) mp mr hlt) fun v H7 s7 h => q v H7 (s4.trans (s5.trans (s6.trans s7))) ?_
   show OptV (Vbchal.slopeBelow x l) H7 v
   rw [es,drop_at e1,drop_at e2,below_cons,if_pos e]
   exact h
  ·rw [le_not_less fx.1 mr.q.1] at e
   refine ⟨s5.trans s6,_,_,rfl,?_⟩
   rw [es,drop_at e1,drop_at e2,below_cons,if_neg]
   intro z
   rw [z.1,z.2] at e
   cases e
 ·rintro σ H4 s4 ⟨a,b,rfl,es⟩
  have lz : (l.zip (l.drop 1)).length = l.length - 1 := by rw [List.length_zip,List.length_drop]; omega
  rw [lz,below_short (l := l.drop (l.length - 1)) (by rw [List.length_drop]; omega)] at es
  refine s_ret (D := { nx := fun _ H' => Q .non H',rt := Q }) (σ := [some v1,some v2,a,b]) (y_c (v := .non)) fun v H7 s7 h => q v H7 (s4.trans s7) ?_
  show OptV (Vbchal.slopeBelow x l) H7 v
  rw [es]
  exact h
section
variable {H0 H : Hp} {σ : L2.St} {te ta tb tc td t1 t2 t3 t4 t5 : TE} {E : XK} {C D : Addr} {t : TD}
theorem y_lower {l : List Point} {x : Frac} (h1 : Yd H0 ta σ (RowV l)) (h2 : Yd H0 tb σ (FrV x)) (h : SRow l /\ MidR l /\ Ft 14 0 x /\ l.length <= 200) : Yd H0 (tCall sp_lower_bound [] E (tCons ta (tCons tb tNil))) σ (OptV (Vbchal.slopeAbove x l)) := y_call (l,x) (ya_cons h1 (ya_cons h2 ya_nil)) h
theorem y_upperB {l : List Point} {x : Frac} (h1 : Yd H0 ta σ (RowV l)) (h2 : Yd H0 tb σ (FrV x)) (h : SRow l /\ MidR l /\ Ft 14 0 x /\ l.length <= 200) : Yd H0 (tCall sp_upper_bound [] E (tCons ta (tCons tb tNil))) σ (OptV (Vbchal.slopeBelow x l)) := y_call (l,x) (ya_cons h1 (ya_cons h2 ya_nil)) h
end
theorem slope_ft {l : List Point} (ml : MidR l) : ∀ p ∈ l,∀ r ∈ l,val p.q < val r.q -> Ft 2200 2200 (slope p r) := fun p hp r hr hl =>
 (((ml r hr).v.sub (ml p hp).v).over ((ml r hr).q.sub (ml p hp).q) (diff_pos (ml p hp).wf (ml r hr).wf hl)).mono (by decide) (by decide)
def sp_planned (C : Addr) : Sp := spA (ι := TD × Nat × Nat × List (List Point) × Frac) (fun i => [TreeV C i.1,IntV (i.2.1 : Int),IntV (i.2.2.1 : Int),LevV i.2.2.2.1,FrV i.2.2.2.2]) (fun i => TDok i.1 /\ i.2.1 < i.1.n /\ i.2.2.1 <= i.2.1 /\ StepOk i.1 i.2.1 i.2.2.2.1 /\ Ft 3000 3000 i.2.2.2.2)
 (fun i => FrV (planBy (Vbchal.bidF (Vbchal.quoteAt i.1.tree i.2.1 i.2.2.1)) (Vbchal.askF (Vbchal.quoteAt i.1.tree i.2.1 i.2.2.1)) (Vbchal.joined i.1.a i.1.b (i.2.2.2.1.getD i.2.2.1 []) (i.2.2.2.1.getD (i.2.2.1 + 1) [])) i.2.2.2.2))
theorem ok_planned (T : Txt K mg A) : FnOk P w K mg base CX0 7 A.f_planned A.d_planned p_planned (sp_planned A.c_Tree) := by
 refine T.F_planned.ok sc_planned (spA_len fun _ => rfl) fun cdv Ao outer s H vs Q E hr hsp => ?_
 obtain ⟨⟨t,i,j,lv,x⟩,⟨v1,_,rfl,h1,v2,_,rfl,h2,v3,_,rfl,h3,v4,_,rfl,h4,v5,_,rfl,h5,rfl⟩,⟨tk,hi,hj,so,fx⟩,q⟩ := hsp
 cases h2; cases h3
 have h1 : TreeV A.c_Tree t H v1 := h1
 have h4 : LevV lv H v4 := h4
 have h5 : FrV x H v5 := h5
 have tk : TDok t := tk
 have hi : i < t.n := hi
 have hj : j <= i := hj
 have so : StepOk t i lv := so
 have fx : Ft 3000 3000 x := fx
 refine ⟨_,(pss_cons (ps_set (i := 5) sc_planned.nd rfl (Or.inl rfl) (pe_call (ok_row_before T) (hr.mono (by decide)) rfl T.m_row_before T.F_row_before.kp T.b_row_before .nil pass0 (pa_cons (pv 0) (pa_cons (pe_ix ix_list (pv 3) (pv 2) (fun _ _ => rfl)) (pa_cons (pe_ix ix_list (pv 3) (pe_op op_add (pv 2) pe_int) (fun _ _ => rfl)) pa_nil)))))
   (pss_cons (ps_set (i := 6) sc_planned.nd rfl (Or.inl rfl) (pe_call (ok_lower_bound T) (hr.mono (by decide)) rfl T.m_lower_bound T.F_lower_bound.kp T.b_lower_bound .nil pass0 (pa_cons (pv 5) (pa_cons (pe_call (ok_ratio T) (hr.mono (by decide)) rfl T.m_ratio T.F_ratio.kp T.b_ratio .nil pass0 (pa_cons (pe_meth (pv 0) T.cl_Tree T.me_Tree_ask_at (ok_Tree_ask_at T) (hr.mono (by decide)) T.b_Tree_ask_at .nil pass0 (pa_cons (pv 1) (pa_cons (pv 2) pa_nil))) (pa_cons pe_int pa_nil))) pa_nil))))
   (pss_cons (ps_if (PW.pt (pw_and (pt_cmpR op_notN (pv 6) pe_non (nomark _)) (pw_and1 (pt_val (pe_call (ok_less T) (hr.mono (by decide)) rfl T.m_less T.F_less.kp T.b_less .nil pass0 (pa_cons (pv 4) (pa_cons (pv 6) pa_nil))))))) (pss_one (ps_ret (pv 6))) pss_nil)
   (pss_cons (ps_set (i := 7) sc_planned.nd rfl (Or.inl rfl) (pe_call (ok_upper_bound T) (hr.mono (by decide)) rfl T.m_upper_bound T.F_upper_bound.kp T.b_upper_bound .nil pass0 (pa_cons (pv 5) (pa_cons (pe_call (ok_ratio T) (hr.mono (by decide)) rfl T.m_ratio T.F_ratio.kp T.b_ratio .nil pass0 (pa_cons (pe_meth (pv 0) T.cl_Tree T.me_Tree_bid_at (ok_Tree_bid_at T) (hr.mono (by decide)) T.b_Tree_bid_at .nil pass0 (pa_cons (pv 1) (pa_cons (pv 2) pa_nil))) (pa_cons pe_int pa_nil))) pa_nil))))
   (pss_cons (ps_if (PW.pt (pw_and (pt_cmpR op_notN (pv 7) pe_non (nomark _)) (pw_and1 (pt_val (pe_call (ok_less T) (hr.mono (by decide)) rfl T.m_less T.F_less.kp T.b_less .nil pass0 (pa_cons (pv 7) (pa_cons (pv 4) pa_nil))))))) (pss_one (ps_ret (pv 7))) pss_nil)
   (pss_one (ps_ret (pv 4)))))))),?_⟩
 have hab : 1 <= t.b /\ t.b <= t.a /\ t.a <= 100 := ⟨tk.ok.b1,tk.ok.ba,tk.ok.a2⟩
 have o1 := so.row j (by omega)
 have o2 := so.row (j + 1) (by omega)
 have q : ∀ r H',Same H H' -> FrV (planBy (Vbchal.bidF (Vbchal.quoteAt t.tree i j)) (Vbchal.askF (Vbchal.quoteAt t.tree i j)) (Vbchal.joined t.a t.b (lv.getD j []) (lv.getD (j + 1) [])) x) H' r -> Q r H' := q
 have jr : SRow (Vbchal.joined t.a t.b (lv.getD j []) (lv.getD (j + 1) [])) := joined_row o1.row o2.row (by omega) (by omega)
 have jl := joined_len t.a t.b (lv.getD j []) (lv.getD (j + 1) [])
 have jm := so.mid j hj
 have l1 := o1.len
 have l2 := o2.len
 have qk := tk.ok.quo i j (by omega) hj
 refine s_set (y_rowBefore (t := t) (l := lv.getD j []) (r := lv.getD (j + 1) []) (y_var rfl h1) (y_ixL (y_var rfl h4) (y_var (P := IntV j) rfl rfl) (row_get (by rw [so.len]; omega))) (y_ixL (y_var rfl h4) ((y_rI0 (y_var (P := IntV j) rfl rfl) y_c).eq (by rfl)) (row_get (j := j + 1) (by rw [so.len]; omega))) ⟨hab,o1,o2,so.tkn j (by omega),so.tkn (j + 1) (by omega)⟩).l fun v6 H6 s6 h6 => ?_
 generalize Vbchal.joined t.a t.b (lv.getD j []) (lv.getD (j + 1) []) = l at *
 have t6 : TreeV A.c_Tree t H6 v1 := Mono.up s6 h1
 have fa : Ft 14 0 (Vbchal.askF (Vbchal.quoteAt t.tree i j)) := ⟨whole_wf _,askF_sz qk⟩
 have fb : Ft 14 0 (Vbchal.bidF (Vbchal.quoteAt t.tree i j)) := ⟨whole_wf _,bidF_sz qk⟩
 refine s_set (y_lower (x := Vbchal.askF (Vbchal.quoteAt t.tree i j)) (y_var rfl h6) (y_whole (y_ask tk (by omega) hj (y_var rfl t6) (y_var (P := IntV i) rfl rfl) (y_var (P := IntV j) rfl rfl))) ⟨jr,jm,fa,by omega⟩) fun v7 H7 s7 h7 => ?_
 have pe := plan_steps (bid := Vbchal.bidF (Vbchal.quoteAt t.tree i j)) (ask := Vbchal.askF (Vbchal.quoteAt t.tree i j)) (l := l) (x := x)
 have fA := above_ind (q := Vbchal.askF (Vbchal.quoteAt t.tree i j)) jr (slope_ft jm)
 have fB := below_ind (q := Vbchal.bidF (Vbchal.quoteAt t.tree i j)) jr (slope_ft jm)
 have go : ∀ H8 v7,Same H7 H8 -> planBy (Vbchal.bidF (Vbchal.quoteAt t.tree i j)) (Vbchal.askF (Vbchal.quoteAt t.tree i j)) l x = (match Vbchal.slopeBelow (Vbchal.bidF (Vbchal.quoteAt t.tree i j)) l with
   | some z => if Vbchal.less z x = true then z else x
   | none => x) -> tSeq (tAsg (tCall sp_upper_bound [] E0 (tCons (tVar 5) (tCons (tCall sp_ratio [] E0 (tCons (tMeth A.c_Tree "bid_at" (sp_Tree_bid_at A.c_Tree) [] E0 (tVar 0) (tCons (tVar 1) (tCons (tVar 2) tNil))) (tCons (tC (.int 1)) tNil))) tNil))) (gName 7))
    (tSeq (tIfS (tAnd (tTest (tOp (fun x y H Q => y = .non /\ Q (.bl (!decide (x = .non))) H) (tVar 7) (tC .non))) (tB (tCall sp_less [] E0 (tCons (tVar 7) (tCons (tVar 4) tNil))))) (tRet (tVar 7)) tNext) (tRet (tVar 4))) { nx := fun _ H' => Q .non H',rt := Q } [some v1,some (.int (i : Int)),some (.int (j : Int)),some v4,some v5,some v6,some v7,none] H8 := fun H8 v7 s8 pe' => by
  have t8 : TreeV A.c_Tree t H8 v1 := Mono.up (s7.trans s8) t6
  refine s_set (y_upperB (x := Vbchal.bidF (Vbchal.quoteAt t.tree i j)) (y_var rfl (Mono.up (s7.trans s8) h6)) (y_whole (y_bid tk (by omega) hj (y_var rfl t8) (y_var (P := IntV i) rfl rfl) (y_var (P := IntV j) rfl rfl))) ⟨jr,jm,fb,by omega⟩) fun v9 H9 s9 h9 => ?_
  have s69 := s6.trans (s7.trans (s8.trans s9))
  have h59 : FrV x H9 v5 := Mono.up s69 h5
  cases es : Vbchal.slopeBelow (Vbchal.bidF (Vbchal.quoteAt t.tree i j)) l with
  | none =>
   rw [es] at h9 pe'
   have h9 : v9 = .non := h9
   subst h9
   refine s_ifn (b := false) ((yt_and (c := false) (yt_tst (y_notN (y_var (P := EqV .non) rfl rfl))) fun e => ?_).eq (by simp)) (fun e => by cases e) (fun e H10 s10 => ?_)
   ·simp at e
   ·exact s_ret (y_var rfl (Mono.up s10 h59)) fun v H11 s11 h => q v H11 (s69.trans (s10.trans s11)) (by rw [pe']; exact h)
  | some z =>
   rw [es] at h9 pe'
   have h9 : FrV z H9 v9 := h9
   obtain ⟨az,rfl,_⟩ := id h9
   have fz := fB z es
   refine s_ifn (b := Vbchal.less z x) ((yt_and (yt_tst (y_notN (y_var (P := EqV (.ref az)) rfl rfl))) fun _ => yt_tB (y_less (y_var rfl h9) (y_var rfl h59) (okL fz fx (by decide)))).eq (by simp)) (fun e H10 s10 => ?_) (fun e H10 s10 => ?_)
   ·have pe' : planBy _ _ l x = if Vbchal.less z x = true then z else x := pe'
    rw [if_pos e] at pe'
    exact s_ret (y_var rfl (Mono.up s10 h9)) fun v H11 s11 h => q v H11 (s69.trans (s10.trans s11)) (by rw [pe']; exact h)
   ·have pe' : planBy _ _ l x = if Vbchal.less z x = true then z else x := pe'
    rw [if_neg (by rw [e]; decide)] at pe'
    exact s_ret (y_var rfl (Mono.up s10 h59)) fun v H11 s11 h => q v H11 (s69.trans (s10.trans s11)) (by rw [pe']; exact h)
 have h57 : FrV x H7 v5 := Mono.up (s6.trans s7) h5
 cases es : Vbchal.slopeAbove (Vbchal.askF (Vbchal.quoteAt t.tree i j)) l with
 | none =>
  rw [es] at h7 pe
  have h7 : v7 = .non := h7
  subst h7
  refine s_ifn (b := false) ((yt_and (c := false) (yt_tst (y_notN (y_var (P := EqV .non) rfl rfl))) fun e => ?_).eq (by simp)) (fun e => by cases e) (fun e H8 s8 => go H8 _ s8 pe)
  simp at e
 | some y =>
  rw [es] at h7 pe
  have h7 : FrV y H7 v7 := h7
  obtain ⟨ay,rfl,_⟩ := id h7
  have fy := fA y es
  have pe : planBy _ _ l x = if Vbchal.less x y = true then y else (match Vbchal.slopeBelow (Vbchal.bidF (Vbchal.quoteAt t.tree i j)) l with
   | some z => if Vbchal.less z x = true then z else x
   | none => x) := pe
  refine s_ifn (b := Vbchal.less x y) ((yt_and (yt_tst (y_notN (y_var (P := EqV (.ref ay)) rfl rfl))) fun _ => yt_tB (y_less (y_var rfl h57) (y_var rfl h7) (okL fx fy (by decide)))).eq (by simp)) (fun e H8 s8 => ?_) (fun e H8 s8 => ?_)
  ·rw [if_pos e] at pe
   exact s_ret (y_var rfl (Mono.up s8 h7)) fun v H9 s9 h => q v H9 (s6.trans (s7.trans (s8.trans s9))) (by rw [pe]; exact h)
  ·rw [if_neg (by rw [e]; decide)] at pe
   exact go H8 _ s8 pe
section
variable {H0 H : Hp} {σ : L2.St} {te ta tb tc td t1 t2 t3 t4 t5 : TE} {E : XK} {C D : Addr} {t : TD}
theorem y_planned {i j : Nat} {lv : List (List Point)} {x : Frac} (h1 : Yd H0 t1 σ (TreeV C t)) (h2 : Yd H0 t2 σ (IntV (i : Int))) (h3 : Yd H0 t3 σ (IntV (j : Int))) (h4 : Yd H0 t4 σ (LevV lv)) (h5 : Yd H0 t5 σ (FrV x)) (h : TDok t /\ i < t.n /\ j <= i /\ StepOk t i lv /\ Ft 3000 3000 x) :
  Yd H0 (tCall (sp_planned C) [] E (tCons t1 (tCons t2 (tCons t3 (tCons t4 (tCons t5 tNil)))))) σ (FrV (planBy (Vbchal.bidF (Vbchal.quoteAt t.tree i j)) (Vbchal.askF (Vbchal.quoteAt t.tree i j)) (Vbchal.joined t.a t.b (lv.getD j []) (lv.getD (j + 1) [])) x)) :=
 y_call (t,i,j,lv,x) (ya_cons h1 (ya_cons h2 (ya_cons h3 (ya_cons h4 (ya_cons h5 ya_nil))))) h
end
def sp_trading_cost (C : Addr) : Sp := spA (ι := TD × Nat × Nat × Frac × Frac) (fun i => [TreeV C i.1,IntV (i.2.1 : Int),IntV (i.2.2.1 : Int),FrV i.2.2.2.1,FrV i.2.2.2.2]) (fun i => TDok i.1 /\ i.2.1 <= i.1.n /\ i.2.2.1 <= i.2.1 /\ Ft 2100 2100 i.2.2.2.1 /\ Ft 2100 2100 i.2.2.2.2)
 (fun i => FrV (Vbchal.cost (Vbchal.quoteAt i.1.tree i.2.1 i.2.2.1) (Vbchal.sub i.2.2.2.2 i.2.2.2.1)))
theorem ok_trading_cost (T : Txt K mg A) : FnOk P w K mg base CX0 4 A.f_trading_cost A.d_trading_cost p_trading_cost (sp_trading_cost A.c_Tree) := by
 refine T.F_trading_cost.ok sc_trading_cost (spA_len fun _ => rfl) fun cdv Ao outer s H vs Q E hr hsp => ?_
 obtain ⟨⟨t,i,j,x,y⟩,⟨v1,_,rfl,h1,v2,_,rfl,h2,v3,_,rfl,h3,v4,_,rfl,h4,v5,_,rfl,h5,rfl⟩,⟨tk,hi,hj,fx,fy⟩,q⟩ := hsp
 cases h2; cases h3
 have h1 : TreeV A.c_Tree t H v1 := h1
 have h4 : FrV x H v4 := h4
 have h5 : FrV y H v5 := h5
 have tk : TDok t := tk
 have hi : i <= t.n := hi
 have hj : j <= i := hj
 have fx : Ft 2100 2100 x := fx
 have fy : Ft 2100 2100 y := fy
 refine ⟨_,(pss_cons (ps_set (i := 5) sc_trading_cost.nd rfl (Or.inl rfl) (pe_ifExp (pt_val (pe_call (ok_less T) (hr.mono (by decide)) rfl T.m_less T.F_less.kp T.b_less .nil pass0 (pa_cons (pv 4) (pa_cons (pv 3) pa_nil)))) (pe_meth (pv 0) T.cl_Tree T.me_Tree_bid_at (ok_Tree_bid_at T) (hr.mono (by decide)) T.b_Tree_bid_at .nil pass0 (pa_cons (pv 1) (pa_cons (pv 2) pa_nil))) (pe_meth (pv 0) T.cl_Tree T.me_Tree_ask_at (ok_Tree_ask_at T) (hr.mono (by decide)) T.b_Tree_ask_at .nil pass0 (pa_cons (pv 1) (pa_cons (pv 2) pa_nil)))))
   (pss_one (ps_ret (pe_call (ok_times T) (hr.mono (by decide)) rfl T.m_times T.F_times.kp T.b_times .nil pass0 (pa_cons (pe_call (ok_minus T) (hr.mono (by decide)) rfl T.m_minus T.F_minus.kp T.b_minus .nil pass0 (pa_cons (pv 4) (pa_cons (pv 3) pa_nil))) (pa_cons (pe_call (ok_ratio T) (hr.mono (by decide)) rfl T.m_ratio T.F_ratio.kp T.b_ratio .nil pass0 (pa_cons (pv 5) (pa_cons pe_int pa_nil))) pa_nil)))))),?_⟩
 have qk := tk.ok.quo i j hi hj
 have price : ((if Vbchal.less y x = true then (Vbchal.quoteAt t.tree i j).bid else (Vbchal.quoteAt t.tree i j).ask : Nat) : Int).natAbs <= 2 ^ 14 := by
  have := qk.le
  have := qk.hi
  split <;> simp <;> omega
 refine s_set (P := IntV (((if Vbchal.less y x = true then (Vbchal.quoteAt t.tree i j).bid else (Vbchal.quoteAt t.tree i j).ask) : Nat) : Int)) (y_if (yt_tB (y_less (y_var rfl h5) (y_var rfl h4) (okL fy fx (by decide)))) (fun e => ?_) (fun e => ?_)) fun v6 H6 s6 h6 => ?_
 ·rw [if_pos e]
  exact y_bid tk hi hj (y_var rfl h1) (y_var (P := IntV i) rfl rfl) (y_var (P := IntV j) rfl rfl)
 ·rw [if_neg (by rw [e]; decide)]
  exact y_ask tk hi hj (y_var rfl h1) (y_var (P := IntV i) rfl rfl) (y_var (P := IntV j) rfl rfl)
 ·refine s_ret (y_times (y_minus (y_var rfl (Mono.up s6 h5)) (y_var rfl (Mono.up s6 h4)) (ok2 fy fx (by decide))) (y_whole (y_var rfl h6)) (ok2 (fy.sub fx) (Ft.whole price) (by decide))) fun v H7 s7 h => q v H7 (s6.trans s7) ?_
  show FrV (Vbchal.cost (Vbchal.quoteAt t.tree i j) (Vbchal.sub y x)) H7 v
  rw [cost_by fx.1 fy.1]
  exact h
section
variable {H0 H : Hp} {σ : L2.St} {te ta tb tc td t1 t2 t3 t4 t5 : TE} {E : XK} {C D : Addr} {t : TD}
theorem y_cost {i j : Nat} {x y : Frac} (h1 : Yd H0 t1 σ (TreeV C t)) (h2 : Yd H0 t2 σ (IntV (i : Int))) (h3 : Yd H0 t3 σ (IntV (j : Int))) (h4 : Yd H0 t4 σ (FrV x)) (h5 : Yd H0 t5 σ (FrV y)) (h : TDok t /\ i <= t.n /\ j <= i /\ Ft 2100 2100 x /\ Ft 2100 2100 y) :
  Yd H0 (tCall (sp_trading_cost C) [] E (tCons t1 (tCons t2 (tCons t3 (tCons t4 (tCons t5 tNil)))))) σ (FrV (Vbchal.cost (Vbchal.quoteAt t.tree i j) (Vbchal.sub y x))) := y_call (t,i,j,x,y) (ya_cons h1 (ya_cons h2 (ya_cons h3 (ya_cons h4 (ya_cons h5 ya_nil))))) h
end
theorem PM_le (r : Nat) : PM r <= 3200 := by unfold PM; omega
theorem PH_le (r : Nat) : PH r <= 8912 := by
 unfold PH
 repeat (first | (split <;> try omega))
def sp_left_over (C D : Addr) : Sp := spA (ι := TD × Vbchal.Claim × Nat × Vbchal.Purse) (fun i => [TreeV C i.1,ClaimV D i.2.1,IntV (i.2.2.1 : Int),FrV i.2.2.2.cash,FrV i.2.2.2.units]) (fun i => TDok i.1 /\ COk i.1.n i.2.1 /\ i.2.2.1 <= i.1.n /\ PuOk 0 i.2.2.2)
 (fun i => FrV (Vbchal.handed i.1.tree i.2.1 i.2.2.1 i.2.2.2))
theorem ok_left_over (T : Txt K mg A) : FnOk P w K mg base CX0 5 A.f_left_over A.d_left_over p_left_over (sp_left_over A.c_Tree A.c_Claim) := by
 refine T.F_left_over.ok sc_left_over (spA_len fun _ => rfl) fun cdv Ao outer s H vs Q E hr hsp => ?_
 obtain ⟨⟨t,c,j,p⟩,⟨v1,_,rfl,h1,v2,_,rfl,h2,v3,_,rfl,h3,v4,_,rfl,h4,v5,_,rfl,h5,rfl⟩,⟨tk,ck,hj,pk⟩,q⟩ := hsp
 cases h3
 have h1 : TreeV A.c_Tree t H v1 := h1
 have h2 : ClaimV A.c_Claim c H v2 := h2
 have h4 : FrV p.cash H v4 := h4
 have h5 : FrV p.units H v5 := h5
 have tk : TDok t := tk
 have ck : COk t.n c := ck
 have hj : j <= t.n := hj
 have pk : PuOk 0 p := pk
 refine ⟨_,(pss_cons (ps_set (i := 5) sc_left_over.nd rfl (Or.inl rfl) (pe_call (ok_trading_cost T) (hr.mono (by decide)) rfl T.m_trading_cost T.F_trading_cost.kp T.b_trading_cost .nil pass0 (pa_cons (pv 0) (pa_cons (pe_fld (pv 0) rfl) (pa_cons (pv 2) (pa_cons (pv 4) (pa_cons (pe_call (ok_ratio T) (hr.mono (by decide)) rfl T.m_ratio T.F_ratio.kp T.b_ratio .nil pass0 (pa_cons (pe_ix ix_list (pe_fld (pv 1) rfl) (pv 2) (fun _ _ => rfl)) (pa_cons pe_int pa_nil))) pa_nil)))))))
   (pss_one (ps_ret (pe_call (ok_minus T) (hr.mono (by decide)) rfl T.m_minus T.F_minus.kp T.b_minus .nil pass0 (pa_cons (pe_call (ok_minus T) (hr.mono (by decide)) rfl T.m_minus T.F_minus.kp T.b_minus .nil pass0 (pa_cons (pv 3) (pa_cons (pe_call (ok_ratio T) (hr.mono (by decide)) rfl T.m_ratio T.F_ratio.kp T.b_ratio .nil pass0 (pa_cons (pe_ix ix_list (pe_fld (pv 1) rfl) (pv 2) (fun _ _ => rfl)) (pa_cons pe_int pa_nil))) pa_nil))) (pa_cons (pv 5) pa_nil)))))),?_⟩
 obtain ⟨cd,un,ud,e1,e2,e3,e4,e5⟩ := pk.ex
 have pm := PM_le 0
 have ph := PH_le 0
 have fu : Ft un ud p.units := ⟨pk.wu,e2⟩
 have fc : Ft (PM 0 + cd) cd p.cash := ⟨pk.wc,pk.vb.sz e1⟩
 have uj : Ft 20 0 (whole (c.units.getD j 0)) := Ft.whole (Nat.le_trans (getD_all ck.us) (by decide))
 have cj : Ft 20 0 (whole (c.cash.getD j 0)) := Ft.whole (Nat.le_trans (getD_all ck.cs) (by decide))
 have qk := tk.ok.quo t.n j (Nat.le_refl _) hj
 have fk : Ft (max (20 + ud) (un + 0) + 1 + 14) (0 + ud) (Vbchal.cost (Vbchal.quoteAt t.tree t.n j) (Vbchal.sub (whole (c.units.getD j 0)) p.units)) := ⟨cost_wf (uj.sub fu).1,cost_sz qk (uj.sub fu).2⟩
 refine s_set (y_cost (y_var rfl h1) (y_steps T (y_var rfl h1)) (y_var (P := IntV j) rfl rfl) (y_var rfl h5) (y_whole (y_ixL (y_units T (y_var rfl h2)) (y_var (P := IntV j) rfl rfl) (int_get (by rw [ck.ul]; omega)))) ⟨tk,Nat.le_refl _,hj,fu.mono (by omega) (by omega),uj.mono (by decide) (by decide)⟩) fun v6 H6 s6 h6 => ?_
 refine s_ret (y_minus (y_minus (y_var rfl (Mono.up s6 h4)) (y_whole (y_ixL (y_cash T (y_var rfl (Mono.up s6 h2))) (y_var (P := IntV j) rfl rfl) (int_get (by rw [ck.cl]; omega)))) (ok2 fc cj (by omega))) (y_var rfl h6) (ok2 (fc.sub cj) fk (by omega))) fun v H7 s7 h => q v H7 (s6.trans s7) ?_
 show FrV (Vbchal.handed t.tree c j p) H7 v
 unfold Vbchal.handed
 rw [tk.ok.steps]
 exact h
section
variable {H0 H : Hp} {σ : L2.St} {te ta tb tc td t1 t2 t3 t4 t5 : TE} {E : XK} {C D : Addr} {t : TD}
theorem y_left {c : Vbchal.Claim} {j : Nat} {p : Vbchal.Purse} (h1 : Yd H0 t1 σ (TreeV C t)) (h2 : Yd H0 t2 σ (ClaimV D c)) (h3 : Yd H0 t3 σ (IntV (j : Int))) (h4 : Yd H0 t4 σ (FrV p.cash)) (h5 : Yd H0 t5 σ (FrV p.units)) (h : TDok t /\ COk t.n c /\ j <= t.n /\ PuOk 0 p) :
  Yd H0 (tCall (sp_left_over C D) [] E (tCons t1 (tCons t2 (tCons t3 (tCons t4 (tCons t5 tNil)))))) σ (FrV (Vbchal.handed t.tree c j p)) := y_call (t,c,j,p) (ya_cons h1 (ya_cons h2 (ya_cons h3 (ya_cons h4 (ya_cons h5 ya_nil))))) h
end
def WalkV (C : Addr) (x : Frac) (l : List Frac) : VP := fun H v => ∃ p dx u w,v = .ref p /\ H p = some (.ins C dx [("left",u),("held",w)]) /\ FrV x H u /\ LsV FrV l H w
def sp_Walk_init (C : Addr) : Sp := fun vs H Q _ => ∃ a dx u v,vs = [.ref a,u,v] /\ H a = some (.ins C dx []) /\ Q .non (upd H a (.ins C dx [("left",u),("held",v)]))
theorem ok_Walk_init (T : Txt K mg A) : FnOk P w K mg base CX0 1 A.f_Walk_init A.d_Walk_init p_Walk_init (sp_Walk_init A.c_Walk) := by
 refine T.F_Walk_init.ok sc_Walk_init (fun vs H Q E ⟨a,dx,u,v,e,_⟩ => by rw [e]; rfl) fun cdv Ao outer s H vs Q E hr hsp => ?_
 obtain ⟨a,dx,u,v,rfl,ha,q⟩ := hsp
 refine ⟨_,(pss_cons (ps_fld (pv 0) (pv 1) rfl)
   (pss_one (ps_fld (pv 0) (pv 2) rfl))),?_⟩
 refine ⟨u,rfl,_,rfl,a,_,dx,[],rfl,ha,T.cl_Walk,T.na_Walk_left,by decide,?_⟩
 refine ⟨v,rfl,_,rfl,a,_,dx,_,rfl,upd_same,T.cl_Walk,T.na_Walk_held,few1 (by decide),?_⟩
 rw [upd_upd]
 exact q
section
variable {H0 : Hp} {σ : L2.St} {ta tb tc : TE} {E : XK} {C : Addr}
theorem y_mkWalk {x : Frac} {l : List Frac} (ha : Yd H0 ta σ (FrV x)) (hb : Yd H0 tb σ (LsV FrV l)) : Yd H0 (tMake C (sp_Walk_init C) [] E (tCons ta (tCons tb tNil))) σ (WalkV C x l) := fun H Q s k =>
 ha H _ s fun v H1 s1 h1 => hb H1 _ (s.trans s1) fun u H2 s2 h2 x dx nx nd ne => by
  refine ⟨x,dx,v,u,rfl,upd_same,rfl,?_⟩
  have sm : Same H2 (upd (upd (upd H2 dx (.own x)) x (.ins C dx [])) x (.ins C dx [("left",v),("held",u)])) := Same.make nx nd But.upd
  exact k _ _ (s1.trans (s2.trans sm)) ⟨x,dx,v,u,rfl,upd_same,Mono.up (s2.trans sm) h1,Mono.up sm h2⟩
theorem y_wleft (T : Txt K mg A) {x : Frac} {l : List Frac} (ha : Yd H0 ta σ (WalkV A.c_Walk x l)) : Yd H0 (tFld K ta "left") σ (FrV x) := y_fld ha fun H v ⟨p,dx,u,w,e,h,h1,h2⟩ => ⟨p,_,dx,_,u,e,h,T.cl_Walk,T.na_Walk_left,rfl,h1⟩
theorem y_wheld (T : Txt K mg A) {x : Frac} {l : List Frac} (ha : Yd H0 ta σ (WalkV A.c_Walk x l)) : Yd H0 (tFld K ta "held") σ (LsV FrV l) := y_fld ha fun H v ⟨p,dx,u,w,e,h,h1,h2⟩ => ⟨p,_,dx,_,w,e,h,T.cl_Walk,T.na_Walk_held,rfl,h2⟩
end
def purseAt (t : Vbchal.Tree) (c : Vbchal.Claim) (way : List Nat) (x : Frac) (k : Nat) : Vbchal.Purse := Vbchal.purse t (Vbchal.plan t (Vbchal.allPoints t c)) way { cash := Vbchal.most x (Vbchal.at_ (Vbchal.allPoints t c) 0 0),units := x } k
def sp_walked (C D W : Addr) : Sp := spA (ι := TD × Vbchal.Claim × Int × List Int) (fun i => [TreeV C i.1,ClaimV D i.2.1,IntV i.2.2.1,IntsV i.2.2.2]) (fun i => TDok i.1 /\ Vbchal.fair i.1.tree = true /\ COk i.1.n i.2.1 /\ i.2.2.1.natAbs <= 1000000 /\ i.2.2.2.length = i.1.n /\ ∀ z ∈ i.2.2.2,z = 0 \/ z = 1)
 (fun i => WalkV W (Vbchal.left i.1.tree i.2.1 (Vbchal.nats i.2.2.2) (whole i.2.2.1)) ((List.range i.1.n).map fun k => (purseAt i.1.tree i.2.1 (Vbchal.nats i.2.2.2) (whole i.2.2.1) (k + 1)).units))
theorem ok_walked (T : Txt K mg A) : FnOk P w K mg base CX0 9 A.f_walked A.d_walked p_walked (sp_walked A.c_Tree A.c_Claim A.c_Walk) := by
 refine T.F_walked.ok sc_walked (spA_len fun _ => rfl) fun cdv Ao outer s H vs Q E hr hsp => ?_
 obtain ⟨⟨t,c,x,way⟩,⟨v1,_,rfl,h1,v2,_,rfl,h2,v3,_,rfl,h3,v4,_,rfl,h4,rfl⟩,⟨tk,hf,ck,hx,hw,hz⟩,q⟩ := hsp
 cases h3
 have h1 : TreeV A.c_Tree t H v1 := h1
 have h2 : ClaimV A.c_Claim c H v2 := h2
 have h4 : IntsV way H v4 := h4
 have tk : TDok t := tk
 have hf : Vbchal.fair t.tree = true := hf
 have ck : COk t.n c := ck
 have hx : x.natAbs <= 1000000 := hx
 have hw : way.length = t.n := hw
 have hz : ∀ z ∈ way,z = 0 \/ z = 1 := hz
 refine ⟨_,(pss_cons (ps_set (i := 4) sc_walked.nd rfl (Or.inl rfl) (pe_call (ok_points_by_step T) (hr.mono (by decide)) rfl T.m_points_by_step T.F_points_by_step.kp T.b_points_by_step .nil pass0 (pa_cons (pv 0) (pa_cons (pv 1) pa_nil))))
   (pss_cons (ps_set (i := 5) sc_walked.nd rfl (Or.inl rfl) (pe_call (ok_ratio T) (hr.mono (by decide)) rfl T.m_ratio T.F_ratio.kp T.b_ratio .nil pass0 (pa_cons (pv 2) (pa_cons pe_int pa_nil))))
   (pss_cons (ps_set (i := 6) sc_walked.nd rfl (Or.inl rfl) (pe_call (ok_least_cash T) (hr.mono (by decide)) rfl T.m_least_cash T.F_least_cash.kp T.b_least_cash .nil pass0 (pa_cons (pe_ix ix_list (pe_ix ix_list (pv 4) pe_int (fun _ _ => rfl)) pe_int (fun _ _ => rfl)) (pa_cons (pv 5) pa_nil))))
   (pss_cons (ps_set (i := 7) sc_walked.nd rfl (Or.inl rfl) (pe_lst pa_nil))
   (pss_cons (ps_set (i := 8) sc_walked.nd rfl (Or.inl rfl) pe_int)
   (pss_cons (ps_for PassesOwn.never rfl (pi_enum rfl T.n_enumerate (pa_cons (pv 3) pa_nil)) (pg_tup rfl (pgs_cons (pg_name (i := 9) sc_walked.nd rfl (Or.inl rfl)) (pgs_cons (pg_name (i := 10) sc_walked.nd rfl (Or.inl rfl)) pgs_nil))) (pss_cons (ps_set (i := 11) sc_walked.nd rfl (Or.inl rfl) (pe_call (ok_planned T) (hr.mono (by decide)) rfl T.m_planned T.F_planned.kp T.b_planned .nil pass0 (pa_cons (pv 0) (pa_cons (pv 9) (pa_cons (pv 8) (pa_cons (pe_ix ix_list (pv 4) (pe_op op_add (pv 9) pe_int) (fun _ _ => rfl)) (pa_cons (pv 5) pa_nil)))))))
   (pss_cons (ps_set (i := 6) sc_walked.nd rfl (Or.inl rfl) (pe_call (ok_times T) (hr.mono (by decide)) rfl T.m_times T.F_times.kp T.b_times .nil pass0 (pa_cons (pe_call (ok_minus T) (hr.mono (by decide)) rfl T.m_minus T.F_minus.kp T.b_minus .nil pass0 (pa_cons (pv 6) (pa_cons (pe_call (ok_trading_cost T) (hr.mono (by decide)) rfl T.m_trading_cost T.F_trading_cost.kp T.b_trading_cost .nil pass0 (pa_cons (pv 0) (pa_cons (pv 9) (pa_cons (pv 8) (pa_cons (pv 5) (pa_cons (pv 11) pa_nil)))))) pa_nil))) (pa_cons (pe_fld (pv 0) rfl) pa_nil))))
   (pss_cons (ps_set (i := 5) sc_walked.nd rfl (Or.inl rfl) (pv 11))
   (pss_cons (ps_expr (pe_bm PySem.F.plainAttrs_list PySem.F.slot_list_append PySem.F.type_list_append mt_append (pv 7) (pa_cons (pv 5) pa_nil)))
   (pss_one (ps_aug (i := 8) sc_walked.nd rfl (Or.inl rfl) (pv 10) ip_add)))))))
   (pss_one (ps_ret (pe_make T.mk_Walk (ok_Walk_init T) (hr.mono (by decide)) rfl T.m_Walk T.b_Walk_init .nil pass0 (pa_cons (pe_call (ok_left_over T) (hr.mono (by decide)) rfl T.m_left_over T.F_left_over.kp T.b_left_over .nil pass0 (pa_cons (pv 0) (pa_cons (pv 1) (pa_cons (pv 8) (pa_cons (pv 6) (pa_cons (pv 5) pa_nil)))))) (pa_cons (pv 7) pa_nil))))))))))),?_⟩
 have n4 := tk.ok.n4
 have n1 := tk.ok.n1
 have wl : (Vbchal.nats way).length = t.n := by unfold Vbchal.nats; rw [List.length_map]; exact hw
 have w1 : ∀ z ∈ Vbchal.nats way,z <= 1 := fun z hzz => by
  obtain ⟨y,hy,rfl⟩ := List.mem_map.mp hzz
  rcases hz y hy with e | e <;> rw [e] <;> decide
 have fx : Ft 40 0 (whole x) := (Ft.whole (a := 20) (Nat.le_trans hx (by decide))).mono (by decide) (by decide)
 have g0 := good_at tk.ok hf ck (i := 0) (j := 0) (Nat.zero_le _) (Nat.le_refl _)
 rw [Nat.sub_zero] at g0
 have s0 := start_ok g0 n1 n4 hx
 have e00 : Vbchal.at_ (Vbchal.allPoints t.tree c) 0 0 = (lev t.tree c 0).getD 0 [] := at_lev _ _ _ _
 have pok : ∀ k,k <= t.n -> PuOk (t.n - k) (purseAt t.tree c (Vbchal.nats way) (whole x) k) := fun k hk => by
  unfold purseAt
  exact purse_ok tk.ok hf ck w1 wl (by rw [e00]; exact s0.1) k hk
 refine s_set (y_points (y_var rfl h1) (y_var rfl h2) ⟨tk,hf,ck⟩) fun v5 H1 s1 h5 => ?_
 refine s_set (y_whole (y_var (P := IntV x) rfl rfl)) fun v6 H2 s2 h6 => ?_
 refine s_set (y_least (y_row tk (Nat.zero_le _) (Nat.le_refl 0) (y_lev tk (Nat.zero_le _) (y_var rfl (Mono.up s2 h5)) (y_c (v := .int 0))) (y_c (v := .int 0))) (y_var rfl h6) ⟨g0.bigp n4,g0.ne,fx⟩) fun v7 H3 s3 h7 => ?_
 have h6 : FrV (whole x) H3 v6 := Mono.up s3 h6
 have h5 : LsV LevV ((List.range (t.n + 1)).map (lev t.tree c)) H3 v5 := Mono.up (s2.trans s3) h5
 have s03 := s1.trans (s2.trans s3)
 refine s_set (y_lst (F := FrV) (l := []) (by decide) yl_nil) fun v8 H4 s4 h8 => ?_
 obtain ⟨⟨a,vs0,rfl,ea,f0⟩,⟨a',e',na⟩⟩ := h8
 cases e'
 cases f0
 refine s_set (y_c (v := .int 0)) fun v9 H5 s5 e9 => ?_
 cases e9
 obtain ⟨al,rfl,eal⟩ := IntsV.get h4
 refine s_forE (P := EqV (.ref al)) (y_var rfl rfl) fun v H6 s6 e6 => ?_
 cases e6
 refine ⟨al,way.map V.int,rfl,s6 _ _ (s5 _ _ (s4 _ _ (s03 _ _ eal))),fun i σ H' => ∃ vu vc vi vm vt,σ = [some v1,some v2,some (.int x),some (.ref al),some v5,some vu,some vc,some (.ref a),some (.int (Vbchal.nodeOn (Vbchal.nats way) i : Int)),vi,vm,vt] /\ Same H3 H' /\
  FrV (purseAt t.tree c (Vbchal.nats way) (whole x) i).units H' vu /\ FrV (purseAt t.tree c (Vbchal.nats way) (whole x) i).cash H' vc /\
  ∃ hs,H' a = some (.lst hs) /\ All2 (fun u x => FrV x H' u) hs ((List.range i).map fun k => (purseAt t.tree c (Vbchal.nats way) (whole x) (k + 1)).units),?_,?_,?_,?_⟩
 ·have s46 := s4.trans (s5.trans s6)
  refine ⟨v6,v7,none,none,none,?_,s46,Mono.up s46 h6,?_,[],s6 _ _ (s5 _ _ ea),.nil⟩
  ·rw [nodeOn_zero]; rfl
  ·show FrV (Vbchal.most (whole x) (Vbchal.at_ (Vbchal.allPoints t.tree c) 0 0)) H6 v7
   rw [e00]
   exact Mono.up s46 h7
 ·rintro i σ H' hi ⟨vu,vc,vi,vm,vt,rfl,sH,_⟩
  exact sH _ _ (s03 _ _ eal)
 ·rintro i mv σ H' H7 hmv ⟨vu,vc,vi,vm,vt,rfl,sH,hu,hc,hs,eh,fh⟩ s7
  rw [List.getElem?_map] at hmv
  obtain ⟨z,ez,rfl⟩ : ∃ z,way[i]? = some z /\ mv = V.int z := by
   cases e : way[i]? with
   | none => rw [e] at hmv; cases hmv
   | some z => rw [e] at hmv; exact ⟨z,rfl,(Option.some.inj hmv).symm⟩
  have hi : i < t.n := by rw [<- hw]; exact (List.getElem?_eq_some_iff.mp ez).1
  have hz' := hz z (List.mem_of_getElem? ez)
  have ez' : (Vbchal.nats way)[i]? = some z.toNat := by unfold Vbchal.nats; rw [List.getElem?_map,ez]; rfl
  have hj : Vbchal.nodeOn (Vbchal.nats way) i <= i := nodeOn_le w1 i (by omega)
  have en := nodeOn_succ (Vbchal.nats way) i _ ez'
  have pi := pok i (by omega)
  have er : t.n - i = (t.n - (i + 1)) + 1 := by omega
  rw [er] at pi
  have ps := purse_succ t.tree (Vbchal.plan t.tree (Vbchal.allPoints t.tree c)) (Vbchal.nats way) { cash := Vbchal.most (whole x) (Vbchal.at_ (Vbchal.allPoints t.tree c) 0 0),units := whole x } i
  have ps : purseAt t.tree c (Vbchal.nats way) (whole x) (i + 1) = Vbchal.stepped t.tree i (Vbchal.nodeOn (Vbchal.nats way) i) (Vbchal.plan t.tree (Vbchal.allPoints t.tree c) i (Vbchal.nodeOn (Vbchal.nats way) i) (purseAt t.tree c (Vbchal.nats way) (whole x) i).units) (purseAt t.tree c (Vbchal.nats way) (whole x) i) := ps
  have hp := plan_is tk.ok hf ck (i := i) (j := Vbchal.nodeOn (Vbchal.nats way) i) (k := t.n - (i + 1)) (by omega) hj (purseAt t.tree c (Vbchal.nats way) (whole x) i).units
  generalize hpy : Vbchal.plan t.tree (Vbchal.allPoints t.tree c) i (Vbchal.nodeOn (Vbchal.nats way) i) (purseAt t.tree c (Vbchal.nats way) (whole x) i).units = y at ps hp
  generalize hpp : purseAt t.tree c (Vbchal.nats way) (whole x) i = p at hu hc pi ps hp hpy
  generalize hpj : Vbchal.nodeOn (Vbchal.nats way) i = j at hj en ps hpy
  obtain ⟨a1,a2,a3,a4,⟨cd,un,ud,b1,b2,b3,b4,b5⟩,a6,a7,a8,a9⟩ := trade_ok (q := Vbchal.quoteAt t.tree i j) (by omega) pi (tk.ok.quo i j (by omega) hj) hp
  obtain ⟨cd',un',ud',c1,c2,c3,c4,c5⟩ := pi.ex
  have phr := PH_le (t.n - (i + 1))
  have phr' := PH_le (t.n - (i + 1) + 1)
  have pmr := PM_le (t.n - (i + 1) + 1)
  have fu : Ft 2100 2100 p.units := ⟨pi.wu,c2.mono (by omega) (by omega)⟩
  have fy : Ft 2100 2100 y := ⟨a1,b2.mono (by omega) (by omega)⟩
  have sH7 := sH.trans s7
  have t7 : TreeV A.c_Tree t H7 v1 := Mono.up (s03.trans sH7) h1
  have so := stepOk_of tk (c := c) hi fun j hj => good_at tk.ok hf ck (by omega) hj
  have hy : planBy (Vbchal.bidF (Vbchal.quoteAt t.tree i j)) (Vbchal.askF (Vbchal.quoteAt t.tree i j)) (Vbchal.joined t.a t.b ((lev t.tree c (i + 1)).getD j []) ((lev t.tree c (i + 1)).getD (j + 1) [])) p.units = y := by
   rw [<- hpy,plan_by,ahead_lev]
   rfl
  show tSeq _ _ _ [some v1,some v2,some (V.int x),some (V.ref al),some v5,some vu,some vc,some (V.ref a),some (V.int (j : Int)),some (V.int (i : Int)),some (V.int z),vt] H7
  refine s_set (P := FrV y) (by
   rw [<- hy]
   exact y_planned (y_var rfl t7) (y_var (P := IntV i) rfl rfl) (y_var (P := IntV j) rfl rfl) (y_lev tk (i := i + 1) hi (y_var rfl (Mono.up sH7 h5)) ((y_rI0 (y_var (P := IntV i) rfl rfl) y_c).eq (by rfl))) (y_var rfl (Mono.up s7 hu)) ⟨tk,hi,hj,so,fu.mono (by decide) (by decide)⟩) fun v11 H8 s8 h11 => ?_
  have t8 : TreeV A.c_Tree t H8 v1 := Mono.up s8 t7
  have hc8 : FrV p.cash H8 vc := Mono.up (s7.trans s8) hc
  have hu8 : FrV p.units H8 vu := Mono.up (s7.trans s8) hu
  have bc : Bg p.cash := (pi.vb.sz c1).mono (by omega) (by omega)
  have okm : Ok2 p.cash (Vbchal.cost (Vbchal.quoteAt t.tree i j) (Vbchal.sub y p.units)) := ⟨pi.wc,a3,bc,a8.mono (by decide) (by decide),Nat.lt_of_le_of_lt a9 (Nat.pow_lt_pow_right (by decide) (by decide))⟩
  have hb : 0 < t.b := tk.ok.b1
  have a100 : t.a <= 100 := tk.ok.a2
  have b100 : t.b <= 100 := Nat.le_trans tk.ok.ba tk.ok.a2
  have fg : Ft 7 7 (lowest (t.a : Int) t.b) := ⟨lowest_wf _ hb,lowest_sz (by simp; omega) (by omega)⟩
  have fd : Ft (PM (t.n - (i + 1) + 1) + 1 + cd) cd (Vbchal.sub p.cash (Vbchal.cost (Vbchal.quoteAt t.tree i j) (Vbchal.sub y p.units))) := ⟨a4,a6.sz b1⟩
  refine s_set (y_times (y_minus (y_var rfl hc8) (y_cost (y_var rfl t8) (y_var (P := IntV i) rfl rfl) (y_var (P := IntV j) rfl rfl) (y_var rfl hu8) (y_var rfl h11) ⟨tk,by omega,hj,fu,fy⟩) okm) (y_growth T (y_var rfl t8)) (ok2 fd fg (by omega))) fun v12 H9 s9 h12 => ?_
  refine s_set (y_var rfl (Mono.up s9 h11 : FrV y H9 v11)) fun v13 H10 s10 h13 => ?_
  have s710 := s7.trans (s8.trans (s9.trans s10))
  have hl := fh.len
  rw [List.length_map,List.length_range] at hl
  refine s_append rfl (s710 _ _ eh) (by exact Nat.lt_of_le_of_lt (m := 1000) (by omega) (by decide)) (y_var rfl h13) fun v14 H11 s11 h14 => ?_
  have eh11 : H11 a = some (.lst hs) := s11 _ _ (s710 _ _ eh)
  have mu : MuL a H11 (upd H11 a (.lst (hs ++ [v14]))) := MuL.upd eh11
  have ecash : (Vbchal.stepped t.tree i j y p).cash = Vbchal.mul (Vbchal.sub p.cash (Vbchal.cost (Vbchal.quoteAt t.tree i j) (Vbchal.sub y p.units))) (lowest (t.a : Int) t.b) := grow_by a4 hb
  refine s_aug1 (y := z) rfl (y_var (P := IntV z) rfl rfl) fun H12 s12 => ?_
  refine ⟨v13,v12,some (V.int (i : Int)),some (V.int z),some v11,?_,((sH.trans (s710.trans s11)).mu na).trans s12,?_,?_,hs ++ [v14],s12 _ _ upd_same,?_⟩
  ·rw [en]
   have : ((j + z.toNat : Nat) : Int) = (j : Int) + z := by omega
   rw [this]
   rfl
  ·rw [ps]
   exact Mono.up s12 (TkV.tk mu.tk (Mono.up s11 h13))
  ·rw [ps,ecash]
   exact Mono.up s12 (TkV.tk mu.tk (Mono.up (s10.trans s11) h12))
  ·rw [List.range_succ,List.map_append]
   refine (all_up s12 (all_tk mu.tk (all_up (s710.trans s11) fh))).append (.one ?_)
   show FrV (purseAt t.tree c (Vbchal.nats way) (whole x) (i + 1)).units H12 v14
   rw [ps]
   exact Mono.up s12 (TkV.tk mu.tk h14)
 ·rintro σ H' ⟨vu,vc,vi,vm,vt,rfl,sH,hu,hc,hs,eh,fh⟩
  rw [List.length_map,hw] at *
  have pn := pok t.n (Nat.le_refl _)
  rw [Nat.sub_self] at pn
  have hjn : Vbchal.nodeOn (Vbchal.nats way) t.n <= t.n := nodeOn_le w1 t.n (by omega)
  have sH0 := s03.trans sH
  refine s_ret (y_mkWalk (y_left (t := t) (c := c) (p := purseAt t.tree c (Vbchal.nats way) (whole x) t.n) (y_var rfl (Mono.up sH0 h1)) (y_var rfl (Mono.up sH0 h2)) (y_var (P := IntV (Vbchal.nodeOn (Vbchal.nats way) t.n : Int)) rfl rfl) (y_var rfl hc) (y_var rfl hu) ⟨tk,ck,hjn,pn⟩) (y_var (P := LsV FrV _) rfl ⟨a,hs,rfl,eh,fh⟩)) fun v H2 s2 h => q v H2 (sH0.trans s2) ?_
  show WalkV A.c_Walk (Vbchal.left t.tree c (Vbchal.nats way) (whole x)) _ H2 v
  unfold Vbchal.left
  rw [tk.ok.steps]
  exact h
section
variable {H0 H : Hp} {σ : L2.St} {te ta tb tc td t1 t2 t3 t4 t5 : TE} {E : XK} {C D W : Addr} {t : TD}
theorem y_walked {c : Vbchal.Claim} {x : Int} {way : List Int} (h1 : Yd H0 t1 σ (TreeV C t)) (h2 : Yd H0 t2 σ (ClaimV D c)) (h3 : Yd H0 t3 σ (IntV x)) (h4 : Yd H0 t4 σ (IntsV way)) (h : TDok t /\ Vbchal.fair t.tree = true /\ COk t.n c /\ x.natAbs <= 1000000 /\ way.length = t.n /\ ∀ z ∈ way,z = 0 \/ z = 1) :
  Yd H0 (tCall (sp_walked C D W) [] E (tCons t1 (tCons t2 (tCons t3 (tCons t4 tNil))))) σ (WalkV W (Vbchal.left t.tree c (Vbchal.nats way) (whole x)) ((List.range t.n).map fun k => (purseAt t.tree c (Vbchal.nats way) (whole x) (k + 1)).units)) :=
 y_call (t,c,x,way) (ya_cons h1 (ya_cons h2 (ya_cons h3 (ya_cons h4 ya_nil)))) h
end
structure PSt where
 tree : Option TD
 claims : List (Option Vbchal.Claim)
def PSt.st (s : PSt) : Vbchal.State := { tree := s.tree.map TD.tree,claims := s.claims }
structure PSok (s : PSt) : Prop where
 len : s.claims.length = 3
 tr : ∀ t,s.tree = some t -> TDok t /\ Vbchal.fair t.tree = true
 cl : ∀ t c,s.tree = some t -> some c ∈ s.claims -> COk t.n c
def OClaimV (D : Addr) : Option Vbchal.Claim -> VP
 | none => EqV .non
 | some c => ClaimV D c
def OTreeV (C : Addr) : Option TD -> VP
 | none => EqV .non
 | some t => TreeV C t
instance (D : Addr) (o : Option Vbchal.Claim) : Mono (OClaimV D o) := by
 cases o
 ·exact inferInstanceAs (Mono (EqV _))
 ·exact inferInstanceAs (Mono (ClaimV _ _))
instance (D : Addr) (o : Option TD) : Mono (OTreeV D o) := by
 cases o
 ·exact inferInstanceAs (Mono (EqV _))
 ·exact inferInstanceAs (Mono (TreeV _ _))
def BookAt (A : Adr) (bk dx cl : Addr) (s : PSt) (H : Hp) : Prop := ∃ tv cvs,H bk = some (.ins A.c_Book dx [("tree",tv),("claims",.ref cl)]) /\ OTreeV A.c_Tree s.tree H tv /\ H cl = some (.lst cvs) /\ All2 (fun u o => OClaimV A.c_Claim o H u) cvs s.claims
def BookV (A : Adr) (s : PSt) : VP := fun H v => ∃ bk dx cl,v = .ref bk /\ BookAt A bk dx cl s H
theorem BookAt.up {bk dx cl : Addr} {s : PSt} {H H' : Hp} (h : Same H H') (b : BookAt A bk dx cl s H) : BookAt A bk dx cl s H' := by
 obtain ⟨tv,cvs,h1,h2,h3,h4⟩ := b
 exact ⟨tv,cvs,h _ _ h1,Mono.up h h2,h _ _ h3,all_up h h4⟩
instance (s : PSt) : Mono (BookV A s) := ⟨fun h ⟨bk,dx,cl,e,b⟩ => ⟨bk,dx,cl,e,b.up h⟩⟩
section
variable {H0 H : Hp} {σ : L2.St} {te ta tb tc td t1 t2 t3 t4 t5 : TE} {E : XK} {C D : Addr} {t : TD} {s : PSt}
theorem y_bclaims (T : Txt K mg A) (ha : Yd H0 ta σ (BookV A s)) : Yd H0 (tFld K ta "claims") σ (LsV (OClaimV A.c_Claim) s.claims) := y_fld ha fun H v ⟨bk,dx,cl,e,tv,cvs,h1,h2,h3,h4⟩ => ⟨bk,_,dx,_,_,e,h1,T.cl_Book,T.na_Book_claims,rfl,cl,cvs,rfl,h3,h4⟩
theorem y_btreeO (T : Txt K mg A) (ha : Yd H0 ta σ (BookV A s)) : Yd H0 (tFld K ta "tree") σ (OTreeV A.c_Tree s.tree) := y_fld ha fun H v ⟨bk,dx,cl,e,tv,cvs,h1,h2,h3,h4⟩ => ⟨bk,_,dx,_,_,e,h1,T.cl_Book,T.na_Book_tree,rfl,h2⟩
theorem y_btree (T : Txt K mg A) (h : s.tree = some t) (ha : Yd H0 ta σ (BookV A s)) : Yd H0 (tFld K ta "tree") σ (TreeV A.c_Tree t) := by
 have := y_btreeO T ha
 rw [h] at this
 exact this
theorem y_isNP {P : VP} {b : Bool} (ha : Yd H0 ta σ P) (h : ∀ H v,P H v -> decide (v = .non) = b) : Yd H0 (tOp (fun x y H Q => y = .non /\ Q (.bl (decide (x = .non))) H) ta (tC .non)) σ (BlV b) := fun H Q s k =>
 ha H _ s fun v H1 s1 e1 => ⟨rfl,k _ H1 s1 (by show V.bl _ = V.bl _; rw [h H1 v e1])⟩
theorem otree_non {o : Option TD} : ∀ H v,OTreeV C o H v -> decide (v = .non) = o.isNone := fun H v h => by
 cases o with
 | none => rw [show v = _ from h]; rfl
 | some t =>
  obtain ⟨p,dx,g,s',u,w,e,_⟩ := h
  rw [e]; rfl
theorem oclaim_non {o : Option Vbchal.Claim} : ∀ H v,OClaimV C o H v -> decide (v = .non) = o.isNone := fun H v h => by
 cases o with
 | none => rw [show v = _ from h]; rfl
 | some t =>
  obtain ⟨p,dx,u,w,e,_⟩ := h
  rw [e]; rfl
end
def sp_Book_has_place (A : Adr) : Sp := spA (ι := PSt × Int) (fun i => [BookV A i.1,IntV i.2]) (fun i => i.1.claims.length = 3) (fun i => BlV (Vbchal.isReg i.2))
theorem ok_Book_has_place (T : Txt K mg A) : FnOk P w K mg base CX0 1 A.f_Book_has_place A.d_Book_has_place p_Book_has_place (sp_Book_has_place A) := by
 refine T.F_Book_has_place.ok sc_Book_has_place (spA_len fun _ => rfl) fun cdv Ao outer s H vs Q E hr hsp => ?_
 obtain ⟨⟨b,r⟩,⟨v1,_,rfl,h1,v2,_,rfl,h2,rfl⟩,hl,q⟩ := hsp
 cases h2
 have h1 : BookV A b H v1 := h1
 have hl : b.claims.length = 3 := hl
 refine ⟨_,(pss_one (ps_ret (pe_chain op_le op_lt pe_int (pv 1) (pe_callB call_len_seq (by rfl) T.n_len boot_len (pa_cons (pe_fld (pv 0) rfl) pa_nil))))),?_⟩
 refine s_ret (y_dec (y_chain (f := fun i j => decide (i <= j)) (g := fun i j => decide (i < j)) (i := 0) (j := r) (y_c (v := .int 0)) (y_var rfl rfl) (y_len (y_bclaims T (y_var rfl h1)))) ?_) q
 rw [hl]
 show _ = Vbchal.isReg r
 unfold Vbchal.isReg Vbchal.within
 congr 1
 rw [Bool.eq_iff_iff,decide_eq_true_iff,decide_eq_true_iff]
 show r < 3 ↔ r <= 2
 omega
section
variable {H0 H : Hp} {σ : L2.St} {te ta tb tc td t1 t2 t3 t4 t5 : TE} {E : XK} {C D : Addr} {t : TD} {s : PSt}
theorem y_place {r : Int} (ha : Yd H0 ta σ (BookV A s)) (hb : Yd H0 tb σ (IntV r)) (h : s.claims.length = 3) : Yd H0 (tMeth A.c_Book "has_place" (sp_Book_has_place A) [] E ta (tCons tb tNil)) σ (BlV (Vbchal.isReg r)) :=
 y_meth ha (fun H v ⟨bk,dx,cl,e,tv,cvs,h1,_⟩ => ⟨bk,dx,_,e,h1,rfl⟩) (s,r) (ya_cons hb ya_nil) rfl h
end
def srcRef (s : PSt) : List Int -> Int
 | [] => 0
 | r :: l => if Vbchal.isReg r = false then -1 else if (s.claims.getD r.toNat none).isNone = true then -2 else srcRef s l
def refW (s : PSt) (ts ss : List Int) : Int := if s.tree.isNone = true then -7 else if (ts.all Vbchal.isReg) = false then -1 else srcRef s ss
theorem reg_at {s : PSt} (hl : s.claims.length = 3) {r : Int} (h : Vbchal.isReg r = true) : atI s.claims r = some (s.claims.getD r.toNat none) /\ r.toNat < 3 /\ 0 <= r := by
 have h' := within_iff.mp h
 have h1 : (0 : Int) <= r := h'.1
 have h2 : r <= 2 := h'.2
 refine ⟨at_ofG (j := r.toNat) (by omega) ?_,by omega,h1⟩
 rw [List.getD_eq_getElem?_getD,List.getElem?_eq_getElem (by omega)]
 rfl
def sp_Book_refusal (A : Adr) : Sp := spA (ι := PSt × List Int × List Int) (fun i => [BookV A i.1,IntsV i.2.1,IntsV i.2.2]) (fun i => i.1.claims.length = 3) (fun i => IntV (refW i.1 i.2.1 i.2.2))
theorem ok_Book_refusal (T : Txt K mg A) : FnOk P w K mg base CX0 2 A.f_Book_refusal A.d_Book_refusal p_Book_refusal (sp_Book_refusal A) := by
 refine T.F_Book_refusal.ok sc_Book_refusal (spA_len fun _ => rfl) fun cdv Ao outer s H vs Q E hr hsp => ?_
 obtain ⟨⟨b,ts,ss⟩,⟨v1,_,rfl,h1,v2,_,rfl,h2,v3,_,rfl,h3,rfl⟩,hl,q⟩ := hsp
 have h1 : BookV A b H v1 := h1
 have h2 : IntsV ts H v2 := h2
 have h3 : IntsV ss H v3 := h3
 have hl : b.claims.length = 3 := hl
 have q : ∀ r H',Same H H' -> r = .int (refW b ts ss) -> Q r H' := q
 refine ⟨_,(pss_cons (ps_if (pt_cmpR op_isN (pe_fld (pv 0) rfl) pe_non (nomark _)) (pss_one (ps_ret (pe_un un_neg pe_int))) pss_nil)
   (pss_cons (ps_for PassesOwn.never rfl (pi_list (pv 1)) (pg_name (i := 3) sc_Book_refusal.nd rfl (Or.inl rfl)) (pss_one (ps_if (pt_not (pt_val (pe_meth (pv 0) T.cl_Book T.me_Book_has_place (ok_Book_has_place T) (hr.mono (by decide)) T.b_Book_has_place .nil pass0 (pa_cons (pv 3) pa_nil)))) (pss_one (ps_ret (pe_un un_neg pe_int))) pss_nil)))
   (pss_cons (ps_for PassesOwn.never rfl (pi_list (pv 2)) (pg_name (i := 3) sc_Book_refusal.nd rfl (Or.inl rfl)) (pss_cons (ps_if (pt_not (pt_val (pe_meth (pv 0) T.cl_Book T.me_Book_has_place (ok_Book_has_place T) (hr.mono (by decide)) T.b_Book_has_place .nil pass0 (pa_cons (pv 3) pa_nil)))) (pss_one (ps_ret (pe_un un_neg pe_int))) pss_nil)
   (pss_one (ps_if (pt_cmpR op_isN (pe_ix ix_list (pe_fld (pv 0) rfl) (pv 3) (fun _ _ => rfl)) pe_non (nomark _)) (pss_one (ps_ret (pe_un un_neg pe_int))) pss_nil))))
   (pss_one (ps_ret pe_int))))),?_⟩
 refine s_ifn (yt_tst (y_isNP (y_btreeO T (y_var rfl h1)) otree_non)) (fun e H1 s1 => ?_) (fun e H1 s1 => ?_)
 ·refine s_ret (y_rU (y_c (v := .int 7))) fun v H2 s2 h => q v H2 (s1.trans s2) ?_
  rw [show v = _ from h,refW,if_pos e]
 have ew : refW b ts ss = if (ts.all Vbchal.isReg) = false then -1 else srcRef b ss := by rw [refW,if_neg (by rw [e]; decide)]
 refine s_for (E := IntV) (l := ts) (yi_list (y_var rfl (Mono.up s1 h2))) (fun i σ H' => ∃ r,σ = [some v1,some v2,some v3,r] /\ ∀ z ∈ ts.take i,Vbchal.isReg z = true) (fun H' s' => ⟨none,rfl,by simp⟩) ?_ ?_
 ·rintro i z y σ H4 H5 hy s4 s5 ⟨r,rfl,hr'⟩ hE
  cases hE
  show tIfS _ _ _ _ [some v1,some v2,some v3,some (V.int y)] H5
  refine s_if (yt_not (yt_tB (y_place (y_var rfl (Mono.up (s1.trans (s4.trans s5)) h1)) (y_var (P := IntV y) rfl rfl) hl))) (fun e H6 s6 => ?_) (fun e H6 s6 => ?_)
  ·refine s_ret (y_rU (y_c (v := .int 1))) fun v H7 s7 h => q v H7 (s1.trans (s4.trans (s5.trans (s6.trans s7)))) ?_
   have : ts.all Vbchal.isReg = false := by
    cases ea : ts.all Vbchal.isReg with
    | false => rfl
    | true =>
     have := List.all_eq_true.mp ea y (List.mem_of_getElem? hy)
     rw [this] at e
     cases e
   rw [show v = _ from h,ew,if_pos this]
  ·refine ⟨s5.trans s6,_,rfl,fun z hz => ?_⟩
   rw [List.take_succ,hy] at hz
   rcases List.mem_append.mp hz with z' | z'
   ·exact hr' z z'
   ·have : z = y := by simpa using z'
    rw [this]; exact ntF e
 ·rintro σ H4 s4 ⟨r,rfl,hr'⟩
  rw [List.take_length] at hr'
  have ea : ts.all Vbchal.isReg = true := List.all_eq_true.mpr hr'
  rw [if_neg (by rw [ea]; decide)] at ew
  refine s_for (E := IntV) (l := ss) (yi_list (y_var rfl (Mono.up (s1.trans s4) h3))) (fun i σ H' => ∃ r,σ = [some v1,some v2,some v3,r] /\ srcRef b ss = srcRef b (ss.drop i)) (fun H' s' => ⟨r,rfl,by simp⟩) ?_ ?_
  ·rintro i z y σ H5 H6 hy s5 s6 ⟨r,rfl,es⟩ hE
   cases hE
   rw [drop_at hy,srcRef] at es
   have s16 := s1.trans (s4.trans (s5.trans s6))
   have h16 : BookV A b H6 v1 := Mono.up s16 h1
   show tSeq _ _ _ [some v1,some v2,some v3,some (V.int y)] H6
   refine s_ifn (yt_not (yt_tB (y_place (y_var rfl h16) (y_var (P := IntV y) rfl rfl) hl))) (fun e H7 s7 => ?_) (fun e H7 s7 => ?_)
   ·refine s_ret (y_rU (y_c (v := .int 1))) fun v H8 s8 h => q v H8 (s16.trans (s7.trans s8)) ?_
    rw [show v = _ from h,ew,es,if_pos (ntT e)]
   ·have er := ntF e
    rw [if_neg (by rw [er]; decide)] at es
    refine s_if (yt_tst (y_isNP (y_ixL (y_bclaims T (y_var rfl (Mono.up s7 h16))) (y_var (P := IntV y) rfl rfl) (reg_at hl er).1) oclaim_non)) (fun e2 H8 s8 => ?_) (fun e2 H8 s8 => ?_)
    ·refine s_ret (y_rU (y_c (v := .int 2))) fun v H9 s9 h => q v H9 (s16.trans (s7.trans (s8.trans s9))) ?_
     rw [show v = _ from h,ew,es,if_pos e2]
    ·rw [if_neg (by rw [e2]; decide)] at es
     exact ⟨s6.trans (s7.trans s8),_,rfl,es⟩
  ·rintro σ H5 s5 ⟨r,rfl,es⟩
   rw [List.drop_length] at es
   refine s_ret (D := { nx := fun _ H' => Q .non H',rt := Q }) (σ := [some v1,some v2,some v3,r]) (y_c (v := .int 0)) fun v H6 s6 h => q v H6 (s1.trans (s4.trans (s5.trans s6))) ?_
   rw [show v = _ from h,ew,es]
   rfl
section
variable {H0 H : Hp} {σ : L2.St} {te ta tb tc td t1 t2 t3 t4 t5 : TE} {E : XK} {C D : Addr} {t : TD} {s : PSt}
theorem y_refusal {ts ss : List Int} (ha : Yd H0 ta σ (BookV A s)) (hb : Yd H0 tb σ (IntsV ts)) (hc : Yd H0 tc σ (IntsV ss)) (h : s.claims.length = 3) : Yd H0 (tMeth A.c_Book "refusal" (sp_Book_refusal A) [] E ta (tCons tb (tCons tc tNil))) σ (IntV (refW s ts ss)) :=
 y_meth ha (fun H v ⟨bk,dx,cl,e,tv,cvs,h1,_⟩ => ⟨bk,dx,_,e,h1,rfl⟩) (s,ts,ss) (ya_cons hb (ya_cons hc ya_nil)) rfl h
end
def NoInts (cvs : List V) : Prop := ∀ l : List Int,cvs ≠ l.map V.int
theorem noInts_of {H : Hp} {D : Addr} {cvs : List V} {os : List (Option Vbchal.Claim)} (h : All2 (fun u o => OClaimV D o H u) cvs os) (hl : os.length = 3) : NoInts cvs := fun l e => by
 cases h with
 | nil => simp at hl
 | cons h1 h2 =>
  cases l with
  | nil => cases e
  | cons z zs =>
   have e1 := (List.cons.inj e).1
   rename_i u o _ _
   cases o with
   | none => rw [show u = _ from h1] at e1; cases e1
   | some c =>
    obtain ⟨p,dx,x,y,e2,_⟩ := h1
    rw [e2] at e1
    cases e1
theorem ints_mu {a : Addr} {H H' : Hp} {cvs : List V} (ha : H a = some (.lst cvs)) (hn : NoInts cvs) (m : MuL a H H') {l : List Int} {v : V} (h : IntsV l H v) : IntsV l H' v := by
 obtain ⟨b,rfl,hb⟩ := h.get
 refine IntsV.mk (m.keep b _ (fun e => ?_) hb)
 rw [e,ha] at hb
 exact hn l (by injection hb with z; injection z)
theorem claim_mu {a D : Addr} {H H' : Hp} {cvs : List V} (ha : H a = some (.lst cvs)) (hn : NoInts cvs) (m : MuL a H H') {c : Vbchal.Claim} {v : V} (h : ClaimV D c H v) : ClaimV D c H' v := by
 obtain ⟨p,dx,u,x,e,hp,h1,h2⟩ := h
 exact ⟨p,dx,u,x,e,m.keep p _ (ne_of hp ha (by intro z; cases z)) hp,ints_mu ha hn m h1,ints_mu ha hn m h2⟩
theorem oclaim_mu {a D : Addr} {H H' : Hp} {cvs : List V} (ha : H a = some (.lst cvs)) (hn : NoInts cvs) (m : MuL a H H') {o : Option Vbchal.Claim} {v : V} (h : OClaimV D o H v) : OClaimV D o H' v := by
 cases o with
 | none => exact h
 | some c => exact claim_mu (D := D) ha hn m h
theorem otree_mu {a C : Addr} {H H' : Hp} {cvs : List V} (ha : H a = some (.lst cvs)) (hn : NoInts cvs) (m : MuL a H H') {o : Option TD} {v : V} (h : OTreeV C o H v) : OTreeV C o H' v := by
 cases o with
 | none => exact h
 | some t =>
  obtain ⟨p,dx,g,s',u,x,e,hp,h1,h2,h3,h4⟩ := h
  exact ⟨p,dx,g,s',u,x,e,m.keep p _ (ne_of hp ha (by intro z; cases z)) hp,TkV.tk m.tk h1,TkV.tk m.tk h2,ints_mu ha hn m h3,ints_mu ha hn m h4⟩
theorem All2.set {α β : Type} {F : α -> β -> Prop} {a : α} {b : β} (h : F a b) : ∀ {l : List α} {m : List β} (i : Nat),All2 F l m -> All2 F (l.set i a) (m.set i b)
 | _,_,_,.nil => .nil
 | _,_,0,.cons _ t => .cons h t
 | _,_,i + 1,.cons q t => .cons q (t.set h i)
def sp_Book_put_claim (A : Adr) : Sp := fun vs H Q _ => ∃ (bk dx cl : Addr) (s : PSt) (r : Int) (cv : V) (c : Vbchal.Claim),vs = [.ref bk,.int r,cv] /\ BookAt A bk dx cl s H /\ s.claims.length = 3 /\ Vbchal.isReg r = true /\ ClaimV A.c_Claim c H cv /\
 ∀ H',MuL cl H H' -> BookAt A bk dx cl { s with claims := s.claims.set r.toNat (some c) } H' -> Q .non H'
theorem ok_Book_put_claim (T : Txt K mg A) : FnOk P w K mg base CX0 1 A.f_Book_put_claim A.d_Book_put_claim p_Book_put_claim (sp_Book_put_claim A) := by
 refine T.F_Book_put_claim.ok sc_Book_put_claim (fun vs H Q E ⟨_,_,_,_,_,_,_,e,_⟩ => by rw [e]; rfl) fun cdv Ao outer s H vs Q E hr hsp => ?_
 obtain ⟨bk,dx,cl,b,r,cv,c,rfl,⟨tv,cvs,h1,h2,h3,h4⟩,hl,hreg,hc,q⟩ := hsp
 refine ⟨_,(pss_one (ps_asg (pv 2) (pg_sub (pe_fld (pv 0) rfl) (pv 1) set_list))),?_⟩
 obtain ⟨_,hr3,hr0⟩ := reg_at hl hreg
 have hn := noInts_of h4 hl
 have m : MuL cl H (upd H cl (.lst (cvs.set r.toNat cv))) := MuL.upd h3
 have hix : ixN cvs.length r = some r.toNat := by
  unfold ixN
  rw [if_pos hr0,if_pos (by rw [h4.len,hl]; omega)]
 refine ⟨cv,rfl,_,rfl,bk,_,dx,_,_,rfl,h1,T.cl_Book,T.na_Book_claims,rfl,_,rfl,cl,cvs,r,r.toNat,rfl,rfl,h3,hix,q _ m ⟨tv,cvs.set r.toNat cv,?_,otree_mu h3 hn m h2,upd_same,?_⟩⟩
 ·exact m.keep bk _ (ne_of h1 h3 (by intro z; cases z)) h1
 ·exact All2.set (F := fun u o => OClaimV A.c_Claim o (upd H cl (.lst (cvs.set r.toNat cv))) u) (b := some c) (claim_mu (D := A.c_Claim) h3 hn m hc) r.toNat (h4.imp fun u o z => oclaim_mu h3 hn m z)
theorem ints_but {a C dx : Addr} {fs : List (Str × V)} {H H' : Hp} (ha : H a = some (.ins C dx fs)) (m : But a H H') {l : List Int} {v : V} (h : IntsV l H v) : IntsV l H' v := by
 obtain ⟨b,rfl,hb⟩ := h.get
 exact IntsV.mk (m b _ (ne_of hb ha (by intro z; cases z)) hb)
theorem tk_but {a C dx : Addr} {fs : List (Str × V)} {H H' : Hp} (ha : H a = some (.ins C dx fs)) (m : But a H H') : Tk H H' := fun b xs h => m b _ (ne_of h ha (by intro z; cases z)) h
theorem tree_but {a C C' dx : Addr} {f1 f2 : Str × V} {H H' : Hp} (ha : H a = some (.ins C' dx [f1,f2])) (m : But a H H') {t : TD} {v : V} (h : TreeV C t H v) : TreeV C t H' v := by
 obtain ⟨p,dx',g,s',u,x,e,hp,h1,h2,h3,h4⟩ := h
 exact ⟨p,dx',g,s',u,x,e,m p _ (ne_of hp ha (by intro z; injection z with z1 z2 z3; cases z3)) hp,TkV.tk (tk_but ha m) h1,TkV.tk (tk_but ha m) h2,ints_but ha m h3,ints_but ha m h4⟩
def noClaims : List (Option Vbchal.Claim) := [none,none,none]
def sp_Book_take_tree (A : Adr) : Sp := fun vs H Q _ => ∃ (bk dx cl : Addr) (s : PSt) (tv : V) (t : TD),vs = [.ref bk,tv] /\ BookAt A bk dx cl s H /\ TreeV A.c_Tree t H tv /\
 ∀ H' cl',But bk H H' -> H cl' = Option.none -> BookAt A bk dx cl' ⟨some t,noClaims⟩ H' -> Q .non H'
section
variable {H0 H : Hp} {σ : L2.St}
theorem y_noClaims {D : Addr} : Yd H0 (tLst (tCons (tC .non) (tCons (tC .non) (tCons (tC .non) tNil)))) σ (AndV (LsV (OClaimV D) noClaims) (NewV H0)) :=
 y_lst (F := OClaimV D) (l := noClaims) (by decide) (yl_cons (x := none) (y_c (v := .non)) (yl_cons (x := none) (y_c (v := .non)) (yl_cons (x := none) (y_c (v := .non)) yl_nil)))
end
theorem no_claims {D : Addr} {H H' : Hp} {vs : List V} (h : All2 (fun u o => OClaimV D o H u) vs noClaims) : All2 (fun u o => OClaimV D o H' u) vs noClaims := by
 cases h with
 | cons a h => cases h with
  | cons b h => cases h with
   | cons c h => cases h; exact .cons a (.cons b (.cons c .nil))
theorem ok_Book_take_tree (T : Txt K mg A) : FnOk P w K mg base CX0 1 A.f_Book_take_tree A.d_Book_take_tree p_Book_take_tree (sp_Book_take_tree A) := by
 refine T.F_Book_take_tree.ok sc_Book_take_tree (fun vs H Q E ⟨_,_,_,_,_,_,e,_⟩ => by rw [e]; rfl) fun cdv Ao outer s H vs Q E hr hsp => ?_
 obtain ⟨bk,dx,cl,b,tv,t,rfl,⟨tv0,cvs,h1,h2,h3,h4⟩,ht,q⟩ := hsp
 refine ⟨_,(pss_cons (ps_fld (pv 0) (pv 1) rfl)
   (pss_one (ps_fld (pv 0) (pe_lst (pa_cons pe_non (pa_cons pe_non (pa_cons pe_non pa_nil)))) rfl))),?_⟩
 refine s_fld (P := EqV tv) (y_var rfl rfl) rfl h1 T.cl_Book T.na_Book_tree (by show 2 < 1000; decide) fun y1 H1 s1 e1 => ?_
 cases e1
 have p1 : (upd H1 bk (.ins A.c_Book dx (putF "tree" tv [("tree",tv0),("claims",.ref cl)]))) bk = some (.ins A.c_Book dx [("tree",tv),("claims",.ref cl)]) := upd_same
 refine s_fld1 (y_noClaims (D := A.c_Claim)) rfl p1 T.cl_Book T.na_Book_claims (by show 2 < 1000; decide) fun y2 H2 s2 h5 => ?_
 obtain ⟨⟨cl',vs,rfl,e2,f2⟩,⟨cl2,e3,n2⟩⟩ := h5
 cases e3
 have b1 : But bk H H1 := But.of s1
 have b2 : But bk H1 (upd H1 bk (.ins A.c_Book dx (putF "tree" tv [("tree",tv0),("claims",.ref cl)]))) := But.upd
 have b3 := (b1.trans b2).trans (But.of s2)
 have hcl : cl' ≠ bk := fun z => by rw [z,p1] at n2; cases n2
 have n3 : H cl' = Option.none := by
  rw [upd_ne hcl] at n2
  exact s1.free n2
 refine q _ cl' (b3.trans But.upd) n3 ⟨tv,vs,upd_same,tree_but h1 (b3.trans But.upd) ht,?_,no_claims f2⟩
 rw [upd_ne hcl]; exact e2
def sp_Book_init (A : Adr) : Sp := fun vs H Q _ => ∃ (bk dx : Addr),vs = [.ref bk] /\ H bk = some (.ins A.c_Book dx []) /\ ∀ H' cl,But bk H H' -> H cl = Option.none -> BookAt A bk dx cl ⟨none,noClaims⟩ H' -> Q .non H'
theorem ok_Book_init (T : Txt K mg A) : FnOk P w K mg base CX0 1 A.f_Book_init A.d_Book_init p_Book_init (sp_Book_init A) := by
 refine T.F_Book_init.ok sc_Book_init (fun vs H Q E ⟨_,_,e,_⟩ => by rw [e]; rfl) fun cdv Ao outer s H vs Q E hr hsp => ?_
 obtain ⟨bk,dx,rfl,h1,q⟩ := hsp
 refine ⟨_,(pss_cons (ps_fld (pv 0) pe_non rfl)
   (pss_one (ps_fld (pv 0) (pe_lst (pa_cons pe_non (pa_cons pe_non (pa_cons pe_non pa_nil)))) rfl))),?_⟩
 refine s_fld (y_c (v := .non)) rfl h1 T.cl_Book T.na_Book_tree (by decide) fun y1 H1 s1 e1 => ?_
 cases e1
 have p1 : (upd H1 bk (.ins A.c_Book dx (putF "tree" .non []))) bk = some (.ins A.c_Book dx [("tree",.non)]) := upd_same
 refine s_fld1 (y_noClaims (D := A.c_Claim)) rfl p1 T.cl_Book T.na_Book_claims (by show 1 < 1000; decide) fun y2 H2 s2 h5 => ?_
 obtain ⟨⟨cl',vs,rfl,e2,f2⟩,⟨cl2,e3,n2⟩⟩ := h5
 cases e3
 have b1 : But bk H H1 := But.of s1
 have b2 : But bk H1 (upd H1 bk (.ins A.c_Book dx (putF "tree" .non []))) := But.upd
 have b3 := (b1.trans b2).trans (But.of s2)
 have hcl : cl' ≠ bk := fun z => by rw [z,p1] at n2; cases n2
 have n3 : H cl' = Option.none := by
  rw [upd_ne hcl] at n2
  exact s1.free n2
 refine q _ cl' (b3.trans But.upd) n3 ⟨.non,vs,upd_same,rfl,?_,no_claims f2⟩
 rw [upd_ne hcl]; exact e2
theorem st_none {s : PSt} (h : s.tree = none) : s.st.tree = none := by
 show s.tree.map TD.tree = none
 rw [h]; rfl
theorem st_some {s : PSt} {t : TD} (h : s.tree = some t) : s.st.tree = some t.tree := by
 show s.tree.map TD.tree = some t.tree
 rw [h]; rfl
theorem on_none {s : PSt} (h : s.tree = none) (r : Int) (f : Vbchal.Tree -> Vbchal.Claim -> Vbchal.State × Vbchal.Answer) : Vbchal.onClaim s.st r f = (s.st,[-7]) := by
 unfold Vbchal.onClaim
 rw [st_none h]
theorem on_reg {s : PSt} {t : TD} (h : s.tree = some t) {r : Int} (hr : Vbchal.isReg r = false) (f : Vbchal.Tree -> Vbchal.Claim -> Vbchal.State × Vbchal.Answer) : Vbchal.onClaim s.st r f = (s.st,[-1]) := by
 unfold Vbchal.onClaim
 rw [st_some h]
 exact if_pos hr
theorem claimOf_reg {s : PSt} {r : Int} (hr : Vbchal.isReg r = true) : Vbchal.claimOf s.st r = s.claims.getD r.toNat none := by
 unfold Vbchal.claimOf
 rw [if_pos hr]
 rfl
theorem on_clm {s : PSt} {t : TD} (h : s.tree = some t) {r : Int} (hr : Vbchal.isReg r = true) (hc : s.claims.getD r.toNat none = none) (f : Vbchal.Tree -> Vbchal.Claim -> Vbchal.State × Vbchal.Answer) : Vbchal.onClaim s.st r f = (s.st,[-2]) := by
 unfold Vbchal.onClaim
 rw [st_some h]
 refine (if_neg (by rw [hr]; decide)).trans ?_
 rw [claimOf_reg hr,hc]
theorem on_ok {s : PSt} {t : TD} (h : s.tree = some t) {r : Int} (hr : Vbchal.isReg r = true) {c : Vbchal.Claim} (hc : s.claims.getD r.toNat none = some c) (f : Vbchal.Tree -> Vbchal.Claim -> Vbchal.State × Vbchal.Answer) : Vbchal.onClaim s.st r f = f t.tree c := by
 unfold Vbchal.onClaim
 rw [st_some h]
 refine (if_neg (by rw [hr]; decide)).trans ?_
 rw [claimOf_reg hr,hc]
theorem src_cases (s : PSt) (r : Int) (l : List Int) : (srcRef s (r :: l) = -1 /\ Vbchal.isReg r = false) \/ (srcRef s (r :: l) = -2 /\ Vbchal.isReg r = true /\ s.claims.getD r.toNat none = none) \/
  (∃ c,srcRef s (r :: l) = srcRef s l /\ Vbchal.isReg r = true /\ s.claims.getD r.toNat none = some c) := by
 cases hr : Vbchal.isReg r with
 | false => exact .inl ⟨by rw [srcRef,if_pos hr],rfl⟩
 | true =>
  cases hc : s.claims.getD r.toNat none with
  | none => exact .inr (.inl ⟨by rw [srcRef,if_neg (by rw [hr]; decide),if_pos (by rw [hc]; rfl)],rfl,rfl⟩)
  | some c => exact .inr (.inr ⟨c,by rw [srcRef,if_neg (by rw [hr]; decide),if_neg (by rw [hc]; simp)],rfl,rfl⟩)
theorem ref_src (s : PSt) (r : Int) : (refW s [] [r] ≠ 0 /\ ∀ f,Vbchal.onClaim s.st r f = (s.st,[refW s [] [r]])) \/
  (refW s [] [r] = 0 /\ ∃ t c,s.tree = some t /\ Vbchal.isReg r = true /\ s.claims.getD r.toNat none = some c /\ ∀ f,Vbchal.onClaim s.st r f = f t.tree c) := by
 cases ht : s.tree with
 | none =>
  have e : refW s [] [r] = -7 := by unfold refW; rw [ht]; rfl
  rw [e]
  exact .inl ⟨by decide,fun f => on_none ht r f⟩
 | some t =>
  have e : refW s [] [r] = srcRef s [r] := by unfold refW; rw [ht]; rfl
  rcases src_cases s r [] with ⟨e1,hr⟩ | ⟨e1,hr,hc⟩ | ⟨c,e1,hr,hc⟩
  ·rw [e,e1]; exact .inl ⟨by decide,fun f => on_reg ht hr f⟩
  ·rw [e,e1]; exact .inl ⟨by decide,fun f => on_clm ht hr hc f⟩
  ·rw [e,e1]; exact .inr ⟨rfl,t,c,rfl,hr,hc,fun f => on_ok ht hr hc f⟩
theorem ref_none (s : PSt) : (refW s [] [] = -7 /\ s.tree = none) \/ (refW s [] [] = 0 /\ ∃ t,s.tree = some t) := by
 cases ht : s.tree with
 | none => exact .inl ⟨by unfold refW; rw [ht]; rfl,rfl⟩
 | some t => exact .inr ⟨by unfold refW; rw [ht]; rfl,t,rfl⟩
theorem node_eq {t : TD} (tk : TDok t) (i j : Int) : hasNode t.n i j = Vbchal.nodeOk t.tree i j := by
 unfold hasNode Vbchal.nodeOk Vbchal.isNode
 rw [tk.ok.len,Bool.eq_iff_iff]
 simp
 omega
theorem node_nat {n : Nat} {i j : Int} (h : hasNode n i j = true) : ∃ a b : Nat,i = (a : Int) /\ j = (b : Int) /\ a <= n /\ b <= a := by
 unfold hasNode at h
 simp at h
 exact ⟨i.toNat,j.toNat,by omega,by omega,by omega,by omega⟩
theorem small_eq (x : Int) : between3 (-1000000) 1000000 x = Vbchal.small x := by
 unfold between3 Vbchal.small Vbchal.PAY
 rw [Bool.eq_iff_iff]
 simp
 omega
theorem small_all (l : List Int) : l.all (between3 (-1000000) 1000000) = l.all Vbchal.small := by
 congr 1
 funext x
 exact small_eq x
theorem small_one (x : Int) : [x].all (between3 (-1000000) 1000000) = Vbchal.small x := by
 rw [small_all]; simp
theorem small_le {x : Int} (h : Vbchal.small x = true) : x.natAbs <= 1000000 := of_decide_eq_true h
theorem pow_short : 2 ^ 14000 < 10 ^ 4300 := by decide +kernel
theorem short_of {n d : Nat} {x : Frac} (h : Sz n d x) (hn : n <= 14000) (hd : d <= 14000) : Short x :=
 ⟨Nat.lt_of_le_of_lt (h.mono hn hd).1 pow_short,Nat.lt_of_le_of_lt (h.mono hn hd).2 pow_short⟩
theorem Ft.short {n d : Nat} {x : Frac} (h : Ft n d x) (hn : n <= 14000) (hd : d <= 14000) : Short x := short_of h.2 hn hd
theorem most_ft {x : Frac} (fx : Ft 40 0 x) : ∀ {l : List Point},l ≠ [] -> (∀ p ∈ l,BigP p) -> Ft 3400 3300 (Vbchal.most x l)
 | [],h,_ => absurd rfl h
 | p :: l,_,h => by
  rw [<- mostP_eq fx.1 fun y hy => (h y hy).wf]
  exact mostP_ft fx (term_ft (h p (by simp)) fx) h
theorem COk_of {s : PSt} (ok : PSok s) {t : TD} (ht : s.tree = some t) {r : Int} (hr : Vbchal.isReg r = true) {c : Vbchal.Claim} (hc : s.claims.getD r.toNat none = some c) : COk t.n c := by
 refine ok.cl t c ht ?_
 rw [<- hc]
 have := (reg_at ok.len hr).2.1
 exact getD_mem (by rw [ok.len]; exact this)
theorem least_lev (t : TD) (c : Vbchal.Claim) (i j : Nat) (x : Frac) : Vbchal.least t.tree c i j x = Vbchal.most x ((lev t.tree c i).getD j []) := by
 unfold Vbchal.least
 rw [at_lev]
theorem told_len {x : Frac} (h : Short x) : (Vbchal.told x).length <= 10000 := by
 have := text_len h
 unfold Vbchal.told
 rw [List.length_cons]
 omega
theorem counted_sz {n d a b : Nat} {x : Frac} (h : Ft n d x) (ha : 1 <= a /\ 2 ^ n < 10 ^ a) (hb : 1 <= b /\ 2 ^ d < 10 ^ b) : (Vbchal.counted x).length <= a + b + 3 := by
 have l1 := nat_text_len ha.1 (Nat.lt_of_le_of_lt h.2.1 ha.2)
 have l2 := nat_text_len hb.1 (Nat.lt_of_le_of_lt h.2.2 hb.2)
 unfold Vbchal.counted Vbchal.fracText Vbchal.decimal
 rw [List.length_cons,List.length_append,List.length_append,List.length_cons,List.length_map,List.length_map]
 split
 ·simp only [List.length_cons,List.length_nil]; omega
 ·simp only [List.length_nil]; omega
def PartV : Int ⊕ List Int -> VP
 | .inl i => IntV i
 | .inr l => IntsV l
instance (o : Int ⊕ List Int) : Mono (PartV o) := by
 cases o
 ·exact inferInstanceAs (Mono (EqV _))
 ·exact inferInstanceAs (Mono (LsV _ _))
theorem one_lim {z : Int} {n : Nat} : [z].length <= n + 1 := by simp
def spAns {ι : Type} (A : Adr) (lim : Nat) (mk : ι -> Vbchal.Call) (pt : ι -> List (Int ⊕ List Int)) (B : ι -> Prop) : Sp := fun vs H Q _ => ∃ (bk dx cl : Addr) (s : PSt) (pv : V) (i : ι),vs = [.ref bk,pv] /\ BookAt A bk dx cl s H /\ PSok s /\ LsV PartV (pt i) H pv /\ B i /\
 ∀ r H' cl' s',(∀ b o,b ≠ bk -> b ≠ cl -> H b = some o -> H' b = some o) -> (cl' = cl \/ H cl' = Option.none) -> BookAt A bk dx cl' s' H' -> PSok s' -> s'.st = (Vbchal.step s.st (mk i)).1 -> IntsV (Vbchal.step s.st (mk i)).2 H' r -> NewV H H' r -> (Vbchal.step s.st (mk i)).2.length <= lim -> Q r H'
theorem spAns_len {ι : Type} {lim : Nat} {mk : ι -> Vbchal.Call} {pt : ι -> List (Int ⊕ List Int)} {B : ι -> Prop} : ∀ vs H Q E,spAns A lim mk pt B vs H Q E -> vs.length = 2 := fun vs H Q E ⟨_,_,_,_,_,_,e,_⟩ => by rw [e]; rfl
theorem ans_fin {ι : Type} {lim : Nat} {mk : ι -> Vbchal.Call} {H : Hp} {Q : VK} {bk dx cl : Addr} {s : PSt} {i : ι} (b : BookAt A bk dx cl s H) (ok : PSok s)
  (q : ∀ r H' cl' s',(∀ b o,b ≠ bk -> b ≠ cl -> H b = some o -> H' b = some o) -> (cl' = cl \/ H cl' = Option.none) -> BookAt A bk dx cl' s' H' -> PSok s' -> s'.st = (Vbchal.step s.st (mk i)).1 -> IntsV (Vbchal.step s.st (mk i)).2 H' r -> NewV H H' r -> (Vbchal.step s.st (mk i)).2.length <= lim -> Q r H')
  {ans : List Int} (e : Vbchal.step s.st (mk i) = (s.st,ans)) {Hx : Hp} : ∀ v H',Same H Hx -> Same Hx H' -> AndV (IntsV ans) (NewV Hx) H' v -> (hl : ans.length <= lim := by exact one_lim) -> Q v H' := fun v H' s1 s2 h hl =>
 q v H' cl s (fun b o _ _ e => (s1.trans s2) b o e) (.inl rfl) (b.up (s1.trans s2)) ok (by rw [e]) (by rw [e]; exact h.1) (h.2.old s1) (by rw [e]; exact hl)
section
variable {H0 H : Hp} {σ : L2.St} {te ta tb tc td t1 t2 t3 t4 t5 : TE} {E : XK} {D : Ends} {rest : TS} {k : Nat} {s : PSt}
theorem y_part {l : List (Int ⊕ List Int)} {n : Nat} {o : Int ⊕ List Int} (h : Yd H0 ta σ (LsV PartV l)) (e : l[n]? = some o) : Yd H0 (tOp (rIxL K) ta (tC (.int (n : Int)))) σ (PartV o) := y_ixL h y_c (atI_nat e)
theorem y_int1 {z : Int} (h : Yd H0 te σ (IntV z)) : Yd H0 (tLst (tCons te tNil)) σ (AndV (IntsV [z]) (NewV H0)) := y_lst (F := IntV) (l := [z]) (by simp) (yl_cons h yl_nil)
theorem s_refuse {code : Int} (h : Yd H te σ (IntV code)) (hk : k < σ.length) (k1 : code ≠ 0 -> ∀ v H',Same H H' -> AndV (IntsV [code]) (NewV H) H' v -> D.rt v H') (k2 : code = 0 -> ∀ H',Same H H' -> rest D (σ.set k (some (.int 0))) H') :
  tSeq (tAsg te (gName k)) (tSeq (tIfS (tTest (tOp rNe (tVar k) (tC (.int 0)))) (tRet (tLst (tCons (tVar k) tNil))) tNext) rest) D σ H := by
 refine s_set h fun v H1 s1 e => ?_
 cases e
 have hv : (σ.set k (some (V.int code)))[k]? = some (some (V.int code)) := List.getElem?_set_self hk
 refine s_ifn (b := !decide (V.int code = V.int 0)) (yt_tst (y_ne rfl (y_var (P := IntV code) hv rfl) y_c)) (fun e H2 s2 => ?_) (fun e H2 s2 => ?_)
 ·refine s_ret (y_int1 (y_var (P := IntV code) hv rfl)) fun v H3 s3 h3 => k1 (fun z => ?_) v H3 (s1.trans (s2.trans s3)) ⟨h3.1,h3.2.old (s1.trans s2)⟩
  rw [z] at e
  simp at e
 ·have e' : code = 0 := by simpa using e
  subst e'
  exact k2 rfl H2 (s1.trans s2)
theorem s_bad {c : TT} {b : Bool} {n : Int} (h : YdT H c σ b) (k1 : b = true -> ∀ v H',Same H H' -> AndV (IntsV [-n]) (NewV H) H' v -> D.rt v H') (k2 : b = false -> ∀ H',Same H H' -> rest D σ H') :
  tSeq (tIfS c (tRet (tLst (tCons (tUn (rU fun i => .int (-i)) (tC (.int n))) tNil))) tNext) rest D σ H :=
 s_ifn h (fun e H1 s1 => s_ret (y_int1 (y_rU (f := fun i => .int (-i)) y_c)) fun v H2 s2 h2 => k1 e v H2 (s1.trans s2) ⟨h2.1,h2.2.old s1⟩) k2
theorem y_small {x : Int} (h : Yd H0 te σ (IntV x)) : Yd H0 (tCall sp_all_between [] E (tCons (tLst (tCons te tNil)) (tCons (tUn (rU fun i => .int (-i)) (tC (.int 1000000))) (tCons (tC (.int 1000000)) tNil)))) σ (BlV (Vbchal.small x)) :=
 y_dec (y_allb (y_int1 h).l (y_rU (f := fun i => .int (-i)) y_c) y_c (by simp)) (small_one x)
theorem y_smalls {l : List Int} (h : Yd H0 te σ (IntsV l)) (hl : l.length <= 10000) : Yd H0 (tCall sp_all_between [] E (tCons te (tCons (tUn (rU fun i => .int (-i)) (tC (.int 1000000))) (tCons (tC (.int 1000000)) tNil)))) σ (BlV (l.all Vbchal.small)) :=
 y_dec (y_allb h (y_rU (f := fun i => .int (-i)) y_c) y_c hl) (small_all l)
theorem y_told {x : Frac} (h : Yd H0 te σ (FrV x)) (hx : Short x) : Yd H0 (tOp rCat (tLst (tCons (tC (.int 0)) tNil)) (tCall sp_text_bytes [] E (tCons te tNil))) σ (AndV (IntsV (Vbchal.told x)) (NewV H0)) :=
 (y_cat (F := IntV) (l := [0]) (m := Vbchal.fracText x) (by have := text_len hx; show 1 + _ <= sizeLine; exact Nat.le_trans (m := 9001) (by omega) (by decide)) (y_int1 y_c).l (y_text h hx).l)
theorem y_claim (T : Txt K mg A) (ok : PSok s) {r : Int} (hr : Vbchal.isReg r = true) {c : Vbchal.Claim} (hc : s.claims.getD r.toNat none = some c) (ha : Yd H0 ta σ (BookV A s)) (hb : Yd H0 tb σ (IntV r)) : Yd H0 (tOp (rIxL K) (tFld K ta "claims") tb) σ (ClaimV A.c_Claim c) := by
 have := y_ixL (K := K) (y_bclaims T ha) hb (reg_at ok.len hr).1
 rw [hc] at this
 exact this
end
def sp_answer_least (A : Adr) : Sp := spAns (ι := Int × Int × Int × Int) A 10000 (fun i => .least i.1 i.2.1 i.2.2.1 i.2.2.2) (fun i => [.inl i.1,.inl i.2.1,.inl i.2.2.1,.inl i.2.2.2]) (fun _ => True)
theorem ok_answer_least (T : Txt K mg A) : FnOk P w K mg base CX0 9 A.f_answer_least A.d_answer_least p_answer_least (sp_answer_least A) := by
 refine T.F_answer_least.ok sc_answer_least spAns_len fun cdv Ao outer s0 H vs Q E hr hsp => ?_
 obtain ⟨bk,dx,cl,s,vp,⟨r,i,j,x⟩,rfl,hb,ok,hp,_,q⟩ := hsp
 refine ⟨_,(pss_cons (ps_set (i := 2) sc_answer_least.nd rfl (Or.inl rfl) (pe_ix ix_list (pv 1) pe_int (fun _ _ => rfl)))
   (pss_cons (ps_set (i := 3) sc_answer_least.nd rfl (Or.inl rfl) (pe_ix ix_list (pv 1) pe_int (fun _ _ => rfl)))
   (pss_cons (ps_set (i := 4) sc_answer_least.nd rfl (Or.inl rfl) (pe_ix ix_list (pv 1) pe_int (fun _ _ => rfl)))
   (pss_cons (ps_set (i := 5) sc_answer_least.nd rfl (Or.inl rfl) (pe_ix ix_list (pv 1) pe_int (fun _ _ => rfl)))
   (pss_cons (ps_set (i := 6) sc_answer_least.nd rfl (Or.inl rfl) (pe_meth (pv 0) T.cl_Book T.me_Book_refusal (ok_Book_refusal T) (hr.mono (by decide)) T.b_Book_refusal .nil pass0 (pa_cons (pe_lst pa_nil) (pa_cons (pe_lst (pa_cons (pv 2) pa_nil)) pa_nil))))
   (pss_cons (ps_if (pt_cmpR op_ne (pv 6) pe_int (nomark _)) (pss_one (ps_ret (pe_lst (pa_cons (pv 6) pa_nil)))) pss_nil)
   (pss_cons (ps_if (pt_not (pt_val (pe_meth (pe_fld (pv 0) rfl) T.cl_Tree T.me_Tree_has_node (ok_Tree_has_node T) (hr.mono (by decide)) T.b_Tree_has_node .nil pass0 (pa_cons (pv 3) (pa_cons (pv 4) pa_nil))))) (pss_one (ps_ret (pe_lst (pa_cons (pe_un un_neg pe_int) pa_nil)))) pss_nil)
   (pss_cons (ps_if (pt_not (pt_val (pe_call (ok_all_between T) (hr.mono (by decide)) rfl T.m_all_between T.F_all_between.kp T.b_all_between .nil pass0 (pa_cons (pe_lst (pa_cons (pv 5) pa_nil)) (pa_cons (pe_un un_neg (pe_glob rfl T.g_LIMIT T.r_LIMIT)) (pa_cons (pe_glob rfl T.g_LIMIT T.r_LIMIT) pa_nil)))))) (pss_one (ps_ret (pe_lst (pa_cons (pe_un un_neg pe_int) pa_nil)))) pss_nil)
   (pss_cons (ps_set (i := 7) sc_answer_least.nd rfl (Or.inl rfl) (pe_ix ix_list (pe_ix ix_list (pe_call (ok_points_by_step T) (hr.mono (by decide)) rfl T.m_points_by_step T.F_points_by_step.kp T.b_points_by_step .nil pass0 (pa_cons (pe_fld (pv 0) rfl) (pa_cons (pe_ix ix_list (pe_fld (pv 0) rfl) (pv 2) (fun _ _ => rfl)) pa_nil))) (pv 3) (fun _ _ => rfl)) (pv 4) (fun _ _ => rfl)))
   (pss_one (ps_ret (pe_op op_cat (pe_lst (pa_cons pe_int pa_nil)) (pe_call (ok_text_bytes T) (hr.mono (by decide)) rfl T.m_text_bytes T.F_text_bytes.kp T.b_text_bytes .nil pass0 (pa_cons (pe_call (ok_least_cash T) (hr.mono (by decide)) rfl T.m_least_cash T.F_least_cash.kp T.b_least_cash .nil pass0 (pa_cons (pv 7) (pa_cons (pe_call (ok_ratio T) (hr.mono (by decide)) rfl T.m_ratio T.F_ratio.kp T.b_ratio .nil pass0 (pa_cons (pv 5) (pa_cons pe_int pa_nil))) pa_nil))) pa_nil)))))))))))))),?_⟩
 refine s_set (y_part (n := 0) (y_var rfl hp) rfl) fun v2 H2 s2 e2 => ?_
 refine s_set (y_part (n := 1) (y_var rfl (Mono.up s2 hp)) rfl) fun v3 H3 s3 e3 => ?_
 refine s_set (y_part (n := 2) (y_var rfl (Mono.up (s2.trans s3) hp)) rfl) fun v4 H4 s4 e4 => ?_
 refine s_set (y_part (n := 3) (y_var rfl (Mono.up (s2.trans (s3.trans s4)) hp)) rfl) fun v5 H5 s5 e5 => ?_
 cases e2; cases e3; cases e4; cases e5
 have s05 := s2.trans (s3.trans (s4.trans s5))
 have hB : ∀ {H'},Same H H' -> BookV A s H' (.ref bk) := fun sH => ⟨bk,dx,cl,rfl,hb.up sH⟩
 refine s_refuse (y_refusal (ts := []) (ss := [r]) (y_var rfl (hB s05)) (y_lst (F := IntV) (l := []) (by decide) yl_nil).l (y_int1 (y_var (P := IntV r) rfl rfl)).l ok.len) (by show 6 < 8; decide) (fun hne v H' sH h => ?_) (fun h0 H6 s6 => ?_)
 ·rcases ref_src s r with ⟨_,e⟩ | ⟨z,_⟩
  ·exact ans_fin (lim := 10000) (mk := fun i : Int × Int × Int × Int => .least i.1 i.2.1 i.2.2.1 i.2.2.2) (i := (r,i,j,x)) hb ok q (e _) v H' s05 sH h
  ·exact absurd z hne
 rcases ref_src s r with ⟨z,_⟩ | ⟨_,t,c,ht,hr',hc,e⟩
 ·exact absurd h0 z
 obtain ⟨tk,hf⟩ := ok.tr t ht
 have ck := COk_of ok ht hr' hc
 have n4 := tk.ok.n4
 have fin := @ans_fin A (Int × Int × Int × Int) 10000 (fun i : Int × Int × Int × Int => .least i.1 i.2.1 i.2.2.1 i.2.2.2) H Q bk dx cl s (r,i,j,x) hb ok q
 have e : Vbchal.step s.st (.least r i j x) = if Vbchal.nodeOk t.tree i j = false then (s.st,[-3]) else if Vbchal.small x = false then (s.st,[-4]) else (s.st,Vbchal.told (Vbchal.least t.tree c i.toNat j.toNat (whole x))) := e _
 have s06 := s05.trans s6
 refine s_bad (yt_not (yt_tB (y_hasNode (y_btree T ht (y_var rfl (hB s06))) (y_var (P := IntV i) rfl rfl) (y_var (P := IntV j) rfl rfl)))) (fun e1 v H' sH h => ?_) (fun e1 H7 s7 => ?_)
 ·rw [node_eq tk] at e1
  exact fin (e.trans (if_pos (ntT e1))) v H' s06 sH h
 have hn := ntF e1
 rw [if_neg (by rw [<- node_eq tk,hn]; decide)] at e
 refine s_bad (yt_not (yt_tB (y_small (y_var (P := IntV x) rfl rfl)))) (fun e2 v H' sH h => ?_) (fun e2 H8 s8 => ?_)
 ·exact fin (e.trans (if_pos (ntT e2))) v H' (s06.trans s7) sH h
 have hs := ntF e2
 rw [if_neg (by rw [hs]; decide)] at e
 have s08 := s06.trans (s7.trans s8)
 obtain ⟨a,b,rfl,rfl,ha,hb2⟩ := node_nat hn
 rw [Int.toNat_natCast,Int.toNat_natCast,least_lev] at e
 have g := good_at tk.ok hf ck ha hb2
 have fx : Ft 40 0 (whole x) := (Ft.whole (a := 20) (Nat.le_trans (small_le hs) (by decide))).mono (by decide) (by decide)
 have bg := g.bigp (by omega)
 refine s_set (y_row tk ha hb2 (y_lev tk ha (y_points (c := c) (y_btree T ht (y_var rfl (hB s08))) (y_claim T ok hr' hc (y_var rfl (hB s08)) (y_var (P := IntV r) rfl rfl)) ⟨tk,hf,ck⟩) (y_var (P := IntV a) rfl rfl)) (y_var (P := IntV b) rfl rfl)) fun v9 H9 s9 h9 => ?_
 exact s_ret (y_told (y_least (y_var rfl h9) (y_whole (y_var (P := IntV x) rfl rfl)) ⟨bg,g.ne,fx⟩) ((most_ft fx g.ne bg).short (by decide) (by decide))) fun v H' sH h => fin e v H' (s08.trans s9) sH h (told_len ((most_ft fx g.ne bg).short (by decide) (by decide)))
theorem flat_len {α : Type} {f : α -> List Int} {B : Nat} : ∀ {l : List α},(∀ x ∈ l,(f x).length <= B) -> (l.flatMap f).length <= l.length * B
 | [],_ => by simp
 | x :: l,h => by
  rw [List.flatMap_cons,List.length_append,List.length_cons,Nat.succ_mul]
  have := h x (by simp)
  have := flat_len (l := l) fun y hy => h y (List.mem_cons_of_mem _ hy)
  omega
theorem counted_len {x : Frac} (h : Short x) : (Vbchal.counted x).length <= 9001 := by
 have := text_len h
 unfold Vbchal.counted
 rw [List.length_cons]
 omega
theorem flat_take {α : Type} {f : α -> List Int} {l : List α} {i : Nat} {y : α} (h : l[i]? = some y) : (l.take (i + 1)).flatMap f = (l.take i).flatMap f ++ f y := by
 rw [List.take_succ,h,List.flatMap_append]
 simp
theorem big_line {n : Nat} (h : n <= 16000000) : n <= sizeLine := Nat.le_trans h (by decide)
theorem bigp_len {p : Point} (h : BigP p) : (Vbchal.counted p.q ++ Vbchal.counted p.v).length <= 1996 := by
 have a := counted_sz (a := 31) (b := 31) h.q (by decide +kernel) (by decide +kernel)
 have b := counted_sz (a := 964) (b := 964) h.v (by decide +kernel) (by decide +kernel)
 rw [List.length_append]
 omega
theorem bigp_short {p : Point} (h : BigP p) : Short p.q /\ Short p.v := ⟨h.q.short (by decide) (by decide),h.v.short (by decide) (by decide)⟩
abbrev mk3 (f : Int -> Int -> Int -> Vbchal.Call) : Int × Int × Int -> Vbchal.Call := fun i => f i.1 i.2.1 i.2.2
def sp_answer_points (A : Adr) : Sp := spAns (ι := Int × Int × Int) A 123800 (mk3 .points) (fun i => [.inl i.1,.inl i.2.1,.inl i.2.2]) (fun _ => True)
theorem ok_answer_points (T : Txt K mg A) : FnOk P w K mg base CX0 9 A.f_answer_points A.d_answer_points p_answer_points (sp_answer_points A) := by
 refine T.F_answer_points.ok sc_answer_points spAns_len fun cdv Ao outer s0 H vs Q E hr hsp => ?_
 obtain ⟨bk,dx,cl,s,vp,⟨r,i,j⟩,rfl,hb,ok,hp,_,q⟩ := hsp
 refine ⟨_,(pss_cons (ps_set (i := 2) sc_answer_points.nd rfl (Or.inl rfl) (pe_ix ix_list (pv 1) pe_int (fun _ _ => rfl)))
   (pss_cons (ps_set (i := 3) sc_answer_points.nd rfl (Or.inl rfl) (pe_ix ix_list (pv 1) pe_int (fun _ _ => rfl)))
   (pss_cons (ps_set (i := 4) sc_answer_points.nd rfl (Or.inl rfl) (pe_ix ix_list (pv 1) pe_int (fun _ _ => rfl)))
   (pss_cons (ps_set (i := 5) sc_answer_points.nd rfl (Or.inl rfl) (pe_meth (pv 0) T.cl_Book T.me_Book_refusal (ok_Book_refusal T) (hr.mono (by decide)) T.b_Book_refusal .nil pass0 (pa_cons (pe_lst pa_nil) (pa_cons (pe_lst (pa_cons (pv 2) pa_nil)) pa_nil))))
   (pss_cons (ps_if (pt_cmpR op_ne (pv 5) pe_int (nomark _)) (pss_one (ps_ret (pe_lst (pa_cons (pv 5) pa_nil)))) pss_nil)
   (pss_cons (ps_if (pt_not (pt_val (pe_meth (pe_fld (pv 0) rfl) T.cl_Tree T.me_Tree_has_node (ok_Tree_has_node T) (hr.mono (by decide)) T.b_Tree_has_node .nil pass0 (pa_cons (pv 3) (pa_cons (pv 4) pa_nil))))) (pss_one (ps_ret (pe_lst (pa_cons (pe_un un_neg pe_int) pa_nil)))) pss_nil)
   (pss_cons (ps_set (i := 6) sc_answer_points.nd rfl (Or.inl rfl) (pe_ix ix_list (pe_ix ix_list (pe_call (ok_points_by_step T) (hr.mono (by decide)) rfl T.m_points_by_step T.F_points_by_step.kp T.b_points_by_step .nil pass0 (pa_cons (pe_fld (pv 0) rfl) (pa_cons (pe_ix ix_list (pe_fld (pv 0) rfl) (pv 2) (fun _ _ => rfl)) pa_nil))) (pv 3) (fun _ _ => rfl)) (pv 4) (fun _ _ => rfl)))
   (pss_cons (ps_set (i := 7) sc_answer_points.nd rfl (Or.inl rfl) (pe_lst (pa_cons (pe_callB call_len_seq (by rfl) T.n_len boot_len (pa_cons (pv 6) pa_nil)) pa_nil)))
   (pss_cons (ps_for PassesOwn.never rfl (pi_list (pv 6)) (pg_tup rfl (pgs_cons (pg_name (i := 8) sc_answer_points.nd rfl (Or.inl rfl)) (pgs_cons (pg_name (i := 9) sc_answer_points.nd rfl (Or.inl rfl)) pgs_nil))) (pss_one (ps_set (i := 7) sc_answer_points.nd rfl (Or.inl rfl) (pe_op op_cat (pe_op op_cat (pv 7) (pe_call (ok_counted_bytes T) (hr.mono (by decide)) rfl T.m_counted_bytes T.F_counted_bytes.kp T.b_counted_bytes .nil pass0 (pa_cons (pv 8) pa_nil))) (pe_call (ok_counted_bytes T) (hr.mono (by decide)) rfl T.m_counted_bytes T.F_counted_bytes.kp T.b_counted_bytes .nil pass0 (pa_cons (pv 9) pa_nil))))))
   (pss_one (ps_ret (pv 7)))))))))))),?_⟩
 refine s_set (y_part (n := 0) (y_var rfl hp) rfl) fun v2 H2 s2 e2 => ?_
 refine s_set (y_part (n := 1) (y_var rfl (Mono.up s2 hp)) rfl) fun v3 H3 s3 e3 => ?_
 refine s_set (y_part (n := 2) (y_var rfl (Mono.up (s2.trans s3) hp)) rfl) fun v4 H4 s4 e4 => ?_
 cases e2; cases e3; cases e4
 have s05 := s2.trans (s3.trans s4)
 have hB : ∀ {H'},Same H H' -> BookV A s H' (.ref bk) := fun sH => ⟨bk,dx,cl,rfl,hb.up sH⟩
 have fin := @ans_fin A (Int × Int × Int) 123800 (mk3 .points) H Q bk dx cl s (r,i,j) hb ok q
 refine s_refuse (y_refusal (ts := []) (ss := [r]) (y_var rfl (hB s05)) (y_lst (F := IntV) (l := []) (by decide) yl_nil).l (y_int1 (y_var (P := IntV r) rfl rfl)).l ok.len) (by show 5 < 10; decide) (fun hne v H' sH h => ?_) (fun h0 H6 s6 => ?_)
 ·rcases ref_src s r with ⟨_,e⟩ | ⟨z,_⟩
  ·exact fin (e _) v H' s05 sH h
  ·exact absurd z hne
 rcases ref_src s r with ⟨z,_⟩ | ⟨_,t,c,ht,hr',hc,e⟩
 ·exact absurd h0 z
 obtain ⟨tk,hf⟩ := ok.tr t ht
 have ck := COk_of ok ht hr' hc
 have n4 := tk.ok.n4
 have e : Vbchal.step s.st (.points r i j) = if Vbchal.nodeOk t.tree i j = false then (s.st,[-3]) else (s.st,((Vbchal.at_ (Vbchal.allPoints t.tree c) i.toNat j.toNat).length : Int) :: (Vbchal.at_ (Vbchal.allPoints t.tree c) i.toNat j.toNat).flatMap fun p => Vbchal.counted p.q ++ Vbchal.counted p.v) := e _
 have s06 := s05.trans s6
 refine s_bad (yt_not (yt_tB (y_hasNode (y_btree T ht (y_var rfl (hB s06))) (y_var (P := IntV i) rfl rfl) (y_var (P := IntV j) rfl rfl)))) (fun e1 v H' sH h => ?_) (fun e1 H7 s7 => ?_)
 ·rw [node_eq tk] at e1
  exact fin (e.trans (if_pos (ntT e1))) v H' s06 sH h
 have hn := ntF e1
 rw [if_neg (by rw [<- node_eq tk,hn]; decide)] at e
 have s08 := s06.trans s7
 obtain ⟨a,b,rfl,rfl,ha,hb2⟩ := node_nat hn
 rw [Int.toNat_natCast,Int.toNat_natCast,at_lev] at e
 have g := good_at tk.ok hf ck ha hb2
 have bg := g.bigp (by omega)
 have ll := lev_row_len' tk.ok c ha hb2
 refine s_set (y_row tk ha hb2 (y_lev tk ha (y_points (c := c) (y_btree T ht (y_var rfl (hB s08))) (y_claim T ok hr' hc (y_var rfl (hB s08)) (y_var (P := IntV r) rfl rfl)) ⟨tk,hf,ck⟩) (y_var (P := IntV a) rfl rfl)) (y_var (P := IntV b) rfl rfl)) fun v9 H9 s9 h9 => ?_
 generalize (lev t.tree c a).getD b [] = l at *
 refine s_set (y_int1 (z := (l.length : Int)) (y_len (F := PtV) (l := l) (y_var rfl h9))) fun v10 H10 s10 h10 => ?_
 have fl : ∀ m,((l.take m).flatMap fun p => Vbchal.counted p.q ++ Vbchal.counted p.v).length <= 62 * 18002 := fun m => by
  have a := flat_len (B := 18002) (l := l.take m) (f := fun p => Vbchal.counted p.q ++ Vbchal.counted p.v) fun p hp => by
   have sh := bigp_short (bg p (List.mem_of_mem_take hp))
   have c1 := counted_len sh.1
   have c2 := counted_len sh.2
   rw [List.length_append]
   omega
  have b : (l.take m).length <= 62 := by rw [List.length_take]; omega
  exact Nat.le_trans a (Nat.mul_le_mul_right _ b)
 refine s_for (E := PtV) (l := l) (yi_list (y_var rfl (Mono.up s10 h9))) (fun m σ H' => ∃ vt x y,σ = [some (.ref bk),some vp,some (.int r),some (.int (a : Int)),some (.int (b : Int)),some (.int 0),some v9,some vt,x,y] /\ AndV (IntsV ((l.length : Int) :: (l.take m).flatMap fun p => Vbchal.counted p.q ++ Vbchal.counted p.v)) (NewV H) H' vt) (fun H' s' => ⟨v10,none,none,rfl,Mono.up s' h10.1,h10.2.old (s08.trans s9)⟩) ?_ ?_
 ·rintro m x y σ H11 H12 hy s11 s12 ⟨vt,z1,z2,rfl,ht'⟩ hE
  obtain ⟨T',u',w',rfl,hT,hq,hv⟩ := hE
  refine g_pair hT _ ?_
  have sh := bigp_short (bg y (List.mem_of_getElem? hy))
  have c1 := counted_len sh.1
  have c2 := counted_len sh.2
  have fm := fl m
  refine s_set1 (y_cat (F := IntV) (big_line (by rw [List.length_append,List.length_cons]; omega)) (y_cat (F := IntV) (big_line (by rw [List.length_cons]; omega)) (y_var rfl (Mono.up s12 ht'.1)) (y_counted (y_var (P := FrV y.q) rfl hq) sh.1).l).l (y_counted (y_var (P := FrV y.v) rfl hv) sh.2).l) fun v13 H13 s13 h13 => ⟨s12.trans s13,v13,_,_,rfl,?_,h13.2.old (s08.trans (s9.trans (s10.trans (s11.trans s12))))⟩
  rw [flat_take hy,<- List.cons_append,<- List.append_assoc]
  exact h13.1
 ·rintro σ H11 s11 ⟨vt,z1,z2,rfl,ht'⟩
  rw [List.take_length] at ht'
  exact s_ret (y_var rfl ht') fun v H' sH h => fin e v H' (Same.refl H) (s08.trans (s9.trans (s10.trans (s11.trans sH)))) h (by
   have a := flat_len (B := 1996) (l := l) (f := fun p => Vbchal.counted p.q ++ Vbchal.counted p.v) fun p hp => bigp_len (bg p hp)
   have b := Nat.mul_le_mul_right 1996 ll
   rw [List.length_cons]
   omega)
abbrev mk2 (f : Int -> Int -> Vbchal.Call) : Int × Int -> Vbchal.Call := fun i => f i.1 i.2
def sp_answer_range (A : Adr) : Sp := spAns (ι := Int × Int) A 10000 (mk2 .range) (fun i => [.inl i.1,.inl i.2]) (fun _ => True)
theorem ok_answer_range (T : Txt K mg A) : FnOk P w K mg base CX0 10 A.f_answer_range A.d_answer_range p_answer_range (sp_answer_range A) := by
 refine T.F_answer_range.ok sc_answer_range spAns_len fun cdv Ao outer s0 H vs Q E hr hsp => ?_
 obtain ⟨bk,dx,cl,s,vp,⟨i,j⟩,rfl,hb,ok,hp,_,q⟩ := hsp
 refine ⟨_,(pss_cons (ps_set (i := 2) sc_answer_range.nd rfl (Or.inl rfl) (pe_ix ix_list (pv 1) pe_int (fun _ _ => rfl)))
   (pss_cons (ps_set (i := 3) sc_answer_range.nd rfl (Or.inl rfl) (pe_ix ix_list (pv 1) pe_int (fun _ _ => rfl)))
   (pss_cons (ps_set (i := 4) sc_answer_range.nd rfl (Or.inl rfl) (pe_meth (pv 0) T.cl_Book T.me_Book_refusal (ok_Book_refusal T) (hr.mono (by decide)) T.b_Book_refusal .nil pass0 (pa_cons (pe_lst pa_nil) (pa_cons (pe_lst pa_nil) pa_nil))))
   (pss_cons (ps_if (pt_cmpR op_ne (pv 4) pe_int (nomark _)) (pss_one (ps_ret (pe_lst (pa_cons (pv 4) pa_nil)))) pss_nil)
   (pss_cons (ps_if (pt_not (pt_val (pe_meth (pe_fld (pv 0) rfl) T.cl_Tree T.me_Tree_has_node (ok_Tree_has_node T) (hr.mono (by decide)) T.b_Tree_has_node .nil pass0 (pa_cons (pv 2) (pa_cons (pv 3) pa_nil))))) (pss_one (ps_ret (pe_lst (pa_cons (pe_un un_neg pe_int) pa_nil)))) pss_nil)
   (pss_cons (ps_set (i := 5) sc_answer_range.nd rfl (Or.inl rfl) (pe_call (ok_node_range T) (hr.mono (by decide)) rfl T.m_node_range T.F_node_range.kp T.b_node_range .nil pass0 (pa_cons (pe_fld (pv 0) rfl) (pa_cons (pv 2) (pa_cons (pv 3) pa_nil)))))
   (pss_one (ps_ret (pe_op op_cat (pe_op op_cat (pe_lst (pa_cons pe_int pa_nil)) (pe_call (ok_counted_bytes T) (hr.mono (by decide)) rfl T.m_counted_bytes T.F_counted_bytes.kp T.b_counted_bytes .nil pass0 (pa_cons (pe_ix ix_tup (pv 5) pe_int (fun _ _ => rfl)) pa_nil))) (pe_call (ok_counted_bytes T) (hr.mono (by decide)) rfl T.m_counted_bytes T.F_counted_bytes.kp T.b_counted_bytes .nil pass0 (pa_cons (pe_ix ix_tup (pv 5) pe_int (fun _ _ => rfl)) pa_nil))))))))))),?_⟩
 refine s_set (y_part (n := 0) (y_var rfl hp) rfl) fun v2 H2 s2 e2 => ?_
 refine s_set (y_part (n := 1) (y_var rfl (Mono.up s2 hp)) rfl) fun v3 H3 s3 e3 => ?_
 cases e2; cases e3
 have s05 := s2.trans s3
 have hB : ∀ {H'},Same H H' -> BookV A s H' (.ref bk) := fun sH => ⟨bk,dx,cl,rfl,hb.up sH⟩
 have fin := @ans_fin A (Int × Int) 10000 (mk2 .range) H Q bk dx cl s (i,j) hb ok q
 have nilY := (y_lst (H0 := H3) (F := IntV) (l := []) (by decide) (yl_nil (σ := [some (V.ref bk),some vp,some (V.int i),some (V.int j),none,none]))).l
 refine s_refuse (y_refusal (ts := []) (ss := []) (y_var rfl (hB s05)) nilY nilY ok.len) (by show 4 < 6; decide) (fun hne v H' sH h => ?_) (fun h0 H6 s6 => ?_)
 ·rcases ref_none s with ⟨z,ht⟩ | ⟨z,_⟩
  ·rw [z] at h
   refine fin ?_ v H' s05 sH h
   show (match s.st.tree with | none => _ | some t => _) = _
   rw [st_none ht]
  ·exact absurd z hne
 rcases ref_none s with ⟨z,_⟩ | ⟨_,t,ht⟩
 ·rw [z] at h0; cases h0
 obtain ⟨tk,hf⟩ := ok.tr t ht
 have ck : COk t.n (Vbchal.nothing t.tree) := nothing_ok tk.ok
 have n4 := tk.ok.n4
 have e : Vbchal.step s.st (.range i j) = if Vbchal.nodeOk t.tree i j = false then (s.st,[-3]) else (s.st,0 :: (Vbchal.counted (Vbchal.firstQ (Vbchal.at_ (Vbchal.allPoints t.tree (Vbchal.nothing t.tree)) i.toNat j.toNat)) ++ Vbchal.counted (Vbchal.lastQ (Vbchal.at_ (Vbchal.allPoints t.tree (Vbchal.nothing t.tree)) i.toNat j.toNat)))) := by
  show (match s.st.tree with | none => _ | some t => _) = _
  rw [st_some ht]
 have s06 := s05.trans s6
 refine s_bad (yt_not (yt_tB (y_hasNode (y_btree T ht (y_var rfl (hB s06))) (y_var (P := IntV i) rfl rfl) (y_var (P := IntV j) rfl rfl)))) (fun e1 v H' sH h => ?_) (fun e1 H7 s7 => ?_)
 ·rw [node_eq tk] at e1
  exact fin (e.trans (if_pos (ntT e1))) v H' s06 sH h
 have hn := ntF e1
 rw [if_neg (by rw [<- node_eq tk,hn]; decide)] at e
 have s08 := s06.trans s7
 obtain ⟨a,b,rfl,rfl,ha,hb2⟩ := node_nat hn
 rw [Int.toNat_natCast,Int.toNat_natCast,at_lev] at e
 have g := good_at tk.ok hf ck ha hb2
 have bg := g.bigp (by omega)
 obtain ⟨pa,pb,a0,a1,e0,e1'⟩ := atI_ends g.ne
 have ma : pa ∈ (lev t.tree (Vbchal.nothing t.tree) a).getD b [] := by
  obtain ⟨k,_,h,_⟩ := atI_get a0
  obtain ⟨h2,_⟩ := ‹_ /\ _›
  exact List.mem_of_getElem? h
 have mb : pb ∈ (lev t.tree (Vbchal.nothing t.tree) a).getD b [] := by
  obtain ⟨k,_,h,_⟩ := atI_get a1
  exact List.mem_of_getElem? h
 have sa : Short (Vbchal.firstQ ((lev t.tree (Vbchal.nothing t.tree) a).getD b [])) := by rw [e0]; exact (bigp_short (bg pa ma)).1
 have sb : Short (Vbchal.lastQ ((lev t.tree (Vbchal.nothing t.tree) a).getD b [])) := by rw [e1']; exact (bigp_short (bg pb mb)).1
 refine s_set (y_range (t := t) (y_btree T ht (y_var rfl (hB s08))) (y_var (P := IntV a) rfl rfl) (y_var (P := IntV b) rfl rfl) ⟨tk,hf,ha,hb2⟩) fun v9 H9 s9 h9 => ?_
 have c1 := counted_len sa
 have c2 := counted_len sb
 refine s_ret (y_cat (F := IntV) (big_line (by rw [List.length_append,List.length_cons,List.length_nil]; omega)) (y_cat (F := IntV) (l := [0]) (big_line (by rw [List.length_cons,List.length_nil]; omega)) (y_int1 y_c).l (y_counted (y_fst (y_var rfl h9)) sa).l).l (y_counted (y_snd (y_var rfl h9)) sb).l) fun v H' sH h => fin e v H' (s08.trans s9) sH h (by
  have a := counted_sz (a := 31) (b := 31) (bg pa ma).q (by decide +kernel) (by decide +kernel)
  have b := counted_sz (a := 31) (b := 31) (bg pb mb).q (by decide +kernel) (by decide +kernel)
  rw [List.length_cons,List.length_append,e0,e1']
  omega)
theorem den_eq (d : Int) : (decide ((1 : Int) <= d) && decide (d <= 1000000)) = Vbchal.within d 1 Vbchal.PAY := rfl
theorem ft_low {num : Int} {den : Nat} (h1 : num.natAbs <= 1000000) (h2 : 0 < den) (h3 : den <= 1000000) : Ft 20 20 (lowest num den) := ⟨lowest_wf _ h2,lowest_sz (Nat.le_trans h1 (by decide)) (Nat.le_trans h3 (by decide))⟩
theorem den_small {n : Nat} (h : n <= 1000000) : n < 2 ^ 9000 := Nat.lt_of_le_of_lt h (Nat.lt_of_lt_of_le (show 1000000 < 2 ^ 20 by decide) (Nat.pow_le_pow_right (by decide) (by decide)))
abbrev mk5 (f : Int -> Int -> Int -> Int -> Int -> Vbchal.Call) : Int × Int × Int × Int × Int -> Vbchal.Call := fun i => f i.1 i.2.1 i.2.2.1 i.2.2.2.1 i.2.2.2.2
def sp_answer_plan (A : Adr) : Sp := spAns (ι := Int × Int × Int × Int × Int) A 10000 (mk5 .plan) (fun i => [.inl i.1,.inl i.2.1,.inl i.2.2.1,.inl i.2.2.2.1,.inl i.2.2.2.2]) (fun _ => True)
theorem ok_answer_plan (T : Txt K mg A) : FnOk P w K mg base CX0 9 A.f_answer_plan A.d_answer_plan p_answer_plan (sp_answer_plan A) := by
 refine T.F_answer_plan.ok sc_answer_plan spAns_len fun cdv Ao outer s0 H vs Q E hr hsp => ?_
 obtain ⟨bk,dx,cl,s,vp,⟨r,i,j,num,den⟩,rfl,hb,ok,hp,_,q⟩ := hsp
 refine ⟨_,(pss_cons (ps_set (i := 2) sc_answer_plan.nd rfl (Or.inl rfl) (pe_ix ix_list (pv 1) pe_int (fun _ _ => rfl)))
   (pss_cons (ps_set (i := 3) sc_answer_plan.nd rfl (Or.inl rfl) (pe_ix ix_list (pv 1) pe_int (fun _ _ => rfl)))
   (pss_cons (ps_set (i := 4) sc_answer_plan.nd rfl (Or.inl rfl) (pe_ix ix_list (pv 1) pe_int (fun _ _ => rfl)))
   (pss_cons (ps_set (i := 5) sc_answer_plan.nd rfl (Or.inl rfl) (pe_ix ix_list (pv 1) pe_int (fun _ _ => rfl)))
   (pss_cons (ps_set (i := 6) sc_answer_plan.nd rfl (Or.inl rfl) (pe_ix ix_list (pv 1) pe_int (fun _ _ => rfl)))
   (pss_cons (ps_set (i := 7) sc_answer_plan.nd rfl (Or.inl rfl) (pe_meth (pv 0) T.cl_Book T.me_Book_refusal (ok_Book_refusal T) (hr.mono (by decide)) T.b_Book_refusal .nil pass0 (pa_cons (pe_lst pa_nil) (pa_cons (pe_lst (pa_cons (pv 2) pa_nil)) pa_nil))))
   (pss_cons (ps_if (pt_cmpR op_ne (pv 7) pe_int (nomark _)) (pss_one (ps_ret (pe_lst (pa_cons (pv 7) pa_nil)))) pss_nil)
   (pss_cons (ps_if (pt_not (pt_val (pe_meth (pe_fld (pv 0) rfl) T.cl_Tree T.me_Tree_has_node_before_last (ok_Tree_has_node_before_last T) (hr.mono (by decide)) T.b_Tree_has_node_before_last .nil pass0 (pa_cons (pv 3) (pa_cons (pv 4) pa_nil))))) (pss_one (ps_ret (pe_lst (pa_cons (pe_un un_neg pe_int) pa_nil)))) pss_nil)
   (pss_cons (ps_if (pt_not (PW.pt (pw_and (pt_chain op_le op_le pe_int (pv 6) (pe_glob rfl T.g_LIMIT T.r_LIMIT)) (pw_and1 (pt_val (pe_call (ok_all_between T) (hr.mono (by decide)) rfl T.m_all_between T.F_all_between.kp T.b_all_between .nil pass0 (pa_cons (pe_lst (pa_cons (pv 5) pa_nil)) (pa_cons (pe_un un_neg (pe_glob rfl T.g_LIMIT T.r_LIMIT)) (pa_cons (pe_glob rfl T.g_LIMIT T.r_LIMIT) pa_nil))))))))) (pss_one (ps_ret (pe_lst (pa_cons (pe_un un_neg pe_int) pa_nil)))) pss_nil)
   (pss_cons (ps_set (i := 8) sc_answer_plan.nd rfl (Or.inl rfl) (pe_ix ix_list (pe_call (ok_points_by_step T) (hr.mono (by decide)) rfl T.m_points_by_step T.F_points_by_step.kp T.b_points_by_step .nil pass0 (pa_cons (pe_fld (pv 0) rfl) (pa_cons (pe_ix ix_list (pe_fld (pv 0) rfl) (pv 2) (fun _ _ => rfl)) pa_nil))) (pe_op op_add (pv 3) pe_int) (fun _ _ => rfl)))
   (pss_one (ps_ret (pe_op op_cat (pe_lst (pa_cons pe_int pa_nil)) (pe_call (ok_text_bytes T) (hr.mono (by decide)) rfl T.m_text_bytes T.F_text_bytes.kp T.b_text_bytes .nil pass0 (pa_cons (pe_call (ok_planned T) (hr.mono (by decide)) rfl T.m_planned T.F_planned.kp T.b_planned .nil pass0 (pa_cons (pe_fld (pv 0) rfl) (pa_cons (pv 3) (pa_cons (pv 4) (pa_cons (pv 8) (pa_cons (pe_call (ok_ratio T) (hr.mono (by decide)) rfl T.m_ratio T.F_ratio.kp T.b_ratio .nil pass0 (pa_cons (pv 5) (pa_cons (pv 6) pa_nil))) pa_nil)))))) pa_nil))))))))))))))),?_⟩
 refine s_set (y_part (n := 0) (y_var rfl hp) rfl) fun v2 H2 s2 e2 => ?_
 refine s_set (y_part (n := 1) (y_var rfl (Mono.up s2 hp)) rfl) fun v3 H3 s3 e3 => ?_
 refine s_set (y_part (n := 2) (y_var rfl (Mono.up (s2.trans s3) hp)) rfl) fun v4 H4 s4 e4 => ?_
 refine s_set (y_part (n := 3) (y_var rfl (Mono.up (s2.trans (s3.trans s4)) hp)) rfl) fun v5 H5 s5 e5 => ?_
 refine s_set (y_part (n := 4) (y_var rfl (Mono.up (s2.trans (s3.trans (s4.trans s5))) hp)) rfl) fun v5 H5' s5' e5' => ?_
 cases e2; cases e3; cases e4; cases e5; cases e5'
 have s05 := s2.trans (s3.trans (s4.trans (s5.trans s5')))
 have hB : ∀ {H'},Same H H' -> BookV A s H' (.ref bk) := fun sH => ⟨bk,dx,cl,rfl,hb.up sH⟩
 have fin := @ans_fin A (Int × Int × Int × Int × Int) 10000 (mk5 .plan) H Q bk dx cl s (r,i,j,num,den) hb ok q
 refine s_refuse (y_refusal (ts := []) (ss := [r]) (y_var rfl (hB s05)) (y_lst (F := IntV) (l := []) (by decide) yl_nil).l (y_int1 (y_var (P := IntV r) rfl rfl)).l ok.len) (by show 7 < 9; decide) (fun hne v H' sH h => ?_) (fun h0 H6 s6 => ?_)
 ·rcases ref_src s r with ⟨_,e⟩ | ⟨z,_⟩
  ·exact fin (e _) v H' s05 sH h
  ·exact absurd z hne
 rcases ref_src s r with ⟨z,_⟩ | ⟨_,t,c,ht,hr',hc,e⟩
 ·exact absurd h0 z
 obtain ⟨tk,hf⟩ := ok.tr t ht
 have ck := COk_of ok ht hr' hc
 have n4 := tk.ok.n4
 have e : Vbchal.step s.st (.plan r i j num den) = if Vbchal.nodeOk t.tree i j = false \/ i = (Vbchal.steps t.tree : Int) then (s.st,[-3]) else if Vbchal.within den 1 Vbchal.PAY = false \/ Vbchal.small num = false then (s.st,[-4])
   else (s.st,Vbchal.told (Vbchal.plan t.tree (Vbchal.allPoints t.tree c) i.toNat j.toNat (lowest num den.toNat))) := e _
 rw [tk.ok.steps] at e
 have s06 := s05.trans s6
 refine s_bad (yt_not (yt_tB (y_beforeLast (y_btree T ht (y_var rfl (hB s06))) (y_var (P := IntV i) rfl rfl) (y_var (P := IntV j) rfl rfl)))) (fun e1 v H' sH h => ?_) (fun e1 H7 s7 => ?_)
 ·refine fin (e.trans (if_pos ?_)) v H' s06 sH h
  rw [<- node_eq tk]
  have e2 := ntT e1
  rw [Bool.and_eq_false_iff] at e2
  rcases e2 with e2 | e2
  ·exact .inl e2
  ·cases hh : hasNode t.n i j with
   | false => exact .inl rfl
   | true =>
    have e3 := of_decide_eq_false e2
    obtain ⟨a,b,rfl,rfl,ha,hb2⟩ := node_nat hh
    right
    omega
 have hn' := ntF e1
 rw [Bool.and_eq_true] at hn'
 obtain ⟨hn,hlt⟩ := hn'
 have hlt := of_decide_eq_true hlt
 rw [if_neg (by rw [<- node_eq tk,hn]; intro z; rcases z with z | z; cases z; omega)] at e
 refine s_bad (b := !(Vbchal.within den 1 Vbchal.PAY && Vbchal.small num)) (yt_not (yt_and (yt_tst (y_dec (y_chain (f := fun i j => decide (i <= j)) (g := fun i j => decide (i <= j)) (i := 1) (j := den) (l := 1000000) y_c (y_var rfl rfl) y_c) (den_eq den))) fun _ => yt_tB (y_small (y_var (P := IntV num) rfl rfl)))) (fun e2 v H' sH h => ?_) (fun e2 H8 s8 => ?_)
 ·refine fin (e.trans (if_pos ?_)) v H' (s06.trans s7) sH h
  have := ntT e2
  rw [Bool.and_eq_false_iff] at this
  exact this
 have hs := ntF e2
 rw [Bool.and_eq_true] at hs
 rw [if_neg (by rw [hs.1,hs.2]; decide)] at e
 have hd := within_iff.mp hs.1
 have hd1 : (1 : Int) <= den := hd.1
 have hd2 : den <= 1000000 := hd.2
 obtain ⟨d,rfl⟩ : ∃ d : Nat,den = (d : Int) := ⟨den.toNat,by omega⟩
 have s08 := s06.trans (s7.trans s8)
 obtain ⟨a,b,rfl,rfl,ha,hb2⟩ := node_nat hn
 have ha' : a < t.n := by omega
 rw [Int.toNat_natCast,Int.toNat_natCast,Int.toNat_natCast,plan_by,ahead_lev] at e
 have fx := ft_low (small_le hs.2) (den := d) (by omega) (by omega)
 have so := stepOk_of tk (c := c) ha' fun j hj => good_at tk.ok hf ck (by omega) hj
 refine s_set (y_lev tk (i := a + 1) ha' (y_points (c := c) (y_btree T ht (y_var rfl (hB s08))) (y_claim T ok hr' hc (y_var rfl (hB s08)) (y_var (P := IntV r) rfl rfl)) ⟨tk,hf,ck⟩) ((y_rI0 (y_var (P := IntV a) rfl rfl) y_c).eq (by rfl))) fun v9 H9 s9 h9 => ?_
 have o1 := so.row b (by omega)
 have o2 := so.row (b + 1) (by omega)
 have jr : SRow (Vbchal.joined t.a t.b ((lev t.tree c (a + 1)).getD b []) ((lev t.tree c (a + 1)).getD (b + 1) [])) := joined_row o1.row o2.row (Nat.lt_of_lt_of_le tk.ok.b1 tk.ok.ba) tk.ok.b1
 have sh : Short (planBy (Vbchal.bidF (Vbchal.quoteAt t.tree a b)) (Vbchal.askF (Vbchal.quoteAt t.tree a b)) (Vbchal.joined t.a t.b ((lev t.tree c (a + 1)).getD b []) ((lev t.tree c (a + 1)).getD (b + 1) [])) (lowest num d)) :=
  (plan_ind (P := Ft 2200 2200) jr (slope_ft (so.mid b hb2)) (fx.mono (by decide) (by decide))).short (by decide) (by decide)
 exact s_ret (y_told (y_planned (t := t) (x := lowest num d) (y_btree T ht (y_var rfl (hB (s08.trans s9)))) (y_var (P := IntV a) rfl rfl) (y_var (P := IntV b) rfl rfl) (y_var rfl h9) (y_ratio (y_var (P := IntV num) rfl rfl) (y_var (P := IntV d) rfl rfl) ⟨by omega,den_small (by omega)⟩) ⟨tk,ha',hb2,so,fx.mono (by decide) (by decide)⟩) sh) fun v H' sH h => fin e v H' (s08.trans s9) sH h (told_len sh)
theorem way_eq {t : TD} (tk : TDok t) (l : List Int) : hasWay t.n l = Vbchal.isWay t.tree l := by
 unfold hasWay Vbchal.isWay
 rw [tk.ok.steps]
 congr 1
 ·congr 1
  funext x
  unfold between3
  rw [Bool.eq_iff_iff]
  simp
  omega
theorem way_is {n : Nat} {l : List Int} (h : hasWay n l = true) : l.length = n /\ ∀ z ∈ l,z = 0 \/ z = 1 := by
 unfold hasWay at h
 rw [Bool.and_eq_true] at h
 refine ⟨of_decide_eq_true h.1,fun z hz => ?_⟩
 have := List.all_eq_true.mp h.2 z hz
 unfold between3 at this
 simp at this
 omega
def wref (s : PSt) (r x : Int) (way : List Int) : Int :=
 if refW s [] [r] ≠ 0 then refW s [] [r] else if (match s.tree with | some t => hasWay t.n way | none => true) = false then -3 else if Vbchal.small x = false then -4 else 0
def sp_walk_refusal (A : Adr) : Sp := spA (ι := PSt × Int × Int × List Int) (fun i => [BookV A i.1,IntV i.2.1,IntV i.2.2.1,IntsV i.2.2.2]) (fun i => PSok i.1 /\ i.2.2.2.length <= 100) (fun i => IntV (wref i.1 i.2.1 i.2.2.1 i.2.2.2))
theorem ok_walk_refusal (T : Txt K mg A) : FnOk P w K mg base CX0 3 A.f_walk_refusal A.d_walk_refusal p_walk_refusal (sp_walk_refusal A) := by
 refine T.F_walk_refusal.ok sc_walk_refusal (spA_len fun _ => rfl) fun cdv Ao outer s H vs Q E hr hsp => ?_
 obtain ⟨⟨b,r,x,way⟩,⟨v1,_,rfl,h1,v2,_,rfl,h2,v3,_,rfl,h3,v4,_,rfl,h4,rfl⟩,⟨ok,hl⟩,q⟩ := hsp
 cases h2; cases h3
 have h1 : BookV A b H v1 := h1
 have h4 : IntsV way H v4 := h4
 have ok : PSok b := ok
 have hl : way.length <= 100 := hl
 have q : ∀ v H',Same H H' -> v = .int (wref b r x way) -> Q v H' := q
 refine ⟨_,(pss_cons (ps_set (i := 4) sc_walk_refusal.nd rfl (Or.inl rfl) (pe_meth (pv 0) T.cl_Book T.me_Book_refusal (ok_Book_refusal T) (hr.mono (by decide)) T.b_Book_refusal .nil pass0 (pa_cons (pe_lst pa_nil) (pa_cons (pe_lst (pa_cons (pv 1) pa_nil)) pa_nil))))
   (pss_cons (ps_if (pt_cmpR op_ne (pv 4) pe_int (nomark _)) (pss_one (ps_ret (pv 4))) pss_nil)
   (pss_cons (ps_if (pt_not (pt_val (pe_meth (pe_fld (pv 0) rfl) T.cl_Tree T.me_Tree_has_way (ok_Tree_has_way T) (hr.mono (by decide)) T.b_Tree_has_way .nil pass0 (pa_cons (pv 3) pa_nil)))) (pss_one (ps_ret (pe_un un_neg pe_int))) pss_nil)
   (pss_cons (ps_if (pt_not (pt_val (pe_call (ok_all_between T) (hr.mono (by decide)) rfl T.m_all_between T.F_all_between.kp T.b_all_between .nil pass0 (pa_cons (pe_lst (pa_cons (pv 2) pa_nil)) (pa_cons (pe_un un_neg (pe_glob rfl T.g_LIMIT T.r_LIMIT)) (pa_cons (pe_glob rfl T.g_LIMIT T.r_LIMIT) pa_nil)))))) (pss_one (ps_ret (pe_un un_neg pe_int))) pss_nil)
   (pss_one (ps_ret pe_int)))))),?_⟩
 refine s_set (y_refusal (ts := []) (ss := [r]) (y_var rfl h1) (y_lst (F := IntV) (l := []) (by decide) yl_nil).l (y_int1 (y_var (P := IntV r) rfl rfl)).l ok.len) fun v5 H5 s5 e5 => ?_
 cases e5
 refine s_ifn (b := !decide (V.int (refW b [] [r]) = V.int 0)) (yt_tst (y_ne rfl (y_var (P := IntV (refW b [] [r])) rfl rfl) y_c)) (fun e H6 s6 => ?_) (fun e H6 s6 => ?_)
 ·refine s_ret (y_var (P := IntV (refW b [] [r])) rfl rfl) fun v H7 s7 h => q v H7 (s5.trans (s6.trans s7)) ?_
  rw [show v = _ from h,wref,if_pos (by intro z; rw [z] at e; simp at e)]
 have e' : refW b [] [r] = 0 := by simpa using e
 rcases ref_src b r with ⟨z,_⟩ | ⟨_,t,c,ht,_,_,_⟩
 ·exact absurd e' z
 have ew : wref b r x way = if hasWay t.n way = false then -3 else if Vbchal.small x = false then -4 else 0 := by
  rw [wref,if_neg (by rw [e']; simp),ht]
 have s6' := s5.trans s6
 refine s_ifn (yt_not (yt_tB (y_hasWay (y_btree T ht (y_var rfl (Mono.up s6' h1))) (y_var rfl (Mono.up s6' h4)) hl))) (fun e1 H7 s7 => ?_) (fun e1 H7 s7 => ?_)
 ·refine s_ret (y_rU (y_c (v := .int 3))) fun v H8 s8 h => q v H8 (s6'.trans (s7.trans s8)) ?_
  rw [show v = _ from h,ew,if_pos (ntT e1)]
 rw [if_neg (by rw [ntF e1]; decide)] at ew
 refine s_ifn (yt_not (yt_tB (y_small (y_var (P := IntV x) rfl rfl)))) (fun e2 H8 s8 => ?_) (fun e2 H8 s8 => ?_)
 ·refine s_ret (y_rU (y_c (v := .int 4))) fun v H9 s9 h => q v H9 (s6'.trans (s7.trans (s8.trans s9))) ?_
  rw [show v = _ from h,ew,if_pos (ntT e2)]
 rw [if_neg (by rw [ntF e2]; decide)] at ew
 refine s_ret (y_c (v := .int 0)) fun v H9 s9 h => q v H9 (s6'.trans (s7.trans (s8.trans s9))) ?_
 rw [show v = _ from h,ew]
section
variable {H0 H : Hp} {σ : L2.St} {te ta tb tc td t1 t2 t3 t4 t5 : TE} {E : XK} {s : PSt}
theorem y_wref {r x : Int} {way : List Int} (h1 : Yd H0 t1 σ (BookV A s)) (h2 : Yd H0 t2 σ (IntV r)) (h3 : Yd H0 t3 σ (IntV x)) (h4 : Yd H0 t4 σ (IntsV way)) (h : PSok s /\ way.length <= 100) : Yd H0 (tCall (sp_walk_refusal A) [] E (tCons t1 (tCons t2 (tCons t3 (tCons t4 tNil))))) σ (IntV (wref s r x way)) :=
 y_call (s,r,x,way) (ya_cons h1 (ya_cons h2 (ya_cons h3 (ya_cons h4 ya_nil)))) h
end
theorem wref_is {s : PSt} (ok : PSok s) (r x : Int) (way : List Int) (f : Vbchal.Tree -> Vbchal.Claim -> Vbchal.State × Vbchal.Answer)
  (hf : ∀ t c,f t c = if Vbchal.isWay t way = false then (s.st,[-3]) else if Vbchal.small x = false then (s.st,[-4]) else f t c) :
  (wref s r x way ≠ 0 /\ Vbchal.onClaim s.st r f = (s.st,[wref s r x way])) \/
  (wref s r x way = 0 /\ ∃ t c,s.tree = some t /\ Vbchal.isReg r = true /\ s.claims.getD r.toNat none = some c /\ way.length = t.n /\ (∀ z ∈ way,z = 0 \/ z = 1) /\ x.natAbs <= 1000000 /\ Vbchal.onClaim s.st r f = f t.tree c) := by
 rcases ref_src s r with ⟨hne,e⟩ | ⟨h0,t,c,ht,hr,hc,e⟩
 ·have ew : wref s r x way = refW s [] [r] := by rw [wref,if_pos hne]
  rw [ew]
  exact .inl ⟨hne,e f⟩
 ·have tk := (ok.tr t ht).1
  have ew : wref s r x way = if hasWay t.n way = false then -3 else if Vbchal.small x = false then -4 else 0 := by rw [wref,if_neg (by rw [h0]; simp),ht]
  rw [e f]
  cases hw : hasWay t.n way with
  | false =>
   rw [ew,if_pos hw]
   refine .inl ⟨by decide,?_⟩
   rw [hf,if_pos (by rw [<- way_eq tk]; exact hw)]
  | true =>
   cases hx : Vbchal.small x with
   | false =>
    rw [ew,if_neg (by rw [hw]; decide),if_pos hx]
    refine .inl ⟨by decide,?_⟩
    rw [hf,if_neg (by rw [<- way_eq tk,hw]; decide),if_pos hx]
   | true =>
    rw [ew,if_neg (by rw [hw]; decide),if_neg (by rw [hx]; decide)]
    have := way_is hw
    exact .inr ⟨rfl,t,c,ht,hr,hc,this.1,this.2,small_le hx,rfl⟩
theorem handed_short {t : TD} (tk : TDok t) {c : Vbchal.Claim} (ck : COk t.n c) {j : Nat} (hj : j <= t.n) {p : Vbchal.Purse} (pk : PuOk 0 p) : Short (Vbchal.handed t.tree c j p) := by
 obtain ⟨cd,un,ud,e1,e2,e3,e4,e5⟩ := pk.ex
 have pm := PM_le 0
 have ph := PH_le 0
 have fu : Ft un ud p.units := ⟨pk.wu,e2⟩
 have fc : Ft (PM 0 + cd) cd p.cash := ⟨pk.wc,pk.vb.sz e1⟩
 have uj : Ft 20 0 (whole (c.units.getD j 0)) := Ft.whole (Nat.le_trans (getD_all ck.us) (by decide))
 have cj : Ft 20 0 (whole (c.cash.getD j 0)) := Ft.whole (Nat.le_trans (getD_all ck.cs) (by decide))
 have qk := tk.ok.quo t.n j (Nat.le_refl _) hj
 have fk : Ft (max (20 + ud) (un + 0) + 1 + 14) (0 + ud) (Vbchal.cost (Vbchal.quoteAt t.tree t.n j) (Vbchal.sub (whole (c.units.getD j 0)) p.units)) := ⟨cost_wf (uj.sub fu).1,cost_sz qk (uj.sub fu).2⟩
 have := (fc.sub cj).sub fk
 unfold Vbchal.handed
 rw [tk.ok.steps]
 exact this.short (by omega) (by omega)
structure WalkOk (t : TD) (c : Vbchal.Claim) (x : Int) (way : List Int) : Prop where
 tk : TDok t
 fr : Vbchal.fair t.tree = true
 ck : COk t.n c
 x : x.natAbs <= 1000000
 len : way.length = t.n
 mv : ∀ z ∈ way,z = 0 \/ z = 1
theorem walk_pok {t : TD} {c : Vbchal.Claim} {x : Int} {way : List Int} (h : WalkOk t c x way) : (∀ k,k <= t.n -> PuOk (t.n - k) (purseAt t.tree c (Vbchal.nats way) (whole x) k)) /\ Vbchal.nodeOn (Vbchal.nats way) t.n <= t.n := by
 obtain ⟨tk,hf,ck,hx,hw,hz⟩ := h
 have n4 := tk.ok.n4
 have n1 := tk.ok.n1
 have wl : (Vbchal.nats way).length = t.n := by unfold Vbchal.nats; rw [List.length_map]; exact hw
 have w1 : ∀ z ∈ Vbchal.nats way,z <= 1 := fun z hzz => by
  obtain ⟨y,hy,rfl⟩ := List.mem_map.mp hzz
  rcases hz y hy with e | e <;> rw [e] <;> decide
 have g0 := good_at tk.ok hf ck (i := 0) (j := 0) (Nat.zero_le _) (Nat.le_refl _)
 rw [Nat.sub_zero] at g0
 have s0 := start_ok g0 n1 n4 hx
 have e00 : Vbchal.at_ (Vbchal.allPoints t.tree c) 0 0 = (lev t.tree c 0).getD 0 [] := at_lev _ _ _ _
 refine ⟨fun k hk => ?_,nodeOn_le w1 t.n (by omega)⟩
 unfold purseAt
 exact purse_ok tk.ok hf ck w1 wl (by rw [e00]; exact s0.1) k hk
abbrev mkw (f : Int -> Int -> List Int -> Vbchal.Call) : Int × Int × List Int -> Vbchal.Call := fun i => f i.1 i.2.1 i.2.2
def sp_answer_walk (A : Adr) : Sp := spAns (ι := Int × Int × List Int) A 10000 (mkw .walk) (fun i => [.inl i.1,.inl i.2.1,.inr i.2.2]) (fun i => i.2.2.length <= 100)
theorem ok_answer_walk (T : Txt K mg A) : FnOk P w K mg base CX0 10 A.f_answer_walk A.d_answer_walk p_answer_walk (sp_answer_walk A) := by
 refine T.F_answer_walk.ok sc_answer_walk spAns_len fun cdv Ao outer s0 H vs Q E hr hsp => ?_
 obtain ⟨bk,dx,cl,s,vp,⟨r,x,way⟩,rfl,hb,ok,hp,hl,q⟩ := hsp
 have hl : way.length <= 100 := hl
 refine ⟨_,(pss_cons (ps_set (i := 2) sc_answer_walk.nd rfl (Or.inl rfl) (pe_ix ix_list (pv 1) pe_int (fun _ _ => rfl)))
   (pss_cons (ps_set (i := 3) sc_answer_walk.nd rfl (Or.inl rfl) (pe_ix ix_list (pv 1) pe_int (fun _ _ => rfl)))
   (pss_cons (ps_set (i := 4) sc_answer_walk.nd rfl (Or.inl rfl) (pe_ix ix_list (pv 1) pe_int (fun _ _ => rfl)))
   (pss_cons (ps_set (i := 5) sc_answer_walk.nd rfl (Or.inl rfl) (pe_call (ok_walk_refusal T) (hr.mono (by decide)) rfl T.m_walk_refusal T.F_walk_refusal.kp T.b_walk_refusal .nil pass0 (pa_cons (pv 0) (pa_cons (pv 2) (pa_cons (pv 3) (pa_cons (pv 4) pa_nil))))))
   (pss_cons (ps_if (pt_cmpR op_ne (pv 5) pe_int (nomark _)) (pss_one (ps_ret (pe_lst (pa_cons (pv 5) pa_nil)))) pss_nil)
   (pss_one (ps_ret (pe_op op_cat (pe_lst (pa_cons pe_int pa_nil)) (pe_call (ok_text_bytes T) (hr.mono (by decide)) rfl T.m_text_bytes T.F_text_bytes.kp T.b_text_bytes .nil pass0 (pa_cons (pe_fld (pe_call (ok_walked T) (hr.mono (by decide)) rfl T.m_walked T.F_walked.kp T.b_walked .nil pass0 (pa_cons (pe_fld (pv 0) rfl) (pa_cons (pe_ix ix_list (pe_fld (pv 0) rfl) (pv 2) (fun _ _ => rfl)) (pa_cons (pv 3) (pa_cons (pv 4) pa_nil))))) rfl) pa_nil)))))))))),?_⟩
 refine s_set (y_part (n := 0) (y_var rfl hp) rfl) fun v2 H2 s2 e2 => ?_
 refine s_set (y_part (n := 1) (y_var rfl (Mono.up s2 hp)) rfl) fun v3 H3 s3 e3 => ?_
 refine s_set (y_part (n := 2) (y_var rfl (Mono.up (s2.trans s3) hp)) rfl) fun v4 H4 s4 h4 => ?_
 cases e2; cases e3
 have h4 : IntsV way H4 v4 := h4
 have s05 := s2.trans (s3.trans s4)
 have hB : ∀ {H'},Same H H' -> BookV A s H' (.ref bk) := fun sH => ⟨bk,dx,cl,rfl,hb.up sH⟩
 have fin := @ans_fin A (Int × Int × List Int) 10000 (mkw .walk) H Q bk dx cl s (r,x,way) hb ok q
 have wi := wref_is ok r x way (fun t c => if Vbchal.isWay t way = false then (s.st,[-3]) else if Vbchal.small x = false then (s.st,[-4]) else (s.st,Vbchal.told (Vbchal.left t c (Vbchal.nats way) (whole x)))) (fun t c => by split <;> (try split) <;> rfl)
 refine s_refuse (y_wref (y_var rfl (hB s05)) (y_var (P := IntV r) rfl rfl) (y_var (P := IntV x) rfl rfl) (y_var rfl h4) ⟨ok,hl⟩) (by show 5 < 6; decide) (fun hne v H' sH h => ?_) (fun h0 H6 s6 => ?_)
 ·rcases wi with ⟨_,e⟩ | ⟨z,_⟩
  ·exact fin e v H' s05 sH h
  ·exact absurd z hne
 rcases wi with ⟨z,_⟩ | ⟨_,t,c,ht,hr',hc,hw,hz,hx,e⟩
 ·exact absurd h0 z
 obtain ⟨tk,hf⟩ := ok.tr t ht
 have ck := COk_of ok ht hr' hc
 have wok : WalkOk t c x way := ⟨tk,hf,ck,hx,hw,hz⟩
 obtain ⟨pok,hjn⟩ := walk_pok wok
 have pn := pok t.n (Nat.le_refl _)
 rw [Nat.sub_self] at pn
 have s06 := s05.trans s6
 have hway : Vbchal.isWay t.tree way = true := by
  rw [<- way_eq tk]
  unfold hasWay
  rw [Bool.and_eq_true]
  refine ⟨decide_eq_true hw,List.all_eq_true.mpr fun z hzz => ?_⟩
  unfold between3
  rcases hz z hzz with e | e <;> rw [e] <;> decide
 have hsm : Vbchal.small x = true := decide_eq_true hx
 have e : Vbchal.step s.st (.walk r x way) = (s.st,Vbchal.told (Vbchal.left t.tree c (Vbchal.nats way) (whole x))) := by
  refine Eq.trans e ?_
  rw [if_neg (by rw [hway]; decide),if_neg (by rw [hsm]; decide)]
 have sh : Short (Vbchal.left t.tree c (Vbchal.nats way) (whole x)) := by
  unfold Vbchal.left
  rw [tk.ok.steps]
  exact handed_short tk ck hjn pn
 exact s_ret (y_told (y_wleft T (y_walked (y_btree T ht (y_var rfl (hB s06))) (y_claim T ok hr' hc (y_var rfl (hB s06)) (y_var (P := IntV r) rfl rfl)) (y_var (P := IntV x) rfl rfl) (y_var rfl (Mono.up s6 h4)) ⟨tk,hf,ck,hx,hw,hz⟩)) sh) fun v H' sH h => fin e v H' s06 sH h (told_len sh)
def sp_answer_held (A : Adr) : Sp := spAns (ι := Int × Int × List Int) A 10000 (mkw .held) (fun i => [.inl i.1,.inl i.2.1,.inr i.2.2]) (fun i => i.2.2.length <= 100)
theorem ok_answer_held (T : Txt K mg A) : FnOk P w K mg base CX0 10 A.f_answer_held A.d_answer_held p_answer_held (sp_answer_held A) := by
 refine T.F_answer_held.ok sc_answer_held spAns_len fun cdv Ao outer s0 H vs Q E hr hsp => ?_
 obtain ⟨bk,dx,cl,s,vp,⟨r,x,way⟩,rfl,hb,ok,hp,hl,q⟩ := hsp
 have hl : way.length <= 100 := hl
 refine ⟨_,(pss_cons (ps_set (i := 2) sc_answer_held.nd rfl (Or.inl rfl) (pe_ix ix_list (pv 1) pe_int (fun _ _ => rfl)))
   (pss_cons (ps_set (i := 3) sc_answer_held.nd rfl (Or.inl rfl) (pe_ix ix_list (pv 1) pe_int (fun _ _ => rfl)))
   (pss_cons (ps_set (i := 4) sc_answer_held.nd rfl (Or.inl rfl) (pe_ix ix_list (pv 1) pe_int (fun _ _ => rfl)))
   (pss_cons (ps_set (i := 5) sc_answer_held.nd rfl (Or.inl rfl) (pe_call (ok_walk_refusal T) (hr.mono (by decide)) rfl T.m_walk_refusal T.F_walk_refusal.kp T.b_walk_refusal .nil pass0 (pa_cons (pv 0) (pa_cons (pv 2) (pa_cons (pv 3) (pa_cons (pv 4) pa_nil))))))
   (pss_cons (ps_if (pt_cmpR op_ne (pv 5) pe_int (nomark _)) (pss_one (ps_ret (pe_lst (pa_cons (pv 5) pa_nil)))) pss_nil)
   (pss_cons (ps_set (i := 6) sc_answer_held.nd rfl (Or.inl rfl) (pe_lst (pa_cons (pe_fld (pe_fld (pv 0) rfl) rfl) pa_nil)))
   (pss_cons (ps_for PassesOwn.never rfl (pi_list (pe_fld (pe_call (ok_walked T) (hr.mono (by decide)) rfl T.m_walked T.F_walked.kp T.b_walked .nil pass0 (pa_cons (pe_fld (pv 0) rfl) (pa_cons (pe_ix ix_list (pe_fld (pv 0) rfl) (pv 2) (fun _ _ => rfl)) (pa_cons (pv 3) (pa_cons (pv 4) pa_nil))))) rfl)) (pg_name (i := 7) sc_answer_held.nd rfl (Or.inl rfl)) (pss_one (ps_set (i := 6) sc_answer_held.nd rfl (Or.inl rfl) (pe_op op_cat (pv 6) (pe_call (ok_counted_bytes T) (hr.mono (by decide)) rfl T.m_counted_bytes T.F_counted_bytes.kp T.b_counted_bytes .nil pass0 (pa_cons (pv 7) pa_nil))))))
   (pss_one (ps_ret (pv 6)))))))))),?_⟩
 refine s_set (y_part (n := 0) (y_var rfl hp) rfl) fun v2 H2 s2 e2 => ?_
 refine s_set (y_part (n := 1) (y_var rfl (Mono.up s2 hp)) rfl) fun v3 H3 s3 e3 => ?_
 refine s_set (y_part (n := 2) (y_var rfl (Mono.up (s2.trans s3) hp)) rfl) fun v4 H4 s4 h4 => ?_
 cases e2; cases e3
 have h4 : IntsV way H4 v4 := h4
 have s05 := s2.trans (s3.trans s4)
 have hB : ∀ {H'},Same H H' -> BookV A s H' (.ref bk) := fun sH => ⟨bk,dx,cl,rfl,hb.up sH⟩
 have fin := @ans_fin A (Int × Int × List Int) 10000 (mkw .held) H Q bk dx cl s (r,x,way) hb ok q
 have wi := wref_is ok r x way (fun t c => if Vbchal.isWay t way = false then (s.st,[-3]) else if Vbchal.small x = false then (s.st,[-4]) else (s.st,(Vbchal.steps t : Int) :: (List.range (Vbchal.steps t)).flatMap fun k => Vbchal.counted (purseAt t c (Vbchal.nats way) (whole x) (k + 1)).units)) (fun t c => by split <;> (try split) <;> rfl)
 refine s_refuse (y_wref (y_var rfl (hB s05)) (y_var (P := IntV r) rfl rfl) (y_var (P := IntV x) rfl rfl) (y_var rfl h4) ⟨ok,hl⟩) (by show 5 < 8; decide) (fun hne v H' sH h => ?_) (fun h0 H6 s6 => ?_)
 ·rcases wi with ⟨_,e⟩ | ⟨z,_⟩
  ·exact fin e v H' s05 sH h
  ·exact absurd z hne
 rcases wi with ⟨z,_⟩ | ⟨_,t,c,ht,hr',hc,hw,hz,hx,e⟩
 ·exact absurd h0 z
 obtain ⟨tk,hf⟩ := ok.tr t ht
 have ck := COk_of ok ht hr' hc
 have wok : WalkOk t c x way := ⟨tk,hf,ck,hx,hw,hz⟩
 obtain ⟨pok,hjn⟩ := walk_pok wok
 have n4 := tk.ok.n4
 have s06 := s05.trans s6
 have hway : Vbchal.isWay t.tree way = true := by
  rw [<- way_eq tk]
  unfold hasWay
  rw [Bool.and_eq_true]
  refine ⟨decide_eq_true hw,List.all_eq_true.mpr fun z hzz => ?_⟩
  unfold between3
  rcases hz z hzz with e | e <;> rw [e] <;> decide
 have hsm : Vbchal.small x = true := decide_eq_true hx
 have e : Vbchal.step s.st (.held r x way) = (s.st,(t.n : Int) :: (List.range t.n).flatMap fun k => Vbchal.counted (purseAt t.tree c (Vbchal.nats way) (whole x) (k + 1)).units) := by
  refine Eq.trans e ?_
  rw [if_neg (by rw [hway]; decide),if_neg (by rw [hsm]; decide),tk.ok.steps]
 refine s_set (y_int1 (y_steps T (y_btree T ht (y_var rfl (hB s06))))) fun v7 H7 s7 h7 => ?_
 have s07 := s06.trans s7
 have sh : ∀ k,k < t.n -> Short (purseAt t.tree c (Vbchal.nats way) (whole x) (k + 1)).units := fun k hk => by
  obtain ⟨cd,un,ud,e1,e2,e3,e4,e5⟩ := (pok (k + 1) hk).ex
  exact short_of e2 (by omega) (by omega)
 have efl : ∀ m,m <= t.n -> (((List.range t.n).map fun k => (purseAt t.tree c (Vbchal.nats way) (whole x) (k + 1)).units).take m).flatMap Vbchal.counted = (List.range m).flatMap fun k => Vbchal.counted (purseAt t.tree c (Vbchal.nats way) (whole x) (k + 1)).units := fun m hm => by
  rw [<- List.map_take,List.take_range,Nat.min_eq_left hm,List.flatMap_map]
 have fl : ∀ m,m <= t.n -> ((List.range m).flatMap fun k => Vbchal.counted (purseAt t.tree c (Vbchal.nats way) (whole x) (k + 1)).units).length <= 4 * 9001 := fun m hm => by
  have a := flat_len (B := 9001) (l := List.range m) (f := fun k => Vbchal.counted (purseAt t.tree c (Vbchal.nats way) (whole x) (k + 1)).units) fun k hk => counted_len (sh k (by have := List.mem_range.mp hk; omega))
  rw [List.length_range] at a
  exact Nat.le_trans a (Nat.mul_le_mul_right _ (by omega))
 refine s_for (E := FrV) (l := (List.range t.n).map fun k => (purseAt t.tree c (Vbchal.nats way) (whole x) (k + 1)).units) (yi_list (y_wheld T (y_walked (y_btree T ht (y_var rfl (hB s07))) (y_claim T ok hr' hc (y_var rfl (hB s07)) (y_var (P := IntV r) rfl rfl)) (y_var (P := IntV x) rfl rfl) (y_var rfl (Mono.up (s6.trans s7) h4)) ⟨tk,hf,ck,hx,hw,hz⟩)))
  (fun m σ H' => m <= t.n /\ ∃ vt u,σ = [some (.ref bk),some vp,some (.int r),some (.int x),some v4,some (.int 0),some vt,u] /\ AndV (IntsV ((t.n : Int) :: (List.range m).flatMap fun k => Vbchal.counted (purseAt t.tree c (Vbchal.nats way) (whole x) (k + 1)).units)) (NewV H) H' vt) (fun H' s' => ⟨Nat.zero_le _,v7,none,rfl,Mono.up s' h7.1,h7.2.old s06⟩) ?_ ?_
 ·rintro m z y σ H11 H12 hy s11 s12 ⟨hm,vt,u,rfl,ht'⟩ hE
  rw [List.getElem?_map] at hy
  have hmn : m < t.n := by
   rcases Nat.lt_or_ge m t.n with h | h
   ·exact h
   ·rw [List.getElem?_eq_none (by rw [List.length_range]; exact h)] at hy
    cases hy
  rw [List.getElem?_range hmn] at hy
  have ey : (purseAt t.tree c (Vbchal.nats way) (whole x) (m + 1)).units = y := Option.some.inj hy
  subst ey
  have c1 := counted_len (sh m hmn)
  have fm := fl m hm
  show tAsg _ _ _ [some (V.ref bk),some vp,some (V.int r),some (V.int x),some v4,some (V.int 0),some vt,some z] H12
  refine s_set1 (y_cat (F := IntV) (big_line (by rw [List.length_cons]; omega)) (y_var rfl (Mono.up s12 ht'.1)) (y_counted (y_var rfl hE) (sh m hmn)).l) fun v13 H13 s13 h13 => ⟨s12.trans s13,hmn,v13,_,rfl,?_,h13.2.old (s07.trans (s11.trans s12))⟩
  rw [List.range_succ,List.flatMap_append,<- List.cons_append]
  simpa using h13.1
 ·rintro σ H11 s11 ⟨hm,vt,u,rfl,ht'⟩
  rw [List.length_map,List.length_range] at ht'
  exact s_ret (y_var rfl ht') fun v H' sH h => fin e v H' (Same.refl H) (s07.trans (s11.trans sH)) h (by
   have a := flat_len (B := 1269) (l := List.range t.n) (f := fun k => Vbchal.counted (purseAt t.tree c (Vbchal.nats way) (whole x) (k + 1)).units) fun k hk => by
    have pk := pok (k + 1) (by have := List.mem_range.mp hk; omega)
    obtain ⟨cd,un,ud,e1,e2,e3,e4,e5⟩ := pk.ex
    exact counted_sz (a := 633) (b := 633) (n := 2100) (d := 2100) ⟨pk.wu,e2.mono (by omega) (by omega)⟩ (by decide +kernel) (by decide +kernel)
   rw [List.length_range] at a
   have b := Nat.mul_le_mul_right 1269 n4
   rw [List.length_cons]
   omega)
abbrev mk4 (f : Int -> Int -> Int -> Int -> Vbchal.Call) : Int × Int × Int × Int -> Vbchal.Call := fun i => f i.1 i.2.1 i.2.2.1 i.2.2.2
section
variable {H0 H : Hp} {σ : L2.St} {te ta tb : TE} {E : XK}
theorem y_small2 {x y : Int} (h : Yd H0 ta σ (IntV x)) (h' : Yd H0 tb σ (IntV y)) : Yd H0 (tCall sp_all_between [] E (tCons (tLst (tCons ta (tCons tb tNil))) (tCons (tUn (rU fun i => .int (-i)) (tC (.int 1000000))) (tCons (tC (.int 1000000)) tNil)))) σ (BlV (Vbchal.small x && Vbchal.small y)) :=
 y_dec (y_smalls (y_lst (F := IntV) (l := [x,y]) (by simp) (yl_cons h (yl_cons h' yl_nil))).l (by simp)) (by simp)
end
def sp_answer_enough (A : Adr) : Sp := spAns (ι := Int × Int × Int × Int) A 10000 (mk4 .enough) (fun i => [.inl i.1,.inl i.2.1,.inl i.2.2.1,.inl i.2.2.2]) (fun _ => True)
theorem ok_answer_enough (T : Txt K mg A) : FnOk P w K mg base CX0 9 A.f_answer_enough A.d_answer_enough p_answer_enough (sp_answer_enough A) := by
 refine T.F_answer_enough.ok sc_answer_enough spAns_len fun cdv Ao outer s0 H vs Q E hr hsp => ?_
 obtain ⟨bk,dx,cl,s,vp,⟨r,x,num,den⟩,rfl,hb,ok,hp,_,q⟩ := hsp
 refine ⟨_,(pss_cons (ps_set (i := 2) sc_answer_enough.nd rfl (Or.inl rfl) (pe_ix ix_list (pv 1) pe_int (fun _ _ => rfl)))
   (pss_cons (ps_set (i := 3) sc_answer_enough.nd rfl (Or.inl rfl) (pe_ix ix_list (pv 1) pe_int (fun _ _ => rfl)))
   (pss_cons (ps_set (i := 4) sc_answer_enough.nd rfl (Or.inl rfl) (pe_ix ix_list (pv 1) pe_int (fun _ _ => rfl)))
   (pss_cons (ps_set (i := 5) sc_answer_enough.nd rfl (Or.inl rfl) (pe_ix ix_list (pv 1) pe_int (fun _ _ => rfl)))
   (pss_cons (ps_set (i := 6) sc_answer_enough.nd rfl (Or.inl rfl) (pe_meth (pv 0) T.cl_Book T.me_Book_refusal (ok_Book_refusal T) (hr.mono (by decide)) T.b_Book_refusal .nil pass0 (pa_cons (pe_lst pa_nil) (pa_cons (pe_lst (pa_cons (pv 2) pa_nil)) pa_nil))))
   (pss_cons (ps_if (pt_cmpR op_ne (pv 6) pe_int (nomark _)) (pss_one (ps_ret (pe_lst (pa_cons (pv 6) pa_nil)))) pss_nil)
   (pss_cons (ps_if (pt_not (PW.pt (pw_and (pt_chain op_le op_le pe_int (pv 5) (pe_glob rfl T.g_LIMIT T.r_LIMIT)) (pw_and1 (pt_val (pe_call (ok_all_between T) (hr.mono (by decide)) rfl T.m_all_between T.F_all_between.kp T.b_all_between .nil pass0 (pa_cons (pe_lst (pa_cons (pv 4) (pa_cons (pv 3) pa_nil))) (pa_cons (pe_un un_neg (pe_glob rfl T.g_LIMIT T.r_LIMIT)) (pa_cons (pe_glob rfl T.g_LIMIT T.r_LIMIT) pa_nil))))))))) (pss_one (ps_ret (pe_lst (pa_cons (pe_un un_neg pe_int) pa_nil)))) pss_nil)
   (pss_cons (ps_set (i := 7) sc_answer_enough.nd rfl (Or.inl rfl) (pe_ix ix_list (pe_ix ix_list (pe_call (ok_points_by_step T) (hr.mono (by decide)) rfl T.m_points_by_step T.F_points_by_step.kp T.b_points_by_step .nil pass0 (pa_cons (pe_fld (pv 0) rfl) (pa_cons (pe_ix ix_list (pe_fld (pv 0) rfl) (pv 2) (fun _ _ => rfl)) pa_nil))) pe_int (fun _ _ => rfl)) pe_int (fun _ _ => rfl)))
   (pss_cons (ps_if (pt_val (pe_call (ok_less T) (hr.mono (by decide)) rfl T.m_less T.F_less.kp T.b_less .nil pass0 (pa_cons (pe_call (ok_ratio T) (hr.mono (by decide)) rfl T.m_ratio T.F_ratio.kp T.b_ratio .nil pass0 (pa_cons (pv 4) (pa_cons (pv 5) pa_nil))) (pa_cons (pe_call (ok_least_cash T) (hr.mono (by decide)) rfl T.m_least_cash T.F_least_cash.kp T.b_least_cash .nil pass0 (pa_cons (pv 7) (pa_cons (pe_call (ok_ratio T) (hr.mono (by decide)) rfl T.m_ratio T.F_ratio.kp T.b_ratio .nil pass0 (pa_cons (pv 3) (pa_cons pe_int pa_nil))) pa_nil))) pa_nil)))) (pss_one (ps_ret (pe_lst (pa_cons pe_int pa_nil)))) pss_nil)
   (pss_one (ps_ret (pe_lst (pa_cons pe_int pa_nil))))))))))))),?_⟩
 refine s_set (y_part (n := 0) (y_var rfl hp) rfl) fun v2 H2 s2 e2 => ?_
 refine s_set (y_part (n := 1) (y_var rfl (Mono.up s2 hp)) rfl) fun v3 H3 s3 e3 => ?_
 refine s_set (y_part (n := 2) (y_var rfl (Mono.up (s2.trans s3) hp)) rfl) fun v4 H4 s4 e4 => ?_
 refine s_set (y_part (n := 3) (y_var rfl (Mono.up (s2.trans (s3.trans s4)) hp)) rfl) fun v5 H5 s5 e5 => ?_
 cases e2; cases e3; cases e4; cases e5
 have s05 := s2.trans (s3.trans (s4.trans s5))
 have hB : ∀ {H'},Same H H' -> BookV A s H' (.ref bk) := fun sH => ⟨bk,dx,cl,rfl,hb.up sH⟩
 have fin := @ans_fin A (Int × Int × Int × Int) 10000 (mk4 .enough) H Q bk dx cl s (r,x,num,den) hb ok q
 refine s_refuse (y_refusal (ts := []) (ss := [r]) (y_var rfl (hB s05)) (y_lst (F := IntV) (l := []) (by decide) yl_nil).l (y_int1 (y_var (P := IntV r) rfl rfl)).l ok.len) (by show 6 < 8; decide) (fun hne v H' sH h => ?_) (fun h0 H6 s6 => ?_)
 ·rcases ref_src s r with ⟨_,e⟩ | ⟨z,_⟩
  ·exact fin (e _) v H' s05 sH h
  ·exact absurd z hne
 rcases ref_src s r with ⟨z,_⟩ | ⟨_,t,c,ht,hr',hc,e⟩
 ·exact absurd h0 z
 obtain ⟨tk,hf⟩ := ok.tr t ht
 have ck := COk_of ok ht hr' hc
 have n4 := tk.ok.n4
 have e : Vbchal.step s.st (.enough r x num den) = if Vbchal.within den 1 Vbchal.PAY = false \/ Vbchal.small num = false \/ Vbchal.small x = false then (s.st,[-4])
   else (s.st,[if Vbchal.le (Vbchal.least t.tree c 0 0 (whole x)) (lowest num den.toNat) = true then 1 else 0]) := e _
 have s06 := s05.trans s6
 refine s_bad (b := !(Vbchal.within den 1 Vbchal.PAY && (Vbchal.small num && Vbchal.small x))) (yt_not (yt_and (yt_tst (y_dec (y_chain (f := fun i j => decide (i <= j)) (g := fun i j => decide (i <= j)) (i := 1) (j := den) (l := 1000000) y_c (y_var rfl rfl) y_c) (den_eq den))) fun _ => yt_tB (y_small2 (y_var (P := IntV num) rfl rfl) (y_var (P := IntV x) rfl rfl)))) (fun e2 v H' sH h => ?_) (fun e2 H8 s8 => ?_)
 ·refine fin (e.trans (if_pos ?_)) v H' s06 sH h
  have := ntT e2
  rw [Bool.and_eq_false_iff,Bool.and_eq_false_iff] at this
  exact this
 have hs := ntF e2
 rw [Bool.and_eq_true,Bool.and_eq_true] at hs
 obtain ⟨hs1,hs2,hs3⟩ := hs
 rw [if_neg (by rw [hs1,hs2,hs3]; decide),least_lev] at e
 have hd := within_iff.mp hs1
 have hd1 : (1 : Int) <= den := hd.1
 have hd2 : den <= 1000000 := hd.2
 obtain ⟨d,rfl⟩ : ∃ d : Nat,den = (d : Int) := ⟨den.toNat,by omega⟩
 have s08 := s06.trans s8
 rw [Int.toNat_natCast] at e
 have fd := ft_low (small_le hs2) (den := d) (by omega) (by omega)
 have g := good_at tk.ok hf ck (i := 0) (j := 0) (Nat.zero_le _) (Nat.le_refl _)
 have fx : Ft 40 0 (whole x) := (Ft.whole (a := 20) (Nat.le_trans (small_le hs3) (by decide))).mono (by decide) (by decide)
 have bg := g.bigp (by omega)
 have fm := most_ft fx g.ne bg
 refine s_set (y_row tk (Nat.zero_le _) (Nat.le_refl 0) (y_lev tk (Nat.zero_le _) (y_points (c := c) (y_btree T ht (y_var rfl (hB s08))) (y_claim T ok hr' hc (y_var rfl (hB s08)) (y_var (P := IntV r) rfl rfl)) ⟨tk,hf,ck⟩) (y_c (v := .int 0))) (y_c (v := .int 0))) fun v9 H9 s9 h9 => ?_
 refine s_ifn (yt_tB (y_less (y_ratio (y_var (P := IntV num) rfl rfl) (y_var (P := IntV d) rfl rfl) ⟨by omega,den_small (by omega)⟩) (y_least (y_var rfl h9) (y_whole (y_var (P := IntV x) rfl rfl)) ⟨bg,g.ne,fx⟩) (okL fd fm (by decide)))) (fun e3 H10 s10 => ?_) (fun e3 H10 s10 => ?_)
 ·rw [<- le_not_less fm.1 fd.1,e3,if_neg (by decide)] at e
  exact s_ret (y_int1 (y_c (v := .int 0))) fun v H' sH h => fin e v H' (s08.trans (s9.trans s10)) sH h
 ·rw [<- le_not_less fm.1 fd.1,e3,if_pos (by decide)] at e
  exact s_ret (y_int1 (y_c (v := .int 1))) fun v H' sH h => fin e v H' (s08.trans (s9.trans s10)) sH h
theorem lt62 {n : Nat} (h : n <= 1000) : n < 2 ^ 62 := Nat.lt_of_le_of_lt h (by decide)
theorem row_quotes {t : TD} (tk : TDok t) {i : Nat} (hi : i <= t.n) : t.tree.rows.getD i [] = (List.range (i + 1)).map (Vbchal.quoteAt t.tree i) := by
 have hl := tk.ok.wid i hi
 refine List.ext_getElem? fun k => ?_
 rw [List.getElem?_map]
 rcases Nat.lt_or_ge k (i + 1) with h | h
 ·rw [List.getElem?_range h,List.getElem?_eq_getElem (by omega)]
  show _ = some (Vbchal.quoteAt t.tree i k)
  unfold Vbchal.quoteAt
  congr 1
  rw [List.getD_eq_getElem?_getD (l := t.tree.rows.getD i []),List.getElem?_eq_getElem (by omega)]
  rfl
 ·rw [List.getElem?_eq_none (by omega),List.getElem?_eq_none (by rw [List.length_range]; exact h)]
  rfl
def sp_answer_quotes (A : Adr) : Sp := spAns (ι := Int) A 10000 (fun i => .quotes i) (fun i => [.inl i]) (fun _ => True)
theorem ok_answer_quotes (T : Txt K mg A) : FnOk P w K mg base CX0 3 A.f_answer_quotes A.d_answer_quotes p_answer_quotes (sp_answer_quotes A) := by
 refine T.F_answer_quotes.ok sc_answer_quotes spAns_len fun cdv Ao outer s0 H vs Q E hr hsp => ?_
 obtain ⟨bk,dx,cl,s,vp,i,rfl,hb,ok,hp,_,q⟩ := hsp
 refine ⟨_,(pss_cons (ps_set (i := 2) sc_answer_quotes.nd rfl (Or.inl rfl) (pe_ix ix_list (pv 1) pe_int (fun _ _ => rfl)))
   (pss_cons (ps_set (i := 3) sc_answer_quotes.nd rfl (Or.inl rfl) (pe_meth (pv 0) T.cl_Book T.me_Book_refusal (ok_Book_refusal T) (hr.mono (by decide)) T.b_Book_refusal .nil pass0 (pa_cons (pe_lst pa_nil) (pa_cons (pe_lst pa_nil) pa_nil))))
   (pss_cons (ps_if (pt_cmpR op_ne (pv 3) pe_int (nomark _)) (pss_one (ps_ret (pe_lst (pa_cons (pv 3) pa_nil)))) pss_nil)
   (pss_cons (ps_if (pt_not (pt_chain op_le op_le pe_int (pv 2) (pe_fld (pe_fld (pv 0) rfl) rfl))) (pss_one (ps_ret (pe_lst (pa_cons (pe_un un_neg pe_int) pa_nil)))) pss_nil)
   (pss_cons (ps_set (i := 4) sc_answer_quotes.nd rfl (Or.inl rfl) (pe_lst (pa_cons (pe_op op_add (pv 2) pe_int) pa_nil)))
   (pss_cons (ps_for PassesOwn.never rfl (pi_range1 rfl T.n_range (pa_cons (pe_op op_add (pv 2) pe_int) pa_nil)) (pg_name (i := 5) sc_answer_quotes.nd rfl (Or.inl rfl)) (pss_one (ps_set (i := 4) sc_answer_quotes.nd rfl (Or.inl rfl) (pe_op op_cat (pv 4) (pe_lst (pa_cons (pe_meth (pe_fld (pv 0) rfl) T.cl_Tree T.me_Tree_bid_at (ok_Tree_bid_at T) (hr.mono (by decide)) T.b_Tree_bid_at .nil pass0 (pa_cons (pv 2) (pa_cons (pv 5) pa_nil))) (pa_cons (pe_meth (pe_fld (pv 0) rfl) T.cl_Tree T.me_Tree_ask_at (ok_Tree_ask_at T) (hr.mono (by decide)) T.b_Tree_ask_at .nil pass0 (pa_cons (pv 2) (pa_cons (pv 5) pa_nil))) pa_nil)))))))
   (pss_one (ps_ret (pv 4))))))))),?_⟩
 refine s_set (y_part (n := 0) (y_var rfl hp) rfl) fun v2 H2 s2 e2 => ?_
 cases e2
 have hB : ∀ {H'},Same H H' -> BookV A s H' (.ref bk) := fun sH => ⟨bk,dx,cl,rfl,hb.up sH⟩
 have fin := @ans_fin A Int 10000 (fun i => .quotes i) H Q bk dx cl s i hb ok q
 have nilY := (y_lst (H0 := H2) (F := IntV) (l := []) (by decide) (yl_nil (σ := [some (V.ref bk),some vp,some (V.int i),none,none,none]))).l
 refine s_refuse (y_refusal (ts := []) (ss := []) (y_var rfl (hB s2)) nilY nilY ok.len) (by show 3 < 6; decide) (fun hne v H' sH h => ?_) (fun h0 H6 s6 => ?_)
 ·rcases ref_none s with ⟨z,ht⟩ | ⟨z,_⟩
  ·rw [z] at h
   refine fin ?_ v H' s2 sH h
   show (match s.st.tree with | none => _ | some t => _) = _
   rw [st_none ht]
  ·exact absurd z hne
 rcases ref_none s with ⟨z,_⟩ | ⟨_,t,ht⟩
 ·rw [z] at h0; cases h0
 obtain ⟨tk,hf⟩ := ok.tr t ht
 have n4 := tk.ok.n4
 have e : Vbchal.step s.st (.quotes i) = if (decide (0 <= i) && decide (i <= (Vbchal.steps t.tree : Int))) = false then (s.st,[-3]) else (s.st,((t.tree.rows.getD i.toNat []).length : Int) :: (t.tree.rows.getD i.toNat []).flatMap fun x => [(x.bid : Int),(x.ask : Int)]) := by
  show (match s.st.tree with | none => _ | some t => _) = _
  rw [st_some ht]
 rw [tk.ok.steps] at e
 have s06 := s2.trans s6
 refine s_bad (yt_not (yt_tst (y_chain (f := fun i j => decide (i <= j)) (g := fun i j => decide (i <= j)) (i := 0) (j := i) (y_c (v := .int 0)) (y_var rfl rfl) (y_steps T (y_btree T ht (y_var rfl (hB s06))))))) (fun e1 v H' sH h => ?_) (fun e1 H7 s7 => ?_)
 ·exact fin (e.trans (if_pos (ntT e1))) v H' s06 sH h
 have hi := ntF e1
 rw [if_neg (by rw [hi]; decide)] at e
 rw [Bool.and_eq_true,decide_eq_true_iff,decide_eq_true_iff] at hi
 obtain ⟨a,rfl⟩ : ∃ a : Nat,i = (a : Int) := ⟨i.toNat,by omega⟩
 have ha : a <= t.n := by omega
 rw [Int.toNat_natCast,row_quotes tk ha,List.length_map,List.length_range,List.flatMap_map] at e
 have s07 := s06.trans s7
 refine s_set (y_int1 ((y_rI0 (y_var (P := IntV a) rfl rfl) y_c).eq (by rfl : V.int ((a : Int) + 1) = V.int ((a + 1 : Nat) : Int)))) fun v8 H8 s8 h8 => ?_
 have s08 := s07.trans s8
 refine s_for (E := fun j : Nat => IntV (j : Int)) (l := List.range (a + 1)) (yi_range (n := a + 1) (lt62 (by omega)) ((y_rI0 (y_var (P := IntV a) rfl rfl) y_c).eq (by rfl)))
  (fun m σ H' => m <= a + 1 /\ ∃ vt u,σ = [some (.ref bk),some vp,some (.int (a : Int)),some (.int 0),some vt,u] /\ AndV (IntsV (((a + 1 : Nat) : Int) :: (List.range m).flatMap fun j => [((Vbchal.quoteAt t.tree a j).bid : Int),((Vbchal.quoteAt t.tree a j).ask : Int)])) (NewV H) H' vt) (fun H' s' => ⟨Nat.zero_le _,v8,none,rfl,Mono.up s' h8.1,h8.2.old s07⟩) ?_ ?_
 ·rintro m z y σ H11 H12 hy s11 s12 ⟨hm,vt,u,rfl,ht'⟩ hE
  have hmn : m < a + 1 := by
   rcases Nat.lt_or_ge m (a + 1) with h | h
   ·exact h
   ·rw [List.getElem?_eq_none (by rw [List.length_range]; exact h)] at hy
    cases hy
  rw [List.getElem?_range hmn] at hy
  have ey : m = y := Option.some.inj hy
  subst ey
  cases hE
  have tr' : BookV A s H12 (.ref bk) := hB (s08.trans (s11.trans s12))
  have fm : ((List.range m).flatMap fun j => [((Vbchal.quoteAt t.tree a j).bid : Int),((Vbchal.quoteAt t.tree a j).ask : Int)]).length <= 2000 := by
   have := flat_len (B := 2) (l := List.range m) (f := fun j => [((Vbchal.quoteAt t.tree a j).bid : Int),((Vbchal.quoteAt t.tree a j).ask : Int)]) fun k _ => by simp
   rw [List.length_range] at this
   omega
  show tAsg _ _ _ [some (V.ref bk),some vp,some (V.int (a : Int)),some (V.int 0),some vt,some (V.int (m : Int))] H12
  refine s_set1 (y_cat (F := IntV) (m := [((Vbchal.quoteAt t.tree a m).bid : Int),((Vbchal.quoteAt t.tree a m).ask : Int)]) (big_line (by rw [List.length_cons,List.length_cons,List.length_cons,List.length_nil]; omega)) (y_var rfl (Mono.up s12 ht'.1)) (y_lst (F := IntV) (by simp) (yl_cons (y_bid tk ha (by omega) (y_btree T ht (y_var rfl tr')) (y_var (P := IntV a) rfl rfl) (y_var (P := IntV m) rfl rfl)) (yl_cons (y_ask tk ha (by omega) (y_btree T ht (y_var rfl tr')) (y_var (P := IntV a) rfl rfl) (y_var (P := IntV m) rfl rfl)) yl_nil))).l) fun v13 H13 s13 h13 => ⟨s12.trans s13,hmn,v13,_,rfl,?_,h13.2.old (s08.trans (s11.trans s12))⟩
  rw [List.range_succ,List.flatMap_append,<- List.cons_append]
  simpa using h13.1
 ·rintro σ H11 s11 ⟨hm,vt,u,rfl,ht'⟩
  rw [List.length_range] at ht'
  exact s_ret (y_var rfl ht') fun v H' sH h => fin e v H' (Same.refl H) (s08.trans (s11.trans sH)) h (by
   have a' := flat_len (B := 2) (l := List.range (a + 1)) (f := fun j => [((Vbchal.quoteAt t.tree a j).bid : Int),((Vbchal.quoteAt t.tree a j).ask : Int)]) fun k _ => by simp
   rw [List.length_range] at a'
   rw [List.length_cons]
   omega)
def sp_answer_told (A : Adr) : Sp := spAns (ι := Int) A 10000 (fun i => .told i) (fun i => [.inl i]) (fun _ => True)
theorem ok_answer_told (T : Txt K mg A) : FnOk P w K mg base CX0 3 A.f_answer_told A.d_answer_told p_answer_told (sp_answer_told A) := by
 refine T.F_answer_told.ok sc_answer_told spAns_len fun cdv Ao outer s0 H vs Q E hr hsp => ?_
 obtain ⟨bk,dx,cl,s,vp,r,rfl,hb,ok,hp,_,q⟩ := hsp
 refine ⟨_,(pss_cons (ps_set (i := 2) sc_answer_told.nd rfl (Or.inl rfl) (pe_ix ix_list (pv 1) pe_int (fun _ _ => rfl)))
   (pss_cons (ps_set (i := 3) sc_answer_told.nd rfl (Or.inl rfl) (pe_meth (pv 0) T.cl_Book T.me_Book_refusal (ok_Book_refusal T) (hr.mono (by decide)) T.b_Book_refusal .nil pass0 (pa_cons (pe_lst pa_nil) (pa_cons (pe_lst (pa_cons (pv 2) pa_nil)) pa_nil))))
   (pss_cons (ps_if (pt_cmpR op_ne (pv 3) pe_int (nomark _)) (pss_one (ps_ret (pe_lst (pa_cons (pv 3) pa_nil)))) pss_nil)
   (pss_cons (ps_set (i := 4) sc_answer_told.nd rfl (Or.inl rfl) (pe_ix ix_list (pe_fld (pv 0) rfl) (pv 2) (fun _ _ => rfl)))
   (pss_one (ps_ret (pe_op op_cat (pe_op op_cat (pe_op op_cat (pe_lst (pa_cons (pe_callB call_len_seq (by rfl) T.n_len boot_len (pa_cons (pe_fld (pv 4) rfl) pa_nil)) pa_nil)) (pe_fld (pv 4) rfl)) (pe_lst (pa_cons (pe_callB call_len_seq (by rfl) T.n_len boot_len (pa_cons (pe_fld (pv 4) rfl) pa_nil)) pa_nil))) (pe_fld (pv 4) rfl)))))))),?_⟩
 refine s_set (y_part (n := 0) (y_var rfl hp) rfl) fun v2 H2 s2 e2 => ?_
 cases e2
 have hB : ∀ {H'},Same H H' -> BookV A s H' (.ref bk) := fun sH => ⟨bk,dx,cl,rfl,hb.up sH⟩
 have fin := @ans_fin A Int 10000 (fun i => .told i) H Q bk dx cl s r hb ok q
 refine s_refuse (y_refusal (ts := []) (ss := [r]) (y_var rfl (hB s2)) (y_lst (F := IntV) (l := []) (by decide) yl_nil).l (y_int1 (y_var (P := IntV r) rfl rfl)).l ok.len) (by show 3 < 5; decide) (fun hne v H' sH h => ?_) (fun h0 H6 s6 => ?_)
 ·rcases ref_src s r with ⟨_,e⟩ | ⟨z,_⟩
  ·exact fin (e _) v H' s2 sH h
  ·exact absurd z hne
 rcases ref_src s r with ⟨z,_⟩ | ⟨_,t,c,ht,hr',hc,e⟩
 ·exact absurd h0 z
 obtain ⟨tk,hf⟩ := ok.tr t ht
 have ck := COk_of ok ht hr' hc
 have n4 := tk.ok.n4
 have e : Vbchal.step s.st (.told r) = (s.st,(c.cash.length : Int) :: c.cash ++ ((c.units.length : Int) :: c.units)) := e _
 have s06 := s2.trans s6
 have l1 := ck.cl
 have l2 := ck.ul
 refine s_set (y_claim T ok hr' hc (y_var rfl (hB s06)) (y_var (P := IntV r) rfl rfl)) fun v7 H7 s7 h7 => ?_
 refine s_ret (y_cat (F := IntV) (big_line (by simp; omega)) (y_cat (F := IntV) (big_line (by simp; omega)) (y_cat (F := IntV) (l := [(c.cash.length : Int)]) (m := c.cash) (big_line (by simp; omega)) (y_int1 (y_len (y_cash T (y_var rfl h7)))).l (y_cash T (y_var rfl h7))).l (y_int1 (z := (c.units.length : Int)) (y_len (y_units T (y_var rfl h7)))).l).l (y_units T (y_var rfl h7))) fun v H' sH h => fin e v H' (s06.trans s7) sH ?_ (by simp; omega)
 have : (c.cash.length : Int) :: c.cash ++ ((c.units.length : Int) :: c.units) = [(c.cash.length : Int)] ++ c.cash ++ [(c.units.length : Int)] ++ c.units := by simp
 rw [this]
 exact h
section
variable {H0 H : Hp} {σ : L2.St} {te ta tb tr tc : TE} {E : XK} {D : Ends} {u : TS} {i : Nat} {s : PSt} {bk dx cl : Addr}
theorem s_put {r : Int} {c : Vbchal.Claim} (e0 : σ[i]? = some (some (.ref bk))) (hb : BookAt A bk dx cl s H) (hl : s.claims.length = 3) (hr : Vbchal.isReg r = true) (h1 : Yd H tr σ (IntV r)) (h2 : Yd H tc σ (ClaimV A.c_Claim c))
  (k : ∀ H1 H',Same H H1 -> MuL cl H1 H' -> BookAt A bk dx cl { s with claims := s.claims.set r.toNat (some c) } H' -> u D σ H') :
  tSeq (tDrop (tMeth A.c_Book "put_claim" (sp_Book_put_claim A) [] E (tVar i) (tCons tr (tCons tc tNil)))) u D σ H := by
 obtain ⟨tv,cvs,hb1,_⟩ := id hb
 refine ⟨_,e0,bk,dx,_,rfl,hb1,rfl,h1 H _ (Same.refl H) fun v1 H1 s1 e1 => h2 H1 _ s1 fun v2 H2 s2 e2 => ?_⟩
 cases e1
 exact ⟨bk,dx,cl,s,r,v2,c,rfl,hb.up (s1.trans s2),hl,hr,e2,fun H' m b => k H2 H' (s1.trans s2) m b⟩
theorem s_take {t : TD} (e0 : σ[i]? = some (some (.ref bk))) (hb : BookAt A bk dx cl s H) (h1 : Yd H ta σ (TreeV A.c_Tree t))
  (k : ∀ H1 H' cl',Same H H1 -> But bk H1 H' -> H1 cl' = Option.none -> BookAt A bk dx cl' ⟨some t,noClaims⟩ H' -> u D σ H') :
  tSeq (tDrop (tMeth A.c_Book "take_tree" (sp_Book_take_tree A) [] E (tVar i) (tCons ta tNil))) u D σ H := by
 obtain ⟨tv,cvs,hb1,_⟩ := id hb
 refine ⟨_,e0,bk,dx,_,rfl,hb1,rfl,h1 H _ (Same.refl H) fun v1 H1 s1 e1 => ?_⟩
 exact ⟨bk,dx,cl,s,v1,t,rfl,hb.up s1,e1,fun H' cl' m n b => k H1 H' cl' s1 m n b⟩
end
theorem psok_put {s : PSt} (ok : PSok s) {t : TD} (ht : s.tree = some t) {c : Vbchal.Claim} (ck : COk t.n c) (j : Nat) : PSok { s with claims := s.claims.set j (some c) } := by
 refine ⟨by show (s.claims.set j (some c)).length = 3; rw [List.length_set]; exact ok.len,ok.tr,fun t' c' ht' hc' => ?_⟩
 have e : t' = t := by
  have : s.tree = some t' := ht'
  rw [ht] at this
  exact (Option.some.inj this).symm
 subst e
 rcases List.mem_or_eq_of_mem_set hc' with h | h
 ·exact ok.cl t' c' ht h
 ·rw [Option.some.inj h]; exact ck
theorem NewV.back {H H1 H2 : Hp} {v : V} (f : ∀ a o,H a = some o -> ∃ o',H1 a = some o') (h : NewV H1 H2 v) : NewV H H2 v := by
 obtain ⟨a,e,n⟩ := h
 refine ⟨a,e,?_⟩
 cases z : H a with
 | none => rfl
 | some o =>
  obtain ⟨o',z'⟩ := f a o z
  rw [n] at z'
  cases z'
theorem put_fin {ι : Type} {lim : Nat} {mk : ι -> Vbchal.Call} {H : Hp} {Q : VK} {bk dx cl : Addr} {s : PSt} {i : ι} (ok : PSok s)
  (q : ∀ r H' cl' s',(∀ b o,b ≠ bk -> b ≠ cl -> H b = some o -> H' b = some o) -> (cl' = cl \/ H cl' = Option.none) -> BookAt A bk dx cl' s' H' -> PSok s' -> s'.st = (Vbchal.step s.st (mk i)).1 -> IntsV (Vbchal.step s.st (mk i)).2 H' r -> NewV H H' r -> (Vbchal.step s.st (mk i)).2.length <= lim -> Q r H')
  {t : TD} (ht : s.tree = some t) {c : Vbchal.Claim} (ck : COk t.n c) {r : Int} (e : Vbchal.step s.st (mk i) = (Vbchal.setClaim s.st r c,[0])) (hl : 1 <= lim := by decide) : ∀ H1 H',Same H H1 -> MuL cl H1 H' -> BookAt A bk dx cl { s with claims := s.claims.set r.toNat (some c) } H' ->
   ∀ v H'',Same H' H'' -> AndV (IntsV [0]) (NewV H') H'' v -> Q v H'' := fun H1 H' s1 m b v H'' s2 h =>
 q v H'' cl _ (fun a o _ n e => s2 _ _ (m.keep a o n (s1 _ _ e))) (.inl rfl) (b.up s2) (psok_put ok ht ck r.toNat) (by rw [e]; rfl) (by rw [e]; exact h.1) (NewV.back (fun a o z => by
  by_cases n : a = cl
  ·obtain ⟨_,cvs,_,_,hc,_⟩ := b
   exact ⟨_,by rw [n]; exact hc⟩
  ·exact ⟨o,m.keep a o n (s1 _ _ z)⟩) h.2) (by rw [e]; exact hl)
theorem ref_tgt0 (s : PSt) (r : Int) : (refW s [r] [] = -7 /\ s.tree = none) \/ (∃ t,refW s [r] [] = -1 /\ s.tree = some t /\ Vbchal.isReg r = false) \/ (∃ t,refW s [r] [] = 0 /\ s.tree = some t /\ Vbchal.isReg r = true) := by
 cases ht : s.tree with
 | none => exact .inl ⟨by unfold refW; rw [ht]; rfl,rfl⟩
 | some t =>
  cases hr : Vbchal.isReg r with
  | false => exact .inr (.inl ⟨t,by unfold refW; rw [ht]; simp [hr],rfl,rfl⟩)
  | true => exact .inr (.inr ⟨t,by unfold refW; rw [ht]; simp [hr,srcRef],rfl,rfl⟩)
def sp_answer_claim (A : Adr) : Sp := spAns (ι := Int × List Int × List Int) A 10000 (fun i => .claim i.1 i.2.1 i.2.2) (fun i => [.inl i.1,.inr i.2.1,.inr i.2.2]) (fun i => i.2.1.length <= 100 /\ i.2.2.length <= 100)
theorem ok_answer_claim (T : Txt K mg A) : FnOk P w K mg base CX0 3 A.f_answer_claim A.d_answer_claim p_answer_claim (sp_answer_claim A) := by
 refine T.F_answer_claim.ok sc_answer_claim spAns_len fun cdv Ao outer s0 H vs Q E hr hsp => ?_
 obtain ⟨bk,dx,cl,s,vp,⟨r,cash,units⟩,rfl,hb,ok,hp,⟨l1,l2⟩,q⟩ := hsp
 have l1 : cash.length <= 100 := l1
 have l2 : units.length <= 100 := l2
 refine ⟨_,(pss_cons (ps_set (i := 2) sc_answer_claim.nd rfl (Or.inl rfl) (pe_ix ix_list (pv 1) pe_int (fun _ _ => rfl)))
   (pss_cons (ps_set (i := 3) sc_answer_claim.nd rfl (Or.inl rfl) (pe_ix ix_list (pv 1) pe_int (fun _ _ => rfl)))
   (pss_cons (ps_set (i := 4) sc_answer_claim.nd rfl (Or.inl rfl) (pe_ix ix_list (pv 1) pe_int (fun _ _ => rfl)))
   (pss_cons (ps_set (i := 5) sc_answer_claim.nd rfl (Or.inl rfl) (pe_meth (pv 0) T.cl_Book T.me_Book_refusal (ok_Book_refusal T) (hr.mono (by decide)) T.b_Book_refusal .nil pass0 (pa_cons (pe_lst (pa_cons (pv 2) pa_nil)) (pa_cons (pe_lst pa_nil) pa_nil))))
   (pss_cons (ps_if (pt_cmpR op_ne (pv 5) pe_int (nomark _)) (pss_one (ps_ret (pe_lst (pa_cons (pv 5) pa_nil)))) pss_nil)
   (pss_cons (ps_set (i := 6) sc_answer_claim.nd rfl (Or.inl rfl) (pe_op op_add (pe_fld (pe_fld (pv 0) rfl) rfl) pe_int))
   (pss_cons (ps_if (PW.pt (pw_or (pt_cmpR op_ne (pe_callB call_len_seq (by rfl) T.n_len boot_len (pa_cons (pv 3) pa_nil)) (pv 6) (nomark _)) (pw_or1 (pt_cmpR op_ne (pe_callB call_len_seq (by rfl) T.n_len boot_len (pa_cons (pv 4) pa_nil)) (pv 6) (nomark _))))) (pss_one (ps_ret (pe_lst (pa_cons (pe_un un_neg pe_int) pa_nil)))) pss_nil)
   (pss_cons (ps_if (pt_not (pt_val (pe_call (ok_all_between T) (hr.mono (by decide)) rfl T.m_all_between T.F_all_between.kp T.b_all_between .nil pass0 (pa_cons (pe_op op_cat (pv 3) (pv 4)) (pa_cons (pe_un un_neg (pe_glob rfl T.g_LIMIT T.r_LIMIT)) (pa_cons (pe_glob rfl T.g_LIMIT T.r_LIMIT) pa_nil)))))) (pss_one (ps_ret (pe_lst (pa_cons (pe_un un_neg pe_int) pa_nil)))) pss_nil)
   (pss_cons (ps_expr (pe_meth (pv 0) T.cl_Book T.me_Book_put_claim (ok_Book_put_claim T) (hr.mono (by decide)) T.b_Book_put_claim .nil pass0 (pa_cons (pv 2) (pa_cons (pe_make T.mk_Claim (ok_Claim_init T) (hr.mono (by decide)) rfl T.m_Claim T.b_Claim_init .nil pass0 (pa_cons (pv 3) (pa_cons (pv 4) pa_nil))) pa_nil))))
   (pss_one (ps_ret (pe_lst (pa_cons pe_int pa_nil))))))))))))),?_⟩
 refine s_set (y_part (n := 0) (y_var rfl hp) rfl) fun v2 H2 s2 e2 => ?_
 refine s_set (y_part (n := 1) (y_var rfl (Mono.up s2 hp)) rfl) fun v3 H3 s3 h3 => ?_
 refine s_set (y_part (n := 2) (y_var rfl (Mono.up (s2.trans s3) hp)) rfl) fun v4 H4 s4 h4 => ?_
 cases e2
 have h3 : IntsV cash H4 v3 := Mono.up s4 h3
 have h4 : IntsV units H4 v4 := h4
 have s05 := s2.trans (s3.trans s4)
 have hB : ∀ {H'},Same H H' -> BookV A s H' (.ref bk) := fun sH => ⟨bk,dx,cl,rfl,hb.up sH⟩
 have fin := @ans_fin A (Int × List Int × List Int) 10000 (fun i => .claim i.1 i.2.1 i.2.2) H Q bk dx cl s (r,cash,units) hb ok q
 have pfin := @put_fin A (Int × List Int × List Int) 10000 (fun i => .claim i.1 i.2.1 i.2.2) H Q bk dx cl s (r,cash,units) ok q
 refine s_refuse (y_refusal (ts := [r]) (ss := []) (y_var rfl (hB s05)) (y_int1 (y_var (P := IntV r) rfl rfl)).l (y_lst (F := IntV) (l := []) (by decide) yl_nil).l ok.len) (by show 5 < 7; decide) (fun hne v H' sH h => ?_) (fun h0 H6 s6 => ?_)
 ·rcases ref_tgt0 s r with ⟨z,ht⟩ | ⟨t,z,ht,hr'⟩ | ⟨t,z,_⟩
  ·rw [z] at h
   refine fin ?_ v H' s05 sH h
   show (match s.st.tree with | none => _ | some t => _) = _
   rw [st_none ht]
  ·rw [z] at h
   refine fin ?_ v H' s05 sH h
   show (match s.st.tree with | none => _ | some t => _) = _
   rw [st_some ht]
   exact if_pos hr'
  ·exact absurd z hne
 rcases ref_tgt0 s r with ⟨z,ht⟩ | ⟨t,z,ht,hr'⟩ | ⟨t,z,ht,hr'⟩
 ·rw [z] at h0; cases h0
 ·rw [z] at h0; cases h0
 obtain ⟨tk,hf⟩ := ok.tr t ht
 have n4 := tk.ok.n4
 have e : Vbchal.step s.st (.claim r cash units) = if cash.length ≠ Vbchal.steps t.tree + 1 \/ units.length ≠ Vbchal.steps t.tree + 1 then (s.st,[-3]) else if (cash ++ units).all Vbchal.small = false then (s.st,[-4]) else (Vbchal.setClaim s.st r { cash := cash,units := units },[0]) := by
  show (match s.st.tree with | none => _ | some t => _) = _
  rw [st_some ht]
  exact if_neg (by rw [hr']; decide)
 rw [tk.ok.steps] at e
 have s06 := s05.trans s6
 refine s_set ((y_rI0 (y_steps T (y_btree T ht (y_var rfl (hB s06)))) y_c).eq (by rfl : V.int ((t.n : Int) + 1) = V.int ((t.n + 1 : Nat) : Int))) fun v7 H7 s7 e7 => ?_
 cases e7
 have h37 : IntsV cash H7 v3 := Mono.up (s6.trans s7) h3
 have h47 : IntsV units H7 v4 := Mono.up (s6.trans s7) h4
 refine s_bad (b := decide (cash.length ≠ t.n + 1 \/ units.length ≠ t.n + 1)) ?_ (fun e1 v H' sH h => ?_) (fun e1 H8 s8 => ?_)
 ·refine (yt_or (yt_tst (y_ne rfl (y_len (y_var rfl h37)) (y_var (P := IntV ((t.n + 1 : Nat) : Int)) rfl rfl))) fun _ => yt_tst (y_ne rfl (y_len (y_var rfl h47)) (y_var (P := IntV ((t.n + 1 : Nat) : Int)) rfl rfl))).eq ?_
  simp
  rw [Bool.eq_iff_iff]
  simp
  omega
 ·exact fin (e.trans (if_pos (of_decide_eq_true e1))) v H' (s06.trans s7) sH h
 have hlen := of_decide_eq_false e1
 rw [if_neg hlen] at e
 refine s_bad (yt_not (yt_tB (y_smalls (l := cash ++ units) (y_cat (F := IntV) (big_line (by omega)) (y_var rfl (Mono.up s8 h37)) (y_var rfl (Mono.up s8 h47))).l (by rw [List.length_append]; omega)))) (fun e2 v H' sH h => ?_) (fun e2 H9 s9 => ?_)
 ·exact fin (e.trans (if_pos (ntT e2))) v H' (s06.trans (s7.trans s8)) sH h
 have hs := ntF e2
 rw [if_neg (by rw [hs]; decide)] at e
 have s09 := s06.trans (s7.trans (s8.trans s9))
 have ck : COk t.n { cash := cash,units := units } := by
  have a := List.all_eq_true.mp hs
  exact ⟨by show cash.length = t.n + 1; omega,by show units.length = t.n + 1; omega,fun z hz => small_le (a z (List.mem_append_left _ hz)),fun z hz => small_le (a z (List.mem_append_right _ hz))⟩
 refine s_put (i := 0) rfl (hb.up s09) ok.len hr' (y_var (P := IntV r) rfl rfl) (y_mkClaim (c := { cash := cash,units := units }) (y_var rfl (Mono.up (s8.trans s9) h37)) (y_var rfl (Mono.up (s8.trans s9) h47))).l fun H10 H11 s10 m b => ?_
 exact s_ret (y_int1 (y_c (v := .int 0))) fun v H' sH h => pfin ht ck e (by decide) H10 H11 (s09.trans s10) m b v H' sH h
theorem tgt_src (s : PSt) (r x : Int) (l : List Int) (f : Vbchal.Tree -> Vbchal.Claim -> Vbchal.State × Vbchal.Answer) :
  (refW s [r] (x :: l) ≠ 0 /\ (refW s [r] (x :: l) = srcRef s l -> False) /\ (if s.st.tree.isSome = true /\ Vbchal.isReg r = false then (s.st,[-1]) else Vbchal.onClaim s.st x f) = (s.st,[refW s [r] (x :: l)])) \/
  (∃ t c,refW s [r] (x :: l) = srcRef s l /\ s.tree = some t /\ Vbchal.isReg r = true /\ Vbchal.isReg x = true /\ s.claims.getD x.toNat none = some c /\ (if s.st.tree.isSome = true /\ Vbchal.isReg r = false then (s.st,[-1]) else Vbchal.onClaim s.st x f) = f t.tree c) \/
  (refW s [r] (x :: l) ≠ 0 /\ (if s.st.tree.isSome = true /\ Vbchal.isReg r = false then (s.st,[-1]) else Vbchal.onClaim s.st x f) = (s.st,[refW s [r] (x :: l)])) := by
 cases ht : s.tree with
 | none =>
  have e : refW s [r] (x :: l) = -7 := by unfold refW; rw [ht]; rfl
  rw [e]
  refine .inr (.inr ⟨by decide,?_⟩)
  rw [if_neg (by rw [st_none ht]; simp)]
  exact on_none ht x f
 | some t =>
  cases hr : Vbchal.isReg r with
  | false =>
   have e : refW s [r] (x :: l) = -1 := by unfold refW; rw [ht]; simp [hr]
   rw [e]
   refine .inr (.inr ⟨by decide,?_⟩)
   rw [if_pos ⟨by rw [st_some ht]; rfl,rfl⟩]
  | true =>
   have e : refW s [r] (x :: l) = srcRef s (x :: l) := by unfold refW; rw [ht]; simp [hr]
   have e2 : (if s.st.tree.isSome = true /\ true = false then (s.st,[-1]) else Vbchal.onClaim s.st x f) = Vbchal.onClaim s.st x f := if_neg (by simp)
   rw [e2]
   rcases src_cases s x l with ⟨e1,hx⟩ | ⟨e1,hx,hc⟩ | ⟨c,e1,hx,hc⟩
   ·rw [e,e1]; exact .inr (.inr ⟨by decide,on_reg ht hx f⟩)
   ·rw [e,e1]; exact .inr (.inr ⟨by decide,on_clm ht hx hc f⟩)
   ·exact .inr (.inl ⟨t,c,e.trans e1,rfl,rfl,hx,hc,on_ok ht hx hc f⟩)
theorem ck_neg {n : Nat} {c : Vbchal.Claim} (h : COk n c) : COk n ⟨c.cash.map fun n => -n,c.units.map fun n => -n⟩ := by
 refine ⟨by show (c.cash.map _).length = _; rw [List.length_map]; exact h.cl,by show (c.units.map _).length = _; rw [List.length_map]; exact h.ul,fun z hz => ?_,fun z hz => ?_⟩
 ·obtain ⟨y,hy,rfl⟩ := List.mem_map.mp hz
  rw [Int.natAbs_neg]; exact h.cs y hy
 ·obtain ⟨y,hy,rfl⟩ := List.mem_map.mp hz
  rw [Int.natAbs_neg]; exact h.us y hy
def sp_answer_turn (A : Adr) : Sp := spAns (ι := Int × Int) A 10000 (mk2 .turn) (fun i => [.inl i.1,.inl i.2]) (fun _ => True)
theorem ok_answer_turn (T : Txt K mg A) : FnOk P w K mg base CX0 4 A.f_answer_turn A.d_answer_turn p_answer_turn (sp_answer_turn A) := by
 refine T.F_answer_turn.ok sc_answer_turn spAns_len fun cdv Ao outer s0 H vs Q E hr hsp => ?_
 obtain ⟨bk,dx,cl,s,vp,⟨r,x⟩,rfl,hb,ok,hp,_,q⟩ := hsp
 refine ⟨_,(pss_cons (ps_set (i := 2) sc_answer_turn.nd rfl (Or.inl rfl) (pe_ix ix_list (pv 1) pe_int (fun _ _ => rfl)))
   (pss_cons (ps_set (i := 3) sc_answer_turn.nd rfl (Or.inl rfl) (pe_ix ix_list (pv 1) pe_int (fun _ _ => rfl)))
   (pss_cons (ps_set (i := 4) sc_answer_turn.nd rfl (Or.inl rfl) (pe_meth (pv 0) T.cl_Book T.me_Book_refusal (ok_Book_refusal T) (hr.mono (by decide)) T.b_Book_refusal .nil pass0 (pa_cons (pe_lst (pa_cons (pv 2) pa_nil)) (pa_cons (pe_lst (pa_cons (pv 3) pa_nil)) pa_nil))))
   (pss_cons (ps_if (pt_cmpR op_ne (pv 4) pe_int (nomark _)) (pss_one (ps_ret (pe_lst (pa_cons (pv 4) pa_nil)))) pss_nil)
   (pss_cons (ps_expr (pe_meth (pv 0) T.cl_Book T.me_Book_put_claim (ok_Book_put_claim T) (hr.mono (by decide)) T.b_Book_put_claim .nil pass0 (pa_cons (pv 2) (pa_cons (pe_call (ok_turned T) (hr.mono (by decide)) rfl T.m_turned T.F_turned.kp T.b_turned .nil pass0 (pa_cons (pe_ix ix_list (pe_fld (pv 0) rfl) (pv 3) (fun _ _ => rfl)) pa_nil)) pa_nil))))
   (pss_one (ps_ret (pe_lst (pa_cons pe_int pa_nil))))))))),?_⟩
 refine s_set (y_part (n := 0) (y_var rfl hp) rfl) fun v2 H2 s2 e2 => ?_
 refine s_set (y_part (n := 1) (y_var rfl (Mono.up s2 hp)) rfl) fun v3 H3 s3 e3 => ?_
 cases e2; cases e3
 have s05 := s2.trans s3
 have hB : ∀ {H'},Same H H' -> BookV A s H' (.ref bk) := fun sH => ⟨bk,dx,cl,rfl,hb.up sH⟩
 have fin := @ans_fin A (Int × Int) 10000 (mk2 .turn) H Q bk dx cl s (r,x) hb ok q
 have pfin := @put_fin A (Int × Int) 10000 (mk2 .turn) H Q bk dx cl s (r,x) ok q
 have cs := tgt_src s r x [] fun _ c => (Vbchal.setClaim s.st r { cash := c.cash.map fun n => -n,units := c.units.map fun n => -n },[0])
 refine s_refuse (y_refusal (ts := [r]) (ss := [x]) (y_var rfl (hB s05)) (y_int1 (y_var (P := IntV r) rfl rfl)).l (y_int1 (y_var (P := IntV x) rfl rfl)).l ok.len) (by show 4 < 5; decide) (fun hne v H' sH h => ?_) (fun h0 H6 s6 => ?_)
 ·rcases cs with ⟨_,_,e⟩ | ⟨t,c,z,_⟩ | ⟨_,e⟩
  ·exact fin e v H' s05 sH h
  ·exact absurd z hne
  ·exact fin e v H' s05 sH h
 rcases cs with ⟨z,_⟩ | ⟨t,c,_,ht,hr',hx,hc,e⟩ | ⟨z,_⟩
 ·exact absurd h0 z
 ·have ck := COk_of ok ht hx hc
  have s06 := s05.trans s6
  have n4 := (ok.tr t ht).1.ok.n4
  refine s_put (i := 0) rfl (hb.up s06) ok.len hr' (y_var (P := IntV r) rfl rfl) (y_turned (y_claim T ok hx hc (y_var rfl (hB s06)) (y_var (P := IntV x) rfl rfl)) ⟨by rw [ck.cl]; omega,by rw [ck.ul]; omega⟩).l fun H10 H11 s10 m b => ?_
  exact s_ret (y_int1 (y_c (v := .int 0))) fun v H' sH h => pfin ht (ck_neg ck) e (by decide) H10 H11 (s06.trans s10) m b v H' sH h
 ·exact absurd h0 z
def sp_answer_sum (A : Adr) : Sp := spAns (ι := Int × Int × Int) A 10000 (mk3 .sum) (fun i => [.inl i.1,.inl i.2.1,.inl i.2.2]) (fun _ => True)
theorem ok_answer_sum (T : Txt K mg A) : FnOk P w K mg base CX0 4 A.f_answer_sum A.d_answer_sum p_answer_sum (sp_answer_sum A) := by
 refine T.F_answer_sum.ok sc_answer_sum spAns_len fun cdv Ao outer s0 H vs Q E hr hsp => ?_
 obtain ⟨bk,dx,cl,s,vp,⟨r,x,y⟩,rfl,hb,ok,hp,_,q⟩ := hsp
 refine ⟨_,(pss_cons (ps_set (i := 2) sc_answer_sum.nd rfl (Or.inl rfl) (pe_ix ix_list (pv 1) pe_int (fun _ _ => rfl)))
   (pss_cons (ps_set (i := 3) sc_answer_sum.nd rfl (Or.inl rfl) (pe_ix ix_list (pv 1) pe_int (fun _ _ => rfl)))
   (pss_cons (ps_set (i := 4) sc_answer_sum.nd rfl (Or.inl rfl) (pe_ix ix_list (pv 1) pe_int (fun _ _ => rfl)))
   (pss_cons (ps_set (i := 5) sc_answer_sum.nd rfl (Or.inl rfl) (pe_meth (pv 0) T.cl_Book T.me_Book_refusal (ok_Book_refusal T) (hr.mono (by decide)) T.b_Book_refusal .nil pass0 (pa_cons (pe_lst (pa_cons (pv 2) pa_nil)) (pa_cons (pe_lst (pa_cons (pv 3) (pa_cons (pv 4) pa_nil))) pa_nil))))
   (pss_cons (ps_if (pt_cmpR op_ne (pv 5) pe_int (nomark _)) (pss_one (ps_ret (pe_lst (pa_cons (pv 5) pa_nil)))) pss_nil)
   (pss_cons (ps_set (i := 6) sc_answer_sum.nd rfl (Or.inl rfl) (pe_call (ok_together T) (hr.mono (by decide)) rfl T.m_together T.F_together.kp T.b_together .nil pass0 (pa_cons (pe_ix ix_list (pe_fld (pv 0) rfl) (pv 3) (fun _ _ => rfl)) (pa_cons (pe_ix ix_list (pe_fld (pv 0) rfl) (pv 4) (fun _ _ => rfl)) pa_nil))))
   (pss_cons (ps_if (pt_not (pt_val (pe_call (ok_all_between T) (hr.mono (by decide)) rfl T.m_all_between T.F_all_between.kp T.b_all_between .nil pass0 (pa_cons (pe_op op_cat (pe_fld (pv 6) rfl) (pe_fld (pv 6) rfl)) (pa_cons (pe_un un_neg (pe_glob rfl T.g_LIMIT T.r_LIMIT)) (pa_cons (pe_glob rfl T.g_LIMIT T.r_LIMIT) pa_nil)))))) (pss_one (ps_ret (pe_lst (pa_cons (pe_un un_neg pe_int) pa_nil)))) pss_nil)
   (pss_cons (ps_expr (pe_meth (pv 0) T.cl_Book T.me_Book_put_claim (ok_Book_put_claim T) (hr.mono (by decide)) T.b_Book_put_claim .nil pass0 (pa_cons (pv 2) (pa_cons (pv 6) pa_nil))))
   (pss_one (ps_ret (pe_lst (pa_cons pe_int pa_nil)))))))))))),?_⟩
 refine s_set (y_part (n := 0) (y_var rfl hp) rfl) fun v2 H2 s2 e2 => ?_
 refine s_set (y_part (n := 1) (y_var rfl (Mono.up s2 hp)) rfl) fun v3 H3 s3 e3 => ?_
 refine s_set (y_part (n := 2) (y_var rfl (Mono.up (s2.trans s3) hp)) rfl) fun v4 H4 s4 e4 => ?_
 cases e2; cases e3; cases e4
 have s05 := s2.trans (s3.trans s4)
 have hB : ∀ {H'},Same H H' -> BookV A s H' (.ref bk) := fun sH => ⟨bk,dx,cl,rfl,hb.up sH⟩
 have fin := @ans_fin A (Int × Int × Int) 10000 (mk3 .sum) H Q bk dx cl s (r,x,y) hb ok q
 have pfin := @put_fin A (Int × Int × Int) 10000 (mk3 .sum) H Q bk dx cl s (r,x,y) ok q
 let g : Vbchal.Claim -> Vbchal.Claim -> Vbchal.Claim := fun c d => { cash := (c.cash.zip d.cash).map (fun z => z.1 + z.2),units := (c.units.zip d.units).map fun z => z.1 + z.2 }
 have cs := tgt_src s r x [y] fun _ c => Vbchal.onClaim s.st y fun _ d => if ((g c d).cash ++ (g c d).units).all Vbchal.small = false then (s.st,[-4]) else (Vbchal.setClaim s.st r (g c d),[0])
 have cs2 : (refW s [r] [x,y] ≠ 0 /\ Vbchal.step s.st (.sum r x y) = (s.st,[refW s [r] [x,y]])) \/ (refW s [r] [x,y] = 0 /\ ∃ t c d,s.tree = some t /\ Vbchal.isReg r = true /\ Vbchal.isReg x = true /\ Vbchal.isReg y = true /\ s.claims.getD x.toNat none = some c /\ s.claims.getD y.toNat none = some d /\
   Vbchal.step s.st (.sum r x y) = if ((g c d).cash ++ (g c d).units).all Vbchal.small = false then (s.st,[-4]) else (Vbchal.setClaim s.st r (g c d),[0])) := by
  rcases cs with ⟨z,_,e⟩ | ⟨t,c,z,ht,hr',hx,hc,e⟩ | ⟨z,e⟩
  ·exact .inl ⟨z,e⟩
  ·rcases src_cases s y [] with ⟨e1,hy⟩ | ⟨e1,hy,hd⟩ | ⟨d,e1,hy,hd⟩
   ·rw [z,e1]
    exact .inl ⟨by decide,e.trans (on_reg ht hy _)⟩
   ·rw [z,e1]
    exact .inl ⟨by decide,e.trans (on_clm ht hy hd _)⟩
   ·rw [z,e1]
    exact .inr ⟨rfl,t,c,d,ht,hr',hx,hy,hc,hd,e.trans (on_ok ht hy hd _)⟩
  ·exact .inl ⟨z,e⟩
 refine s_refuse (y_refusal (ts := [r]) (ss := [x,y]) (y_var rfl (hB s05)) (y_int1 (y_var (P := IntV r) rfl rfl)).l (y_lst (F := IntV) (l := [x,y]) (by simp) (yl_cons (y_var (P := IntV x) rfl rfl) (yl_cons (y_var (P := IntV y) rfl rfl) yl_nil))).l ok.len) (by show 5 < 7; decide) (fun hne v H' sH h => ?_) (fun h0 H6 s6 => ?_)
 ·rcases cs2 with ⟨_,e⟩ | ⟨z,_⟩
  ·exact fin e v H' s05 sH h
  ·exact absurd z hne
 rcases cs2 with ⟨z,_⟩ | ⟨_,t,c,d,ht,hr',hx,hy,hc,hd,e⟩
 ·exact absurd h0 z
 have ck := COk_of ok ht hx hc
 have dk := COk_of ok ht hy hd
 have s06 := s05.trans s6
 have n4 := (ok.tr t ht).1.ok.n4
 have gl1 : (g c d).cash.length = t.n + 1 := by
  show ((c.cash.zip d.cash).map _).length = _
  rw [List.length_map,List.length_zip,ck.cl,dk.cl,Nat.min_self]
 have gl2 : (g c d).units.length = t.n + 1 := by
  show ((c.units.zip d.units).map _).length = _
  rw [List.length_map,List.length_zip,ck.ul,dk.ul,Nat.min_self]
 refine s_set (P := ClaimV A.c_Claim (g c d)) (y_together (c := c) (d := d) (y_claim T ok hx hc (y_var rfl (hB s06)) (y_var (P := IntV x) rfl rfl)) (y_claim T ok hy hd (y_var rfl (hB s06)) (y_var (P := IntV y) rfl rfl)) ⟨by rw [ck.cl]; omega,by rw [ck.ul]; omega⟩).l fun v7 H7 s7 h7 => ?_
 refine s_bad (yt_not (yt_tB (y_smalls (l := (g c d).cash ++ (g c d).units) (y_cat (F := IntV) (big_line (by omega)) (y_cash T (y_var rfl h7)) (y_units T (y_var rfl h7))).l (by rw [List.length_append]; omega)))) (fun e2 v H' sH h => ?_) (fun e2 H9 s9 => ?_)
 ·exact fin (e.trans (if_pos (ntT e2))) v H' (s06.trans s7) sH h
 have hs := ntF e2
 rw [if_neg (by rw [hs]; decide)] at e
 have s09 := s06.trans (s7.trans s9)
 have gk : COk t.n (g c d) := by
  have a := List.all_eq_true.mp hs
  exact ⟨gl1,gl2,fun z hz => small_le (a z (List.mem_append_left _ hz)),fun z hz => small_le (a z (List.mem_append_right _ hz))⟩
 refine s_put (i := 0) rfl (hb.up s09) ok.len hr' (y_var (P := IntV r) rfl rfl) (y_var rfl (Mono.up s9 h7)) fun H10 H11 s10 m b => ?_
 exact s_ret (y_int1 (y_c (v := .int 0))) fun v H' sH h => pfin ht gk e (by decide) H10 H11 (s09.trans s10) m b v H' sH h
def tdOf (n a b : Int) (bids asks : List Int) : TD := ⟨n.toNat,a.toNat,b.toNat,bids,asks⟩
theorem tree_step (s : Vbchal.State) (n a b : Int) (bids asks : List Int) : (refOf n a b bids asks ≠ 0 /\ Vbchal.step s (.tree n a b bids asks) = (s,[refOf n a b bids asks])) \/
  (refOf n a b bids asks = 0 /\ TDok (tdOf n a b bids asks) /\ n = (n.toNat : Int) /\ a = (a.toNat : Int) /\ b = (b.toNat : Int) /\
   Vbchal.step s (.tree n a b bids asks) = if Vbchal.fair (tdOf n a b bids asks).tree = false then (s,[-6]) else ({ tree := some (tdOf n a b bids asks).tree },[(bids.length : Int)])) := by
 have w1 : Vbchal.within n 1 Vbchal.STEPS = (decide (1 <= n) && decide (n <= 4)) := rfl
 have w2 : (Vbchal.within a 1 Vbchal.FACTOR && (Vbchal.within b 1 Vbchal.FACTOR && decide (b <= a))) = (decide (1 <= b) && (decide (b <= a) && decide (a <= 100))) := by
  unfold Vbchal.within Vbchal.FACTOR
  rw [Bool.eq_iff_iff]
  simp
  omega
 have w4 : ((bids ++ asks).all fun p => Vbchal.within p 1 Vbchal.TOP) = (bids ++ asks).all (between3 1 10000) := rfl
 have w5 : ((bids.zip asks).all fun x => decide (x.1 <= x.2)) = !((bids.zip asks).any fun x => decide (x.2 < x.1)) := by
  rw [List.not_any_eq_all_not]
  congr 1
  funext x
  rw [Bool.eq_iff_iff]
  simp
 have e : Vbchal.step s (.tree n a b bids asks) = if Vbchal.within n 1 Vbchal.STEPS = false then (s,[-1])
  else if (Vbchal.within a 1 Vbchal.FACTOR && (Vbchal.within b 1 Vbchal.FACTOR && decide (b <= a))) = false then (s,[-2])
  else if bids.length ≠ Vbchal.count n.toNat \/ asks.length ≠ Vbchal.count n.toNat then (s,[-3])
  else if ((bids ++ asks).all fun p => Vbchal.within p 1 Vbchal.TOP) = false then (s,[-4])
  else if ((bids.zip asks).all fun x => decide (x.1 <= x.2)) = false then (s,[-5])
  else if Vbchal.fair (tdOf n a b bids asks).tree = false then (s,[-6]) else ({ tree := some (tdOf n a b bids asks).tree },[(bids.length : Int)]) := rfl
 rw [w1,w2,w4,w5,count_tri] at e
 rw [e]
 unfold refOf
 by_cases h1 : (decide (1 <= n) && decide (n <= 4)) = false
 ·rw [if_pos h1,if_pos h1]; exact .inl ⟨by decide,rfl⟩
 rw [if_neg h1,if_neg h1]
 by_cases h2 : (decide (1 <= b) && (decide (b <= a) && decide (a <= 100))) = false
 ·rw [if_pos h2,if_pos h2]; exact .inl ⟨by decide,rfl⟩
 rw [if_neg h2,if_neg h2]
 by_cases h3 : bids.length ≠ tri (n.toNat + 1) \/ asks.length ≠ tri (n.toNat + 1)
 ·rw [if_pos h3,if_pos h3]; exact .inl ⟨by decide,rfl⟩
 rw [if_neg h3,if_neg h3]
 by_cases h4 : (bids ++ asks).all (between3 1 10000) = false
 ·rw [if_pos h4,if_pos h4]; exact .inl ⟨by decide,rfl⟩
 rw [if_neg h4,if_neg h4]
 by_cases h5 : ((bids.zip asks).any fun x => decide (x.2 < x.1)) = true
 ·rw [if_pos h5,if_pos (by rw [h5]; rfl)]; exact .inl ⟨by decide,rfl⟩
 rw [if_neg h5,if_neg (by simpa using h5)]
 have h1' : 1 <= n /\ n <= 4 := by simpa using h1
 have h2' : 1 <= b /\ b <= a /\ a <= 100 := by simpa using h2
 have h3b : bids.length = tri (n.toNat + 1) := by omega
 have h3a : asks.length = tri (n.toNat + 1) := by omega
 have h4' : (bids ++ asks).all (between3 1 10000) = true := by simpa using h4
 refine .inr ⟨rfl,⟨?_,h3b,h3a,fun z hz => ?_⟩,by omega,by omega,by omega,rfl⟩
 ·refine tree_ok (by show 1 <= n.toNat; omega) (by show n.toNat <= 4; omega) (by show 1 <= b.toNat; omega) (by show b.toNat <= a.toNat; omega) (by show a.toNat <= 100; omega) h3b h3a h4' ?_
  show ((bids.zip asks).all fun x => decide (x.1 <= x.2)) = true
  rw [w5]
  simpa using h5
 ·have := List.all_eq_true.mp h4' z hz
  unfold between3 at this
  simp at this
  omega
def sp_answer_tree (A : Adr) : Sp := spAns (ι := Int × Int × Int × List Int × List Int) A 10000 (fun i => .tree i.1 i.2.1 i.2.2.1 i.2.2.2.1 i.2.2.2.2) (fun i => [.inl i.1,.inl i.2.1,.inl i.2.2.1,.inr i.2.2.2.1,.inr i.2.2.2.2]) (fun i => i.2.2.2.1.length <= 100 /\ i.2.2.2.2.length <= 100)
theorem ok_answer_tree (T : Txt K mg A) : FnOk P w K mg base CX0 9 A.f_answer_tree A.d_answer_tree p_answer_tree (sp_answer_tree A) := by
 refine T.F_answer_tree.ok sc_answer_tree spAns_len fun cdv Ao outer s0 H vs Q E hr hsp => ?_
 obtain ⟨bk,dx,cl,s,vp,⟨n,a,b,bids,asks⟩,rfl,hb,ok,hp,⟨l1,l2⟩,q⟩ := hsp
 have l1 : bids.length <= 100 := l1
 have l2 : asks.length <= 100 := l2
 refine ⟨_,(pss_cons (ps_set (i := 2) sc_answer_tree.nd rfl (Or.inl rfl) (pe_ix ix_list (pv 1) pe_int (fun _ _ => rfl)))
   (pss_cons (ps_set (i := 3) sc_answer_tree.nd rfl (Or.inl rfl) (pe_ix ix_list (pv 1) pe_int (fun _ _ => rfl)))
   (pss_cons (ps_set (i := 4) sc_answer_tree.nd rfl (Or.inl rfl) (pe_ix ix_list (pv 1) pe_int (fun _ _ => rfl)))
   (pss_cons (ps_set (i := 5) sc_answer_tree.nd rfl (Or.inl rfl) (pe_ix ix_list (pv 1) pe_int (fun _ _ => rfl)))
   (pss_cons (ps_set (i := 6) sc_answer_tree.nd rfl (Or.inl rfl) (pe_ix ix_list (pv 1) pe_int (fun _ _ => rfl)))
   (pss_cons (ps_set (i := 7) sc_answer_tree.nd rfl (Or.inl rfl) (pe_call (ok_tree_refusal T) (hr.mono (by decide)) rfl T.m_tree_refusal T.F_tree_refusal.kp T.b_tree_refusal .nil pass0 (pa_cons (pv 2) (pa_cons (pv 3) (pa_cons (pv 4) (pa_cons (pv 5) (pa_cons (pv 6) pa_nil)))))))
   (pss_cons (ps_if (pt_cmpR op_ne (pv 7) pe_int (nomark _)) (pss_one (ps_ret (pe_lst (pa_cons (pv 7) pa_nil)))) pss_nil)
   (pss_cons (ps_set (i := 8) sc_answer_tree.nd rfl (Or.inl rfl) (pe_make T.mk_Tree (ok_Tree_init T) (hr.mono (by decide)) rfl T.m_Tree T.b_Tree_init .nil pass0 (pa_cons (pv 2) (pa_cons (pv 3) (pa_cons (pv 4) (pa_cons (pv 5) (pa_cons (pv 6) pa_nil)))))))
   (pss_cons (ps_if (pt_not (pt_val (pe_call (ok_is_let T) (hr.mono (by decide)) rfl T.m_is_let T.F_is_let.kp T.b_is_let .nil pass0 (pa_cons (pv 8) pa_nil)))) (pss_one (ps_ret (pe_lst (pa_cons (pe_un un_neg pe_int) pa_nil)))) pss_nil)
   (pss_cons (ps_expr (pe_meth (pv 0) T.cl_Book T.me_Book_take_tree (ok_Book_take_tree T) (hr.mono (by decide)) T.b_Book_take_tree .nil pass0 (pa_cons (pv 8) pa_nil)))
   (pss_one (ps_ret (pe_lst (pa_cons (pe_call (ok_nodes_before T) (hr.mono (by decide)) rfl T.m_nodes_before T.F_nodes_before.kp T.b_nodes_before .nil pass0 (pa_cons (pe_op op_add (pv 2) pe_int) pa_nil)) pa_nil)))))))))))))),?_⟩
 refine s_set (y_part (n := 0) (y_var rfl hp) rfl) fun v2 H2 s2 e2 => ?_
 refine s_set (y_part (n := 1) (y_var rfl (Mono.up s2 hp)) rfl) fun v3 H3 s3 e3 => ?_
 refine s_set (y_part (n := 2) (y_var rfl (Mono.up (s2.trans s3) hp)) rfl) fun v4 H4 s4 e4 => ?_
 refine s_set (y_part (n := 3) (y_var rfl (Mono.up (s2.trans (s3.trans s4)) hp)) rfl) fun v5 H5 s5 h5 => ?_
 refine s_set (y_part (n := 4) (y_var rfl (Mono.up (s2.trans (s3.trans (s4.trans s5))) hp)) rfl) fun v6 H6 s6 h6 => ?_
 cases e2; cases e3; cases e4
 have h5 : IntsV bids H6 v5 := Mono.up s6 h5
 have h6 : IntsV asks H6 v6 := h6
 have s06 := s2.trans (s3.trans (s4.trans (s5.trans s6)))
 have fin := @ans_fin A (Int × Int × Int × List Int × List Int) 10000 (fun i => .tree i.1 i.2.1 i.2.2.1 i.2.2.2.1 i.2.2.2.2) H Q bk dx cl s (n,a,b,bids,asks) hb ok q
 have cs := tree_step s.st n a b bids asks
 refine s_refuse (y_refOf (y_var (P := IntV n) rfl rfl) (y_var (P := IntV a) rfl rfl) (y_var (P := IntV b) rfl rfl) (y_var rfl h5) (y_var rfl h6) ⟨l1,l2⟩) (by show 7 < 9; decide) (fun hne v H' sH h => ?_) (fun h0 H7 s7 => ?_)
 ·rcases cs with ⟨_,e⟩ | ⟨z,_⟩
  ·exact fin e v H' s06 sH h
  ·exact absurd z hne
 rcases cs with ⟨z,_⟩ | ⟨_,tk,en,ea,eb,e⟩
 ·exact absurd h0 z
 have tk : TDok (tdOf n a b bids asks) := tk
 have hab : 1 <= (tdOf n a b bids asks).b /\ (tdOf n a b bids asks).b <= (tdOf n a b bids asks).a /\ (tdOf n a b bids asks).a <= 100 := ⟨tk.ok.b1,tk.ok.ba,tk.ok.a2⟩
 have n4 : n.toNat <= 4 := tk.ok.n4
 have s07 := s06.trans s7
 refine s_set (y_mkTree (t := tdOf n a b bids asks) ((y_var (P := IntV n) rfl rfl).eq (by show V.int n = V.int (n.toNat : Int); rw [<- en])) ((y_var (P := IntV a) rfl rfl).eq (by show V.int a = V.int (a.toNat : Int); rw [<- ea])) ((y_var (P := IntV b) rfl rfl).eq (by show V.int b = V.int (b.toNat : Int); rw [<- eb])) (y_var rfl (Mono.up s7 h5)) (y_var rfl (Mono.up s7 h6)) hab).l fun v8 H8 s8 h8 => ?_
 have s08 := s07.trans s8
 refine s_bad (yt_not (yt_tB (y_isLet (t := tdOf n a b bids asks) (y_var rfl h8) tk))) (fun e1 v H' sH h => ?_) (fun e1 H9 s9 => ?_)
 ·exact fin (e.trans (if_pos (ntT e1))) v H' s08 sH h
 have hf := ntF e1
 rw [if_neg (by rw [hf]; decide)] at e
 refine s_take (i := 0) rfl (hb.up (s08.trans s9)) (y_var rfl (Mono.up s9 h8)) fun H10 H11 cl' s10 m nc b' => ?_
 have nodes : tri (n.toNat + 1) = bids.length := tk.bl.symm
 refine s_ret (y_int1 (y_tri (i := n.toNat + 1) ((y_rI0 (y_var (P := IntV n) rfl rfl) y_c).eq (by show V.int (n + 1) = V.int ((n.toNat + 1 : Nat) : Int); congr 1; omega)) (by omega))) fun v H' sH h => ?_
 have s010 := s08.trans (s9.trans s10)
 refine q v H' cl' ⟨some (tdOf n a b bids asks),noClaims⟩ (fun x o n1 _ e => sH _ _ (m x o n1 (s010 _ _ e))) (.inr (s010.free nc)) (b'.up sH) ⟨rfl,fun t ht => ?_,fun t c ht hc => ?_⟩ ?_ ?_ ?_ ?_
 ·have : tdOf n a b bids asks = t := Option.some.inj ht
  subst this
  exact ⟨tk,hf⟩
 ·simp [noClaims] at hc
 ·show _ = (Vbchal.step s.st (.tree n a b bids asks)).1
  rw [e]
  rfl
 ·show IntsV (Vbchal.step s.st (.tree n a b bids asks)).2 H' v
  rw [e,<- nodes]
  exact h.1
 ·refine NewV.back (fun x o z => ?_) h.2
  by_cases nx : x = bk
  ·obtain ⟨_,_,hx,_⟩ := b'
   exact ⟨_,by rw [nx]; exact hx⟩
  ·exact ⟨o,m x o nx (s010 _ _ z)⟩
 ·show (Vbchal.step s.st (.tree n a b bids asks)).2.length <= 10000
  rw [e]
  exact one_lim
def SqV (K : PySem.W.Frag) (l : List Int) : VP := fun H v => ∃ a,v = .ref a /\ SqL K H a (l.map V.int)
instance (l : List Int) : Mono (SqV K l) := ⟨fun s ⟨a,e,h⟩ => ⟨a,e,s.seq h⟩⟩
theorem atI_map {α β : Type} (f : α -> β) {l : List α} {i : Int} {x : α} (h : atI l i = some x) : atI (l.map f) i = some (f x) := by
 unfold atI at *
 rw [List.length_map]
 cases e : ixN l.length i with
 | none => rw [e] at h; cases h
 | some j =>
  rw [e] at h
  show (l.map f)[j]? = some (f x)
  have h : l[j]? = some x := h
  rw [List.getElem?_map,h]
  rfl
section
variable {H0 H : Hp} {σ : L2.St} {te ta tb tc : TE} {E : XK} {l : List Int}
theorem y_ixS {i z : Int} (ha : Yd H0 ta σ (SqV K l)) (hb : Yd H0 tb σ (IntV i)) (e : atI l i = some z) : Yd H0 (tOp (rIxL K) ta tb) σ (IntV z) := fun H Q s k =>
 ha H _ s fun v H1 s1 h1 => hb H1 _ (s.trans s1) fun u H2 s2 e2 => by
  obtain ⟨a,e0,h⟩ := (Mono.up s2 h1 : SqV K l H2 v)
  exact ⟨a,_,i,_,e0,e2,h,atI_map V.int e,k _ H2 (s1.trans s2) rfl⟩
theorem y_lenS (ha : Yd H0 ta σ (SqV K l)) : Yd H0 (tCB (fun xs H Q => ∃ p ys,xs = [.ref p] /\ (SqL K H p ys \/ SqT K H p ys) /\ Q (.int ys.length) H) (tCons ta tNil)) σ (IntV (l.length : Int)) := fun H Q s k =>
 ha H _ s fun v H1 s1 h1 => by
  obtain ⟨a,rfl,h⟩ := h1
  exact ⟨a,_,rfl,.inl h,k _ H1 s1 (by rw [List.length_map]; rfl)⟩
theorem y_slS {lo hi : Nat} (h1 : lo <= hi) (h2 : hi <= l.length) (ha : Yd H0 ta σ (SqV K l)) (hb : Yd H0 tb σ (IntV (lo : Int))) (hc : Yd H0 tc σ (IntV (hi : Int))) :
  Yd H0 (tSl (rSlL K) ta (tPart tb) (tPart tc)) σ (AndV (IntsV ((l.drop lo).take (hi - lo))) (NewV H0)) := fun H Q s k =>
 ha H _ s fun v Ha sa hv => hb Ha _ (s.trans sa) fun v2 Hb sb e2 => ⟨_,e2,hc Hb _ (s.trans (sa.trans sb)) fun v3 Hc sc e3 => ⟨_,e3,by
  obtain ⟨a,rfl,h⟩ := (Mono.up (sb.trans sc) hv : SqV K l Hc v)
  refine ⟨a,_,rfl,h,fun p hp => k _ _ (sa.trans (sb.trans (sc.trans (Same.upd hp)))) ⟨IntsV.mk ?_,⟨p,rfl,(s.trans (sa.trans (sb.trans sc))).free hp⟩⟩⟩
  rw [upd_same]
  unfold cutV
  rw [List.length_map,HT.sIx_nat,HT.sIx_nat,Nat.min_eq_left h2,Nat.min_eq_left (by omega),<- List.map_drop,<- List.map_take]⟩⟩
def formsOf (A : Adr) : List (Int × Int × Addr) := [(3,2,A.f_answer_tree),(1,2,A.f_answer_claim),(2,0,A.f_answer_turn),(3,0,A.f_answer_sum),(4,0,A.f_answer_least),(3,0,A.f_answer_points),(2,0,A.f_answer_range),(5,0,A.f_answer_plan),(2,1,A.f_answer_walk),(2,1,A.f_answer_held),(4,0,A.f_answer_enough),(1,0,A.f_answer_quotes),(1,0,A.f_answer_told)]
def FormV (K : PySem.W.Frag) (n k : Int) (f : Addr) : VP := fun _ v => ∃ p,v = .ref p /\ ∀ H,SqT K H p [.int n,.int k,.ref f]
instance (n k : Int) (f : Addr) : Mono (FormV K n k f) := ⟨fun _ h => h⟩
theorem y_form (T : Txt K mg A) {i : Nat} {n k : Int} {f : Addr} (e : (formsOf A)[i]? = some (n,k,f)) (hb : Yd H0 tb σ (IntV (i : Int))) : Yd H0 (tOp (rIxT K) (tC (.ref A.a_FORMS)) tb) σ (FormV K n k f) := by
 obtain ⟨ps,h1,h2⟩ := T.t_FORMS
 obtain ⟨p,hp,q⟩ := All2.get h2 e
 exact fun H Q s kk => hb H _ s fun v H1 s1 e1 => ⟨A.a_FORMS,ps.map V.ref,(i : Int),.ref p,rfl,e1,h1 H1,atI_nat (by rw [List.getElem?_map,hp]; rfl),kk _ H1 s1 ⟨p,rfl,q⟩⟩
theorem y_f0 {n k : Int} {f : Addr} (ha : Yd H0 ta σ (FormV K n k f)) : Yd H0 (tOp (rIxT K) ta (tC (.int 0))) σ (IntV n) := y_ixT ha fun H v ⟨p,e,h⟩ => ⟨p,_,_,e,h H,atI_nat (j := 0) rfl,rfl⟩
theorem y_f1 {n k : Int} {f : Addr} (ha : Yd H0 ta σ (FormV K n k f)) : Yd H0 (tOp (rIxT K) ta (tC (.int 1))) σ (IntV k) := y_ixT ha fun H v ⟨p,e,h⟩ => ⟨p,_,_,e,h H,atI_nat (j := 1) rfl,rfl⟩
theorem y_f2 {n k : Int} {f : Addr} (ha : Yd H0 ta σ (FormV K n k f)) : Yd H0 (tOp (rIxT K) ta (tC (.int 2))) σ (EqV (.ref f)) := y_ixT ha fun H v ⟨p,e,h⟩ => ⟨p,_,_,e,h H,atI_nat (j := 2) rfl,rfl⟩
end
theorem shape_forms {p : Int} {n k : Nat} (h : PyVbchal.shape p = some (n,k)) : ∃ (i : Nat) (f : Addr),p = (i : Int) /\ (formsOf A)[i]? = some ((n : Int),(k : Int),f) := by
 by_cases h0 : p = 0
 ·subst h0
  have h : some (3,2) = some (n,k) := h
  injection h with h
  injection h with e1 e2
  subst e1 e2
  exact ⟨0,_,rfl,rfl⟩
 by_cases h1 : p = 1
 ·subst h1
  have h : some (1,2) = some (n,k) := h
  injection h with h
  injection h with e1 e2
  subst e1 e2
  exact ⟨1,_,rfl,rfl⟩
 by_cases h2 : p = 2
 ·subst h2
  have h : some (2,0) = some (n,k) := h
  injection h with h
  injection h with e1 e2
  subst e1 e2
  exact ⟨2,_,rfl,rfl⟩
 by_cases h3 : p = 3
 ·subst h3
  have h : some (3,0) = some (n,k) := h
  injection h with h
  injection h with e1 e2
  subst e1 e2
  exact ⟨3,_,rfl,rfl⟩
 by_cases h4 : p = 4
 ·subst h4
  have h : some (4,0) = some (n,k) := h
  injection h with h
  injection h with e1 e2
  subst e1 e2
  exact ⟨4,_,rfl,rfl⟩
 by_cases h5 : p = 5
 ·subst h5
  have h : some (3,0) = some (n,k) := h
  injection h with h
  injection h with e1 e2
  subst e1 e2
  exact ⟨5,_,rfl,rfl⟩
 by_cases h6 : p = 6
 ·subst h6
  have h : some (2,0) = some (n,k) := h
  injection h with h
  injection h with e1 e2
  subst e1 e2
  exact ⟨6,_,rfl,rfl⟩
 by_cases h7 : p = 7
 ·subst h7
  have h : some (5,0) = some (n,k) := h
  injection h with h
  injection h with e1 e2
  subst e1 e2
  exact ⟨7,_,rfl,rfl⟩
 by_cases h8 : p = 8
 ·subst h8
  have h : some (2,1) = some (n,k) := h
  injection h with h
  injection h with e1 e2
  subst e1 e2
  exact ⟨8,_,rfl,rfl⟩
 by_cases h9 : p = 9
 ·subst h9
  have h : some (2,1) = some (n,k) := h
  injection h with h
  injection h with e1 e2
  subst e1 e2
  exact ⟨9,_,rfl,rfl⟩
 by_cases h10 : p = 10
 ·subst h10
  have h : some (4,0) = some (n,k) := h
  injection h with h
  injection h with e1 e2
  subst e1 e2
  exact ⟨10,_,rfl,rfl⟩
 by_cases h11 : p = 11
 ·subst h11
  have h : some (1,0) = some (n,k) := h
  injection h with h
  injection h with e1 e2
  subst e1 e2
  exact ⟨11,_,rfl,rfl⟩
 by_cases h12 : p = 12
 ·subst h12
  have h : some (1,0) = some (n,k) := h
  injection h with h
  injection h with e1 e2
  subst e1 e2
  exact ⟨12,_,rfl,rfl⟩
 exfalso
 unfold PyVbchal.shape at h
 rw [if_neg h0,if_neg h1,if_neg h2,if_neg h3,if_neg h4,if_neg h5,if_neg h6,if_neg h7,if_neg h8,if_neg h9,if_neg h10,if_neg h11,if_neg h12] at h
 cases h
theorem rows_succ {j : Nat} {L t : List Int} {rest : List (List Int)} (h : PyFlat.rows (j + 1) L = some (rest,t)) : ∃ z L' rest',L = z :: L' /\ 0 <= z /\ z.toNat <= L'.length /\ rest = L'.take z.toNat :: rest' /\ PyFlat.rows j (L'.drop z.toNat) = some (rest',t) := by
 cases L with
 | nil => simp [PyFlat.rows,PyFlat.row] at h
 | cons z L' =>
  have h : (match PyFlat.row (z :: L') with
   | none => none
   | some (x,s) => match PyFlat.rows j s with
    | none => none
    | some (xs,t) => some (x :: xs,t)) = some (rest,t) := h
  by_cases hz : 0 <= z /\ z.toNat <= L'.length
  ·rw [show PyFlat.row (z :: L') = some (L'.take z.toNat,L'.drop z.toNat) from if_pos hz] at h
   have h : (match PyFlat.rows j (L'.drop z.toNat) with
    | none => none
    | some (xs,t) => some (L'.take z.toNat :: xs,t)) = some (rest,t) := h
   cases e : PyFlat.rows j (L'.drop z.toNat) with
   | none => rw [e] at h; cases h
   | some q =>
    obtain ⟨xs,t'⟩ := q
    rw [e] at h
    have h : some (L'.take z.toNat :: xs,t') = some (rest,t) := h
    injection h with h
    injection h with h1 h2
    exact ⟨z,L',xs,rfl,hz.1,hz.2,h1.symm,by rw [<- h2]; exact e⟩
  ·rw [show PyFlat.row (z :: L') = none from if_neg hz] at h
   cases h
theorem rows_len : ∀ {j : Nat} {L t : List Int} {rest : List (List Int)},PyFlat.rows j L = some (rest,t) -> rest.length = j
 | 0,L,t,rest,h => by
  have h : some (([] : List (List Int)),L) = some (rest,t) := h
  injection h with h
  injection h with h1 h2
  rw [<- h1]; rfl
 | j + 1,L,t,rest,h => by
  obtain ⟨z,L',rest',_,_,_,e,h'⟩ := rows_succ h
  rw [e,List.length_cons,rows_len h']
def PartO (a : Addr) (o : Int ⊕ List Int) : VP := OffV a (PartV o)
theorem part_mu {a : Addr} {H H' : Hp} {v : V} {o : Int ⊕ List Int} (m : MuL a H H') (h : PartO a o H v) : PartO a o H' v := by
 cases o with
 | inl i => exact h
 | inr l =>
  obtain ⟨h1,n⟩ := h
  have h1 : IntsV l H v := h1
  obtain ⟨b,rfl,hb⟩ := h1.get
  exact ⟨IntsV.mk (m.keep b _ (fun e => n (by rw [e])) hb),n⟩
def partsOf (nums : List Int) (rows : List (List Int)) : List (Int ⊕ List Int) := nums.map .inl ++ rows.map .inr
theorem ints_parts {H : Hp} {a : Addr} : ∀ (l : List Int),All2 (fun u o => PartO a o H u) (l.map V.int) (l.map Sum.inl)
 | [] => .nil
 | z :: l => .cons ⟨rfl,by intro e; cases e⟩ (ints_parts l)
structure RcI where
 l : List Int
 st : Nat
 p : Int
 r : List Int
 n : Nat
 k : Nat
 xs : List (List Int)
 t : List Int
def sp_read_call (K : PySem.W.Frag) : Sp := spA (ι := RcI) (fun i => [SqV K i.l,IntV (i.st : Int)]) (fun i => i.l.drop i.st = i.p :: i.r /\ PyVbchal.shape i.p = some (i.n,i.k) /\ i.n <= i.r.length /\ PyFlat.rows i.k (i.r.drop i.n) = some (i.xs,i.t))
 (fun i => PairV (LsV PartV (partsOf (i.r.take i.n) i.xs)) (IntV ((i.l.length - i.t.length : Nat) : Int)))
theorem shape_small {p : Int} {n k : Nat} (h : PyVbchal.shape p = some (n,k)) : n <= 5 /\ k <= 2 := by
 by_cases h0 : p = 0
 ·subst h0
  have h : some (3,2) = some (n,k) := h
  injection h with h
  injection h with e1 e2
  subst e1 e2
  decide
 by_cases h1 : p = 1
 ·subst h1
  have h : some (1,2) = some (n,k) := h
  injection h with h
  injection h with e1 e2
  subst e1 e2
  decide
 by_cases h2 : p = 2
 ·subst h2
  have h : some (2,0) = some (n,k) := h
  injection h with h
  injection h with e1 e2
  subst e1 e2
  decide
 by_cases h3 : p = 3
 ·subst h3
  have h : some (3,0) = some (n,k) := h
  injection h with h
  injection h with e1 e2
  subst e1 e2
  decide
 by_cases h4 : p = 4
 ·subst h4
  have h : some (4,0) = some (n,k) := h
  injection h with h
  injection h with e1 e2
  subst e1 e2
  decide
 by_cases h5 : p = 5
 ·subst h5
  have h : some (3,0) = some (n,k) := h
  injection h with h
  injection h with e1 e2
  subst e1 e2
  decide
 by_cases h6 : p = 6
 ·subst h6
  have h : some (2,0) = some (n,k) := h
  injection h with h
  injection h with e1 e2
  subst e1 e2
  decide
 by_cases h7 : p = 7
 ·subst h7
  have h : some (5,0) = some (n,k) := h
  injection h with h
  injection h with e1 e2
  subst e1 e2
  decide
 by_cases h8 : p = 8
 ·subst h8
  have h : some (2,1) = some (n,k) := h
  injection h with h
  injection h with e1 e2
  subst e1 e2
  decide
 by_cases h9 : p = 9
 ·subst h9
  have h : some (2,1) = some (n,k) := h
  injection h with h
  injection h with e1 e2
  subst e1 e2
  decide
 by_cases h10 : p = 10
 ·subst h10
  have h : some (4,0) = some (n,k) := h
  injection h with h
  injection h with e1 e2
  subst e1 e2
  decide
 by_cases h11 : p = 11
 ·subst h11
  have h : some (1,0) = some (n,k) := h
  injection h with h
  injection h with e1 e2
  subst e1 e2
  decide
 by_cases h12 : p = 12
 ·subst h12
  have h : some (1,0) = some (n,k) := h
  injection h with h
  injection h with e1 e2
  subst e1 e2
  decide
 exfalso
 unfold PyVbchal.shape at h
 rw [if_neg h0,if_neg h1,if_neg h2,if_neg h3,if_neg h4,if_neg h5,if_neg h6,if_neg h7,if_neg h8,if_neg h9,if_neg h10,if_neg h11,if_neg h12] at h
 cases h
theorem ok_read_call (T : Txt K mg A) : FnOk P w K mg base CX0 1 A.f_read_call A.d_read_call p_read_call (sp_read_call K) := by
 refine T.F_read_call.ok sc_read_call (spA_len fun _ => rfl) fun cdv Ao outer s H vs Q E hr hsp => ?_
 obtain ⟨⟨l,st,p,r,n,k,xs,t⟩,⟨v1,_,rfl,h1,v2,_,rfl,h2,rfl⟩,⟨hd,hs,hn,hx⟩,q⟩ := hsp
 cases h2
 have h1 : SqV K l H v1 := h1
 have hd : l.drop st = p :: r := hd
 have hs : PyVbchal.shape p = some (n,k) := hs
 have hn : n <= r.length := hn
 have hx : PyFlat.rows k (r.drop n) = some (xs,t) := hx
 have q : ∀ v H',Same H H' -> PairV (LsV PartV (partsOf (r.take n) xs)) (IntV ((l.length - t.length : Nat) : Int)) H' v -> Q v H' := q
 refine ⟨_,(pss_cons (ps_set (i := 2) sc_read_call.nd rfl (Or.inl rfl) (pe_ix ix_tup (pe_glob rfl T.g_FORMS T.r_FORMS) (pe_ix ix_list (pv 0) (pv 1) (fun _ _ => rfl)) (fun _ _ => rfl)))
   (pss_cons (ps_set (i := 3) sc_read_call.nd rfl (Or.inl rfl) (pe_op op_add (pe_op op_add (pv 1) pe_int) (pe_ix ix_tup (pv 2) pe_int (fun _ _ => rfl))))
   (pss_cons (ps_set (i := 4) sc_read_call.nd rfl (Or.inl rfl) (pe_slice sl_list (pv 0) (po_some (pe_op op_add (pv 1) pe_int)) (po_some (pv 3))))
   (pss_cons (ps_for PassesOwn.never rfl (pi_range1 rfl T.n_range (pa_cons (pe_ix ix_tup (pv 2) pe_int (fun _ _ => rfl)) pa_nil)) (pg_name (i := 5) sc_read_call.nd rfl (Or.inl rfl)) (pss_cons (ps_set (i := 6) sc_read_call.nd rfl (Or.inl rfl) (pe_op op_add (pe_op op_add (pv 3) pe_int) (pe_ix ix_list (pv 0) (pv 3) (fun _ _ => rfl))))
   (pss_cons (ps_expr (pe_bm PySem.F.plainAttrs_list PySem.F.slot_list_append PySem.F.type_list_append mt_append (pv 4) (pa_cons (pe_slice sl_list (pv 0) (po_some (pe_op op_add (pv 3) pe_int)) (po_some (pv 6))) pa_nil)))
   (pss_one (ps_set (i := 3) sc_read_call.nd rfl (Or.inl rfl) (pv 6))))))
   (pss_one (ps_ret (pe_tup (pa_cons (pv 4) (pa_cons (pv 3) pa_nil))))))))),?_⟩
 obtain ⟨i,f,ep,hf⟩ := shape_forms (A := A) hs
 obtain ⟨hn5,hk2⟩ := shape_small hs
 have hlen : st + 1 + r.length = l.length := by
  have := congrArg List.length hd
  rw [List.length_drop,List.length_cons] at this
  omega
 have hp : l[st]? = some p := by
  have := congrArg List.head? hd
  rw [List.head?_drop] at this
  exact this
 have hr' : l.drop (st + 1) = r := by
  rw [<- List.drop_drop,hd]
  rfl
 refine s_set (y_form T hf ((y_ixS (y_var rfl h1) (y_var (P := IntV st) rfl rfl) (atI_nat hp)).eq (congrArg V.int ep))) fun vf H2 s2 h2 => ?_
 refine s_set ((y_rI0 (y_rI0 (y_var (P := IntV st) rfl rfl) y_c) (y_f0 (y_var rfl h2))).eq (by show V.int _ = V.int ((st + 1 + n : Nat) : Int); congr 1)) fun v3 H3 s3 e3 => ?_
 cases e3
 refine s_set (y_slS (lo := st + 1) (hi := st + 1 + n) (by omega) (by omega) (y_var rfl (Mono.up (s2.trans s3) h1)) ((y_rI0 (y_var (P := IntV st) rfl rfl) y_c).eq (by rfl)) (y_var (P := IntV ((st + 1 + n : Nat) : Int)) rfl rfl)) fun v4 H4 s4 h4 => ?_
 obtain ⟨h4,a,rfl,na⟩ := h4
 have e4 : (l.drop (st + 1)).take (st + 1 + n - (st + 1)) = r.take n := by rw [hr']; congr 1; omega
 rw [e4] at h4
 obtain ⟨a',ea',h4⟩ := IntsV.get h4
 cases ea'
 have s04 := s2.trans (s3.trans s4)
 have na0 : H a = Option.none := (s2.trans s3).free na
 have h24 : FormV K (n : Int) (k : Int) f H4 vf := h2
 refine s_forR (n := k) (y_f1 (y_var rfl h24)) (lt62 (by omega))
  (fun m σ H' => ∃ (pl : Nat) (dn rest : List (List Int)) (vr vb : Option V),σ = [some v1,some (.int st),some vf,some (.int pl),some (.ref a),vr,vb] /\ Same H H' /\ xs = dn ++ rest /\ dn.length = m /\ PyFlat.rows (k - m) (l.drop pl) = some (rest,t) /\ pl <= l.length /\
   ∃ vs,H' a = some (.lst vs) /\ All2 (fun u o => PartO a o H' u) vs (partsOf (r.take n) dn)) ?_ ?_ ?_
 ·intro H' s'
  refine ⟨st + 1 + n,[],xs,none,none,rfl,s04.trans s',rfl,rfl,?_,by omega,_,s' _ _ h4,?_⟩
  ·rw [<- List.drop_drop,hr']
   exact hx
  ·unfold partsOf
   rw [List.map_nil,List.append_nil]
   exact ints_parts _
 ·rintro m σ H' hm ⟨pl,dn,rest,vr,vb,rfl,sH,ex,hdn,hrows,hpl,vs,ev,fv⟩
  have ek : k - m = (k - (m + 1)) + 1 := by omega
  rw [ek] at hrows
  obtain ⟨z,L',rest',eL,hz0,hz,er,hrows'⟩ := rows_succ hrows
  have hzp : l[pl]? = some z := by
   have := congrArg List.head? eL
   rw [List.head?_drop] at this
   exact this
  have eL' : l.drop (pl + 1) = L' := by
   rw [<- List.drop_drop,eL]
   rfl
  have lL : pl + 1 + L'.length = l.length := by
   have := congrArg List.length eL
   rw [List.length_drop,List.length_cons] at this
   omega
  have h1' : SqV K l H' v1 := Mono.up sH h1
  show tSeq _ _ _ [some v1,some (V.int st),some vf,some (V.int pl),some (V.ref a),some (V.int (m : Int)),vb] H'
  refine s_set ((y_rI0 (y_rI0 (y_var (P := IntV pl) rfl rfl) y_c) (y_ixS (y_var rfl h1') (y_var (P := IntV pl) rfl rfl) (atI_nat hzp))).eq (by show V.int ((pl : Int) + 1 + z) = V.int ((pl + 1 + z.toNat : Nat) : Int); congr 1; omega)) fun v6 H6 s6 e6 => ?_
  cases e6
  have lv := fv.len
  unfold partsOf at lv
  rw [List.length_append,List.length_map,List.length_map,List.length_take] at lv
  refine s_append rfl (s6 _ _ ev) (by exact Nat.lt_of_le_of_lt (m := 1000) (by omega) (by decide)) (y_slS (lo := pl + 1) (hi := pl + 1 + z.toNat) (by omega) (by omega) (y_var rfl (Mono.up s6 h1')) ((y_rI0 (y_var (P := IntV pl) rfl rfl) y_c).eq (by rfl)) (y_var (P := IntV ((pl + 1 + z.toNat : Nat) : Int)) rfl rfl)) fun v7 H7 s7 h7 => ?_
  have e7 : (l.drop (pl + 1)).take (pl + 1 + z.toNat - (pl + 1)) = L'.take z.toNat := by rw [eL']; congr 1; omega
  rw [e7] at h7
  have ev7 := s7 _ _ (s6 _ _ ev)
  have mu : MuL a H7 (upd H7 a (.lst (vs ++ [v7]))) := MuL.upd ev7
  refine s_set1 (y_var (P := IntV ((pl + 1 + z.toNat : Nat) : Int)) rfl rfl) fun v8 H8 s8 e8 => ?_
  cases e8
  refine ⟨pl + 1 + z.toNat,dn ++ [L'.take z.toNat],rest',_,_,rfl,((sH.trans (s6.trans s7)).mu na0).trans s8,?_,by simp; omega,?_,by omega,_,s8 _ _ upd_same,?_⟩
  ·rw [ex,er,List.append_assoc]; rfl
  ·rw [<- List.drop_drop,eL']; exact hrows'
  ·unfold partsOf
   rw [List.map_append,<- List.append_assoc]
   refine (fv.imp fun u o h => ?_).append (.one ?_)
   ·have := part_mu mu (⟨Mono.up (s6.trans s7) h.1,h.2⟩ : PartO a o H7 u)
    exact ⟨Mono.up s8 this.1,this.2⟩
   ·have := part_mu (o := .inr (L'.take z.toNat)) mu ⟨h7.1,h7.2.off (s6 _ _ ev)⟩
    exact ⟨Mono.up s8 this.1,this.2⟩
 ·rintro σ H' ⟨pl,dn,rest,vr,vb,rfl,sH,ex,hdn,hrows,hpl,vs,ev,fv⟩
  rw [Nat.sub_self] at hrows
  have hrows : some (([] : List (List Int)),l.drop pl) = some (rest,t) := hrows
  injection hrows with hrows
  injection hrows with e1 e2
  have e1 : rest = [] := e1.symm
  subst e1
  rw [List.append_nil] at ex
  subst ex
  have ep : l.length - t.length = pl := by rw [<- e2,List.length_drop]; omega
  refine s_ret (y_pair (P := LsV PartV (partsOf (r.take n) xs)) (y_var rfl ⟨a,vs,rfl,ev,fv.imp fun _ _ h => h.1⟩) (y_var (P := IntV pl) rfl rfl)) fun v H5 s5 h => q v H5 (sH.trans s5) ?_
  rw [ep]
  exact h
def spAnsC (A : Adr) (lim : Nat) (c : Vbchal.Call) (pt : List (Int ⊕ List Int)) : Sp := fun vs H Q _ => ∃ (bk dx cl : Addr) (s : PSt) (pv : V),vs = [.ref bk,pv] /\ BookAt A bk dx cl s H /\ PSok s /\ LsV PartV pt H pv /\
 ∀ r H' cl' s',(∀ b o,b ≠ bk -> b ≠ cl -> H b = some o -> H' b = some o) -> (cl' = cl \/ H cl' = Option.none) -> BookAt A bk dx cl' s' H' -> PSok s' -> s'.st = (Vbchal.step s.st c).1 -> IntsV (Vbchal.step s.st c).2 H' r -> NewV H H' r -> (Vbchal.step s.st c).2.length <= lim -> Q r H'
def BP : List Str := ["book","parts"]
section
variable {α : Type} {M : List α -> Prop}
theorem a0 (h : M []) : ∀ u : List α,u.length = 0 -> M u
 | [],_ => h
theorem aS {n : Nat} (h : ∀ a u,u.length = n -> M (a :: u)) : ∀ u : List α,u.length = n + 1 -> M u
 | a :: u,e => h a u (Nat.succ.inj e)
theorem a1 (h : ∀ a,M [a]) : ∀ u : List α,u.length = 1 -> M u := aS fun a => a0 (h a)
theorem a2 (h : ∀ a b,M [a,b]) : ∀ u : List α,u.length = 2 -> M u := aS fun a => a1 (h a)
theorem a3 (h : ∀ a b c,M [a,b,c]) : ∀ u : List α,u.length = 3 -> M u := aS fun a => a2 (h a)
theorem a4 (h : ∀ a b c d,M [a,b,c,d]) : ∀ u : List α,u.length = 4 -> M u := aS fun a => a3 (h a)
theorem a5 (h : ∀ a b c d e,M [a,b,c,d,e]) : ∀ u : List α,u.length = 5 -> M u := aS fun a => a4 (h a)
theorem a6 (h : ∀ a b c d e f,M [a,b,c,d,e,f]) : ∀ u : List α,u.length = 6 -> M u := aS fun a => a5 (h a)
end
theorem pick {p q : Int} {z : Option (Nat × Nat)} {a b n k : Nat} {G : Prop} (hs : (if p = q then some (a,b) else z) = some (n,k)) (h1 : p = q -> a = n -> b = k -> G) (h2 : z = some (n,k) -> G) : G := by
 by_cases e : p = q
 ·rw [if_pos e] at hs; cases hs; exact h1 e rfl rfl
 ·rw [if_neg e] at hs; exact h2 hs
theorem forms {M : Int -> List Int -> List (List Int) -> Prop} (h0 : ∀ a b c x y,M 0 [a,b,c] [x,y]) (h1 : ∀ a x y,M 1 [a] [x,y]) (h2 : ∀ a b,M 2 [a,b] []) (h3 : ∀ a b c,M 3 [a,b,c] []) (h4 : ∀ a b c d,M 4 [a,b,c,d] []) (h5 : ∀ a b c,M 5 [a,b,c] []) (h6 : ∀ a b,M 6 [a,b] []) (h7 : ∀ a b c d e,M 7 [a,b,c,d,e] []) (h8 : ∀ a b x,M 8 [a,b] [x]) (h9 : ∀ a b x,M 9 [a,b] [x]) (h10 : ∀ a b c d,M 10 [a,b,c,d] []) (h11 : ∀ a,M 11 [a] []) (h12 : ∀ a,M 12 [a] []) {p : Int} {u : List Int} {v : List (List Int)} {n k : Nat} (hs : PyVbchal.shape p = some (n,k)) (hu : u.length = n) (hv : v.length = k) : M p u v := by
 unfold PyVbchal.shape at hs
 refine pick hs (fun e ea eb => ?_) fun hs => ?_
 ·subst e ea eb; exact a3 (M := (M 0 · v)) (fun a b c => a2 (h0 a b c) v hv) u hu
 refine pick hs (fun e ea eb => ?_) fun hs => ?_
 ·subst e ea eb; exact a1 (M := (M 1 · v)) (fun a => a2 (h1 a) v hv) u hu
 refine pick hs (fun e ea eb => ?_) fun hs => ?_
 ·subst e ea eb; exact a2 (M := (M 2 · v)) (fun a b => a0 (h2 a b) v hv) u hu
 refine pick hs (fun e ea eb => ?_) fun hs => ?_
 ·subst e ea eb; exact a3 (M := (M 3 · v)) (fun a b c => a0 (h3 a b c) v hv) u hu
 refine pick hs (fun e ea eb => ?_) fun hs => ?_
 ·subst e ea eb; exact a4 (M := (M 4 · v)) (fun a b c d => a0 (h4 a b c d) v hv) u hu
 refine pick hs (fun e ea eb => ?_) fun hs => ?_
 ·subst e ea eb; exact a3 (M := (M 5 · v)) (fun a b c => a0 (h5 a b c) v hv) u hu
 refine pick hs (fun e ea eb => ?_) fun hs => ?_
 ·subst e ea eb; exact a2 (M := (M 6 · v)) (fun a b => a0 (h6 a b) v hv) u hu
 refine pick hs (fun e ea eb => ?_) fun hs => ?_
 ·subst e ea eb; exact a5 (M := (M 7 · v)) (fun a b c d e => a0 (h7 a b c d e) v hv) u hu
 refine pick hs (fun e ea eb => ?_) fun hs => ?_
 ·subst e ea eb; exact a2 (M := (M 8 · v)) (fun a b => a1 (h8 a b) v hv) u hu
 refine pick hs (fun e ea eb => ?_) fun hs => ?_
 ·subst e ea eb; exact a2 (M := (M 9 · v)) (fun a b => a1 (h9 a b) v hv) u hu
 refine pick hs (fun e ea eb => ?_) fun hs => ?_
 ·subst e ea eb; exact a4 (M := (M 10 · v)) (fun a b c d => a0 (h10 a b c d) v hv) u hu
 refine pick hs (fun e ea eb => ?_) fun hs => ?_
 ·subst e ea eb; exact a1 (M := (M 11 · v)) (fun a => a0 (h11 a) v hv) u hu
 refine pick hs (fun e ea eb => ?_) fun hs => ?_
 ·subst e ea eb; exact a1 (M := (M 12 · v)) (fun a => a0 (h12 a) v hv) u hu
 cases hs
theorem ansC {ι : Type} {lim lv : Nat} {mk : ι -> Vbchal.Call} {pt : ι -> List (Int ⊕ List Int)} {B : ι -> Prop} {f : Addr} {fd : FuncData} (ok : FnOk P w K mg base CX0 lv f fd BP (spAns A lim mk pt B)) (h : lv <= 10) (i : ι) (b : B i) : FnOk P w K mg base CX0 10 f fd BP (spAnsC A lim (mk i) (pt i)) :=
 (ok.mono h).imp fun vs H Q E ⟨bk,dx,cl,s,vp,e,bb,o,hp,q⟩ => ⟨bk,dx,cl,s,vp,i,e,bb,o,hp,b,q⟩
def DispOk (P : Program) (w : World) (K : PySem.W.Frag) (mg : Str -> Option Value) (base : Heap) (A : Adr) (p : Int) (nums : List Int) (rows : List (List Int)) : Prop := VbchalNeutral.asked1 ((p :: nums) :: rows) = true ->
  ∃ (call : Vbchal.Call) (i : Nat) (n k : Int) (f : Addr) (fd : FuncData) (lim : Nat),VbchalNeutral.callOf ((p :: nums) :: rows) = some call /\ p = (i : Int) /\ (formsOf A)[i]? = some (n,k,f) /\ FnOk P w K mg base CX0 10 f fd BP (spAnsC A lim call (partsOf nums rows)) /\
   PySem.W.keepIn K (.ref f) = true /\ Binds K fd BP [] /\ lim + 1 <= (if VbchalNeutral.isPoints ((p :: nums) :: rows) = true then 123801 else 0) + 10001
theorem disp (T : Txt K mg A) {p : Int} {nums : List Int} {rows : List (List Int)} {n k : Nat} (hs : PyVbchal.shape p = some (n,k)) (hu : nums.length = n) (hv : rows.length = k) : DispOk P w K mg base A p nums rows := by
 refine forms (M := DispOk P w K mg base A) ?_ ?_ ?_ ?_ ?_ ?_ ?_ ?_ ?_ ?_ ?_ ?_ ?_ hs hu hv
 ·intro a b c x y h
  have h : (_ && (_ && (_ && ((_ && decide (x.length <= 16)) && (_ && decide (y.length <= 16)))))) = true := h
  simp only [Bool.and_eq_true,decide_eq_true_iff] at h
  exact ⟨_,0,_,_,_,_,10000,rfl,rfl,rfl,ansC (ok_answer_tree T) (by decide) (a,b,c,x,y) ⟨by show x.length <= 100; omega,by show y.length <= 100; omega⟩,T.F_answer_tree.kp,T.b_answer_tree,Nat.le_add_left _ _⟩
 ·intro a x y h
  have h : (_ && ((_ && decide (x.length <= 16)) && (_ && decide (y.length <= 16)))) = true := h
  simp only [Bool.and_eq_true,decide_eq_true_iff] at h
  exact ⟨_,1,_,_,_,_,10000,rfl,rfl,rfl,ansC (ok_answer_claim T) (by decide) (a,x,y) ⟨by show x.length <= 100; omega,by show y.length <= 100; omega⟩,T.F_answer_claim.kp,T.b_answer_claim,Nat.le_add_left _ _⟩
 ·intro a b h
  exact ⟨_,2,_,_,_,_,10000,rfl,rfl,rfl,ansC (ok_answer_turn T) (by decide) (a,b) trivial,T.F_answer_turn.kp,T.b_answer_turn,Nat.le_add_left _ _⟩
 ·intro a b c h
  exact ⟨_,3,_,_,_,_,10000,rfl,rfl,rfl,ansC (ok_answer_sum T) (by decide) (a,b,c) trivial,T.F_answer_sum.kp,T.b_answer_sum,Nat.le_add_left _ _⟩
 ·intro a b c d h
  exact ⟨_,4,_,_,_,_,10000,rfl,rfl,rfl,ansC (ok_answer_least T) (by decide) (a,b,c,d) trivial,T.F_answer_least.kp,T.b_answer_least,Nat.le_add_left _ _⟩
 ·intro a b c h
  exact ⟨_,5,_,_,_,_,123800,rfl,rfl,rfl,ansC (ok_answer_points T) (by decide) (a,b,c) trivial,T.F_answer_points.kp,T.b_answer_points,(by show 123801 <= 123801 + 10001; decide)⟩
 ·intro a b h
  exact ⟨_,6,_,_,_,_,10000,rfl,rfl,rfl,ansC (ok_answer_range T) (by decide) (a,b) trivial,T.F_answer_range.kp,T.b_answer_range,Nat.le_add_left _ _⟩
 ·intro a b c d e h
  exact ⟨_,7,_,_,_,_,10000,rfl,rfl,rfl,ansC (ok_answer_plan T) (by decide) (a,b,c,d,e) trivial,T.F_answer_plan.kp,T.b_answer_plan,Nat.le_add_left _ _⟩
 ·intro a b x h
  have h : (_ && (_ && (_ && decide (x.length <= 16)))) = true := h
  simp only [Bool.and_eq_true,decide_eq_true_iff] at h
  exact ⟨_,8,_,_,_,_,10000,rfl,rfl,rfl,ansC (ok_answer_walk T) (by decide) (a,b,x) (by show x.length <= 100; omega),T.F_answer_walk.kp,T.b_answer_walk,Nat.le_add_left _ _⟩
 ·intro a b x h
  have h : (_ && (_ && (_ && decide (x.length <= 16)))) = true := h
  simp only [Bool.and_eq_true,decide_eq_true_iff] at h
  exact ⟨_,9,_,_,_,_,10000,rfl,rfl,rfl,ansC (ok_answer_held T) (by decide) (a,b,x) (by show x.length <= 100; omega),T.F_answer_held.kp,T.b_answer_held,Nat.le_add_left _ _⟩
 ·intro a b c d h
  exact ⟨_,10,_,_,_,_,10000,rfl,rfl,rfl,ansC (ok_answer_enough T) (by decide) (a,b,c,d) trivial,T.F_answer_enough.kp,T.b_answer_enough,Nat.le_add_left _ _⟩
 ·intro a h
  exact ⟨_,11,_,_,_,_,10000,rfl,rfl,rfl,ansC (ok_answer_quotes T) (by decide) a trivial,T.F_answer_quotes.kp,T.b_answer_quotes,Nat.le_add_left _ _⟩
 ·intro a h
  exact ⟨_,12,_,_,_,_,10000,rfl,rfl,rfl,ansC (ok_answer_told T) (by decide) a trivial,T.F_answer_told.kp,T.b_answer_told,Nat.le_add_left _ _⟩
theorem call_is {p : Int} {r t : List Int} {c : List (List Int)} (h : PyFlat.call PyVbchal.shape (p :: r) = some (c,t)) : ∃ n k xs,PyVbchal.shape p = some (n,k) /\ n <= r.length /\ PyFlat.rows k (r.drop n) = some (xs,t) /\ c = (p :: r.take n) :: xs := by
 have h : (match PyVbchal.shape p with
  | none => none
  | some (n,k) => if r.length < n then none else match PyFlat.rows k (r.drop n) with
   | none => none
   | some (xs,t) => some ((p :: r.take n) :: xs,t)) = some (c,t) := h
 cases hs : PyVbchal.shape p with
 | none => rw [hs] at h; cases h
 | some q =>
  obtain ⟨n,k⟩ := q
  rw [hs] at h
  have h : (if r.length < n then none else match PyFlat.rows k (r.drop n) with
   | none => none
   | some (xs,t) => some ((p :: r.take n) :: xs,t)) = some (c,t) := h
  by_cases hl : r.length < n
  ·rw [if_pos hl] at h; cases h
  ·rw [if_neg hl] at h
   cases e : PyFlat.rows k (r.drop n) with
   | none => rw [e] at h; cases h
   | some z =>
    obtain ⟨xs,t'⟩ := z
    rw [e] at h
    have h : some ((p :: r.take n) :: xs,t') = some (c,t) := h
    injection h with h
    injection h with h1 h2
    subst h2
    exact ⟨n,k,xs,rfl,by omega,e,h1.symm⟩
theorem calls_is {fu : Nat} {L : List Int} {cs : List (List (List Int))} (h : PyFlat.calls PyVbchal.shape fu L = some cs) : (L = [] /\ cs = []) \/ ∃ p r c t cs' f',L = p :: r /\ PyFlat.call PyVbchal.shape (p :: r) = some (c,t) /\ PyFlat.calls PyVbchal.shape f' t = some cs' /\ cs = c :: cs' := by
 cases L with
 | nil =>
  left
  cases fu <;> (have h : some ([] : List (List (List Int))) = some cs := h; injection h with h; exact ⟨rfl,h.symm⟩)
 | cons p r =>
  right
  cases fu with
  | zero => exact absurd (show (none : Option (List (List (List Int)))) = some cs from h) (by simp)
  | succ f =>
   have h : (match PyFlat.call PyVbchal.shape (p :: r) with
    | none => none
    | some (c,t) => match PyFlat.calls PyVbchal.shape f t with
     | none => none
     | some cs => some (c :: cs)) = some cs := h
   cases e : PyFlat.call PyVbchal.shape (p :: r) with
   | none => rw [e] at h; cases h
   | some q =>
    obtain ⟨c,t⟩ := q
    rw [e] at h
    have h : (match PyFlat.calls PyVbchal.shape f t with
     | none => none
     | some cs => some (c :: cs)) = some cs := h
    cases e2 : PyFlat.calls PyVbchal.shape f t with
    | none => rw [e2] at h; cases h
    | some cs' =>
     rw [e2] at h
     have h : some (c :: cs') = some cs := h
     injection h with h
     exact ⟨p,r,c,t,cs',f,rfl,e,e2,h.symm⟩
theorem rows_suffix : ∀ {j : Nat} {L t : List Int} {rest : List (List Int)},PyFlat.rows j L = some (rest,t) -> ∃ m,m <= L.length /\ t = L.drop m
 | 0,L,t,rest,h => by
  have h : some (([] : List (List Int)),L) = some (rest,t) := h
  injection h with h
  injection h with h1 h2
  exact ⟨0,Nat.zero_le _,by rw [<- h2]; rfl⟩
 | j + 1,L,t,rest,h => by
  obtain ⟨z,L',rest',rfl,_,hz,_,h'⟩ := rows_succ h
  obtain ⟨m,hm,e⟩ := rows_suffix h'
  rw [List.length_drop] at hm
  refine ⟨z.toNat + m + 1,by rw [List.length_cons]; omega,?_⟩
  rw [e,List.drop_drop]
  rfl
theorem whole_map : ∀ {cs : List (List (List Int))} {fu : Nat} {L : List Int},PyFlat.calls PyVbchal.shape fu L = some cs -> cs.map PyVbchal.whole = cs
 | [],_,_,_ => rfl
 | c :: cs,_,_,h => by
  rcases calls_is h with ⟨_,e⟩ | ⟨p,r,c',t,cs',f',_,hc,hcs,e⟩
  ·cases e
  ·cases e
   obtain ⟨n,k,xs,hs,hn,hr,rfl⟩ := call_is hc
   rw [List.map_cons,whole_map hcs,forms (M := fun p u v => PyVbchal.whole ((p :: u) :: v) = (p :: u) :: v) (fun _ _ _ _ _ => rfl) (fun _ _ _ => rfl) (fun _ _ => rfl) (fun _ _ _ => rfl) (fun _ _ _ _ => rfl) (fun _ _ _ => rfl) (fun _ _ => rfl) (fun _ _ _ _ _ => rfl) (fun _ _ _ => rfl) (fun _ _ _ => rfl) (fun _ _ _ _ => rfl) (fun _ => rfl) (fun _ => rfl) hs (List.length_take_of_le hn) (rows_len hr)]
theorem told_cons (a : List Int) (l : List (List Int)) : PyFlat.told (a :: l) = (a.length : Int) :: (a ++ PyFlat.told l) := rfl
def wt (cs : List (List (List Int))) : Nat := (cs.filter VbchalNeutral.isPoints).length * 123801 + cs.length * 10001
theorem wt_cons (c : List (List Int)) (cs : List (List (List Int))) : wt (c :: cs) = (if VbchalNeutral.isPoints c = true then 123801 else 0) + 10001 + wt cs := by
 unfold wt
 rw [List.filter_cons,List.length_cons,Nat.succ_mul]
 split
 ·rw [List.length_cons,Nat.succ_mul]; omega
 ·omega
section
variable {H0 H : Hp} {σ : L2.St} {te ta tb : TE} {D : Ends} {u : TS} {i : Nat} {a : Addr} {vs : List V}
theorem s_extend {l : List Int} (e : σ[i]? = some (some (.ref a))) (ha : H a = some (.lst vs)) (hz : vs.length + l.length <= sizeLine) (h : Yd H te σ (IntsV l)) (k : ∀ H',Same H H' -> u D σ (upd H' a (.lst (vs ++ l.map V.int)))) :
  tSeq (tDrop (tBM K "list" rExtend (tVar i) (tCons te tNil))) u D σ H :=
 ⟨_,e,.inl ⟨rfl,vs,SqL.of ha⟩,h H _ (Same.refl H) fun v H' s' hv => by
  obtain ⟨b,rfl,hb⟩ := IntsV.get hv
  exact ⟨a,b,vs,_,rfl,rfl,s' _ _ ha,hb,by rw [List.length_map]; exact hz,k H' s'⟩⟩
end
def del (g : Addr) (H : Hp) : Hp := fun b => if b = g then Option.none else H b
theorem del_ne {g b : Addr} {H : Hp} {o : HO} (h : del g H b = some o) : b ≠ g /\ H b = some o := by
 unfold del at h
 by_cases e : b = g
 ·rw [if_pos e] at h; cases h
 ·rw [if_neg e] at h; exact ⟨e,h⟩
theorem del_of {g b : Addr} {H : Hp} {o : HO} (n : b ≠ g) (h : H b = some o) : del g H b = some o := by
 unfold del
 rw [if_neg n]; exact h
theorem del_up {g : Addr} {H H' : Hp} (s : Same H H') : Same (del g H) H' := fun b o h => s b o (del_ne h).2
theorem del_del {g : Addr} {H H' : Hp} (s : Same (del g H) H') : Same (del g H) (del g H') := fun b o h => del_of (del_ne h).1 (s b o h)
theorem del_upd {g : Addr} {H H' : Hp} {o : HO} (s : Same (del g H) H') : Same (del g H) (upd H' g o) := fun b o' h => by
 rw [upd_ne (del_ne h).1]; exact s b o' h
def Nf (H H' : Hp) : Prop := ∀ b o,(∀ x y,o ≠ HO.frz x y) -> H b = some o -> H' b = some o
theorem nf_del {g : Addr} {H : Hp} {x : Obj} {y : HO} (h : H g = some (.frz x y)) : Nf H (del g H) := fun b o n e => del_of (fun z => by rw [z,h] at e; exact n x y (Option.some.inj e).symm) e
class NfV (P : VP) : Prop where
 nf : ∀ {H H' : Hp} {v : V},Nf H H' -> P H v -> P H' v
theorem Nf.tup {H H' : Hp} (n : Nf H H') {b : Addr} {xs : List V} (h : H b = some (.tup xs)) : H' b = some (.tup xs) := n b _ (fun _ _ z => by cases z) h
theorem Nf.lst {H H' : Hp} (n : Nf H H') {b : Addr} {xs : List V} (h : H b = some (.lst xs)) : H' b = some (.lst xs) := n b _ (fun _ _ z => by cases z) h
theorem Nf.ins {H H' : Hp} (n : Nf H H') {b C dx : Addr} {fs : List (Str × V)} (h : H b = some (.ins C dx fs)) : H' b = some (.ins C dx fs) := n b _ (fun _ _ z => by cases z) h
instance (u : V) : NfV (EqV u) := ⟨fun _ h => h⟩
instance (x : Frac) : NfV (FrV x) := ⟨fun n ⟨a,e,h⟩ => ⟨a,e,n.tup h⟩⟩
theorem all_nf {β : Type} {F : β -> VP} [i : ∀ x,NfV (F x)] {H H' : Hp} {vs : List V} {l : List β} (s : Nf H H') (h : All2 (fun u x => F x H u) vs l) : All2 (fun u x => F x H' u) vs l := All2.imp (F := fun u x => F x H u) (G := fun u x => F x H' u) (fun u x q => (i x).nf s q) h
instance {β : Type} {F : β -> VP} [∀ x,NfV (F x)] (l : List β) : NfV (LsV F l) := ⟨fun s ⟨a,vs,e,h,h1⟩ => ⟨a,vs,e,s.lst h,all_nf s h1⟩⟩
instance (o : Int ⊕ List Int) : NfV (PartV o) := by
 cases o
 ·exact inferInstanceAs (NfV (EqV _))
 ·exact inferInstanceAs (NfV (LsV _ _))
instance {P R : VP} [NfV P] [NfV R] : NfV (PairV P R) := ⟨fun s ⟨T,u,w,e,h,h1,h2⟩ => ⟨T,u,w,e,s.tup h,NfV.nf s h1,NfV.nf s h2⟩⟩
instance (p : Prop) : NfV (PropV p) := ⟨fun _ h => h⟩
instance (C : Addr) (c : Vbchal.Claim) : NfV (ClaimV C c) := ⟨fun s ⟨p,dx,u,w,e,h,h1,h2⟩ => ⟨p,dx,u,w,e,s.ins h,NfV.nf s h1,NfV.nf s h2⟩⟩
instance (C : Addr) (t : TD) : NfV (TreeV C t) := ⟨fun s ⟨p,dx,g,s',u,w,e,h,h1,h2,h3,h4⟩ => ⟨p,dx,g,s',u,w,e,s.ins h,NfV.nf s h1,NfV.nf s h2,NfV.nf s h3,NfV.nf s h4⟩⟩
instance (D : Addr) (o : Option Vbchal.Claim) : NfV (OClaimV D o) := by
 cases o
 ·exact inferInstanceAs (NfV (EqV _))
 ·exact inferInstanceAs (NfV (ClaimV _ _))
instance (D : Addr) (o : Option TD) : NfV (OTreeV D o) := by
 cases o
 ·exact inferInstanceAs (NfV (EqV _))
 ·exact inferInstanceAs (NfV (TreeV _ _))
theorem BookAt.nf {bk dx cl : Addr} {s : PSt} {H H' : Hp} (h : Nf H H') (b : BookAt A bk dx cl s H) : BookAt A bk dx cl s H' := by
 obtain ⟨tv,cvs,h1,h2,h3,h4⟩ := b
 exact ⟨tv,cvs,h.ins h1,NfV.nf h h2,h.lst h3,all_nf h h4⟩
section
variable {H : Hp} {σ : L2.St} {D : Ends} {t u : TS} {g : Addr} {vs : List V}
theorem s_lock (hg : H g = some (.lst vs)) (k : ∀ od,t ⟨fun σ' H' => H' g = some (.frz od (.lst vs)) /\ u D σ' (upd H' g (.lst vs)),fun v H' => H' g = some (.frz od (.lst vs)) /\ D.rt v (upd H' g (.lst vs)),fun σ' H' => H' g = some (.frz od (.lst vs)) /\ D.bk σ' (upd H' g (.lst vs)),fun σ' H' => H' g = some (.frz od (.lst vs)) /\ D.ct σ' (upd H' g (.lst vs))⟩ σ (upd H g (.frz od (.lst vs)))) :
  tSeq (tLock t) u D σ H := ⟨g,.lst vs,hg,trivial,k⟩
end
def sp_answers (K : PySem.W.Frag) : Sp := fun vs H Q _ => ∃ (a : Addr) (l : List Int),vs = [.ref a] /\ SqL K H a (l.map V.int) /\ PyVbchal.answers_asked l = true /\ ∀ (H' : Hp) (p : Addr),H' p = some (.lst ((PyVbchal.answers l).map V.int)) -> Q (.ref p) H'
theorem ok_answers (T : Txt K mg A) : FnOk P w K mg base CX0 11 A.f_answers A.d_answers p_answers (sp_answers K) := by
 refine T.F_answers.ok sc_answers (fun vs H Q E ⟨a,l,e,_⟩ => by rw [e]; rfl) fun cdv Ao outer s0 H vs Q E hr hsp => ?_
 obtain ⟨al,l,rfl,hl,hask,q⟩ := hsp
 refine ⟨_,(pss_cons (ps_set (i := 1) sc_answers.nd rfl (Or.inl rfl) (pe_make0 T.mk_Book (ok_Book_init T) (hr.mono (by decide)) rfl T.m_Book T.b_Book_init .nil pass0))
   (pss_cons (ps_set (i := 2) sc_answers.nd rfl (Or.inl rfl) (pe_lst pa_nil))
   (pss_cons (ps_set (i := 3) sc_answers.nd rfl (Or.inl rfl) pe_int)
   (pss_cons (ps_while PassesOwn.never (pt_cmpR op_lt (pv 3) (pe_callB call_len_seq (by rfl) T.n_len boot_len (pa_cons (pv 0) pa_nil)) (nomark _)) (pss_cons (ps_lock (ps_set (i := 4) sc_answers.nd rfl (Or.inl rfl) (pe_call (ok_read_call T) (hr.mono (by decide)) rfl T.m_read_call T.F_read_call.kp T.b_read_call .nil pass0 (pa_cons (pv 0) (pa_cons (pv 3) pa_nil)))))
   (pss_cons (ps_lock (ps_set (i := 5) sc_answers.nd rfl (Or.inl rfl) (pe_callX (pe_ix ix_tup (pe_ix ix_tup (pe_glob rfl T.g_FORMS T.r_FORMS) (pe_ix ix_list (pv 0) (pv 3) (fun _ _ => rfl)) (fun _ _ => rfl)) pe_int (fun _ _ => rfl)) (pa_cons (pv 1) (pa_cons (pe_ix ix_tup (pv 4) pe_int (fun _ _ => rfl)) pa_nil)) pass0)))
   (pss_cons (ps_expr (pe_bm PySem.F.plainAttrs_list PySem.F.slot_list_append PySem.F.type_list_append mt_append (pv 2) (pa_cons (pe_callB call_len_seq (by rfl) T.n_len boot_len (pa_cons (pv 5) pa_nil)) pa_nil)))
   (pss_cons (ps_expr (pe_bm PySem.F.plainAttrs_list PySem.F.slot_list_extend PySem.F.type_list_extend mt_extend (pv 2) (pa_cons (pv 5) pa_nil)))
   (pss_one (ps_set (i := 3) sc_answers.nd rfl (Or.inl rfl) (pe_ix ix_tup (pv 4) pe_int (fun _ _ => rfl)))))))))
   (pss_one (ps_ret (pv 2))))))),?_⟩
 obtain ⟨cs,hcs,hall,hlen,hpts,hans⟩ : ∃ cs,PyFlat.calls PyVbchal.shape l.length l = some cs /\ cs.all VbchalNeutral.asked1 = true /\ cs.length <= 400 /\ (cs.filter VbchalNeutral.isPoints).length <= 100 /\ PyVbchal.answers l = PyFlat.told (PyFlat.played VbchalNeutral.step VbchalNeutral.start cs) := by
  unfold PyVbchal.answers_asked PyVbchal.calls at hask
  unfold PyVbchal.answers PyVbchal.calls
  cases e : PyFlat.calls PyVbchal.shape l.length l with
  | none => rw [e] at hask; cases hask
  | some cs =>
   rw [e] at hask
   have hask : (PyFlat.atMost 400 (cs.map PyVbchal.whole) && VbchalNeutral.asked (cs.map PyVbchal.whole)) = true := hask
   rw [whole_map e] at hask
   unfold VbchalNeutral.asked at hask
   simp only [Bool.and_eq_true,decide_eq_true_iff] at hask
   refine ⟨cs,rfl,hask.2.1,hask.2.2.2.1,hask.2.2.2.2,?_⟩
   show PyFlat.told (PyFlat.played VbchalNeutral.step VbchalNeutral.start (cs.map PyVbchal.whole)) = _
   rw [whole_map e]
 intro bk dx nbk ndx nne
 refine ⟨bk,dx,rfl,upd_same,fun H1 cl hbut hcl hb => ⟨rfl,?_⟩⟩
 have s1 : Same H H1 := Same.make nbk ndx hbut
 have ncl : H cl = Option.none := by
  cases z : H cl with
  | none => rfl
  | some o =>
   exfalso
   rw [upd_ne (ne_of_none z nbk),upd_ne (ne_of_none z ndx),z] at hcl
   cases hcl
 show tSeq _ _ _ [some (V.ref al),some (V.ref bk),none,none,none,none] H1
 refine s_set (y_lst (F := IntV) (l := []) (by decide) yl_nil) fun v2 H2 s2 h2 => ?_
 obtain ⟨h2,g,rfl,ng⟩ := h2
 obtain ⟨g',eg,h2⟩ := IntsV.get h2
 cases eg
 refine s_set (y_c (v := .int 0)) fun v3 H3 s3 e3 => ?_
 cases e3
 have ng0 : H g = Option.none := s1.free ng
 obtain ⟨_,_,hb1,_,hb2,_⟩ := id hb
 have s1d : Same H1 (del g H3) := fun b o e => del_of (ne_of_none e ng) ((s2.trans s3) b o e)
 have W0 : 16380500 <= sizeLine := by decide
 have w0 : wt cs <= 16380500 := Nat.le_trans (Nat.add_le_add (Nat.mul_le_mul_right _ hpts) (Nat.mul_le_mul_right _ hlen)) (by decide)
 refine s_while (fun m σ H' => ∃ (st : Nat) (cl : Addr) (s : PSt) (gs : List Int) (csR : List (List (List Int))) (fu : Nat) (vc va : Option V),σ = [some (.ref al),some (.ref bk),some (.ref g),some (.int st),vc,va] /\ m = l.length - st /\ st <= l.length /\ Same H H' /\ H cl = Option.none /\
  BookAt A bk dx cl s (del g H') /\ PSok s /\ H' g = some (.lst (gs.map V.int)) /\ PyFlat.calls PyVbchal.shape fu (l.drop st) = some csR /\ csR.all VbchalNeutral.asked1 = true /\ PyVbchal.answers l = gs ++ PyFlat.told (PyFlat.played VbchalNeutral.step s.st csR) /\ gs.length + wt csR <= 16380500)
  l.length ⟨0,cl,⟨none,noClaims⟩,[],cs,l.length,none,none,rfl,by omega,Nat.zero_le _,s1.trans (s2.trans s3),ncl,hb.up s1d,⟨rfl,fun t ht => (by cases ht),fun t c ht _ => (by cases ht)⟩,s3 _ _ h2,hcs,hall,by rw [hans]; rfl,by simpa using w0⟩ ?_
 rintro m σ H' ⟨st,cl,s,gs,csR,fu,vc,va,rfl,rfl,hst,sH,ncl,hb,ok,hg,hcR,haR,heq,hw⟩
 refine ⟨decide ((st : Int) < (l.length : Int)),yt_tst (y_rI0 (y_var (P := IntV st) rfl rfl) (y_lenS (y_var rfl (⟨al,rfl,sH.seq hl⟩ : SqV K l H' (.ref al))))),fun H4 s4 => ?_⟩
 by_cases hlt : st < l.length
 ·refine iteT' (decide_eq_true (by omega)) ?_
  rcases calls_is hcR with ⟨eL,_⟩ | ⟨p,r,c,t,cs',f',eL,hcall,hcs',rfl⟩
  ·have := congrArg List.length eL
   rw [List.length_drop,List.length_nil] at this
   omega
  obtain ⟨n,k,xs,hsh,hn,hrows,rfl⟩ := call_is hcall
  rw [List.all_cons,Bool.and_eq_true] at haR
  obtain ⟨hask1,haR'⟩ := haR
  obtain ⟨call,i,n',k',f,fd,lim,hcallOf,ep,hform,hok,hkeep,hbind,hlim⟩ := disp (P := P) (w := w) (base := base) T hsh (List.length_take_of_le hn) (rows_len hrows) hask1
  have hp : l[st]? = some p := by
   have := congrArg List.head? eL
   rw [List.head?_drop] at this
   exact this
  have hlr : st + 1 + r.length = l.length := by
   have := congrArg List.length eL
   rw [List.length_drop,List.length_cons] at this
   omega
  have hr1 : l.drop (st + 1) = r := by
   rw [<- List.drop_drop,eL]
   rfl
  obtain ⟨mt,hmt,et⟩ := rows_suffix hrows
  rw [List.length_drop] at hmt
  have et' : t = l.drop (st + 1 + n + mt) := by
   have a : (List.drop n (List.drop (st + 1) l)).drop mt = l.drop (st + 1 + n + mt) := by
    simp only [List.drop_drop]
   rw [et,<- hr1]; exact a
  have elt : l.length - t.length = st + 1 + n + mt := by rw [et',List.length_drop]; omega
  have sH4 : Same H H4 := sH.trans s4
  have hg4 := s4 _ _ hg
  have hb4 : BookAt A bk dx cl s (del g H4) := hb.up (del_del (del_up s4))
  refine s_lock hg4 fun od => ?_
  have sHf : Same H (upd H4 g (.frz od (.lst (gs.map V.int)))) := sH4.mu ng0
  refine s_set1 (y_call (σ := [some (V.ref al),some (V.ref bk),some (V.ref g),some (V.int (st : Int)),vc,va]) (⟨l,st,p,r,n,k,xs,t⟩ : RcI) (ya_cons (y_var rfl (⟨al,rfl,sHf.seq hl⟩ : SqV K l _ (.ref al))) (ya_cons (y_var (P := IntV st) rfl rfl) ya_nil)) ⟨eL,hsh,hn,hrows⟩) fun v4 H5 s5 h5 => ⟨s5 _ _ upd_same,?_⟩
  have hf5 : H5 g = some (.frz od (.lst (gs.map V.int))) := s5 _ _ upd_same
  have h5 : PairV (LsV PartV (partsOf (r.take n) xs)) (IntV ((l.length - t.length : Nat) : Int)) (del g H5) v4 := NfV.nf (nf_del hf5) h5
  have hb5 : BookAt A bk dx cl s (del g H5) := hb4.up (del_del ((del_upd (del_up (Same.refl H4))).trans s5))
  have sH5 : Same H H5 := sHf.trans s5
  refine s_lock upd_same fun od2 => ?_
  rw [upd_upd]
  have sdf : Same (del g H5) (upd H5 g (.frz od2 (.lst (gs.map V.int)))) := del_upd (del_up (Same.refl H5))
  have sHf2 : Same H (upd H5 g (.frz od2 (.lst (gs.map V.int)))) := sH5.mu ng0
  have hgf : (upd H5 g (.frz od2 (.lst (gs.map V.int)))) g = some (.frz od2 (.lst (gs.map V.int))) := upd_same
  generalize upd H5 g (.frz od2 (.lst (gs.map V.int))) = Hf at sdf sHf2 hgf
  have hSf : SqV K l Hf (.ref al) := ⟨al,rfl,sHf2.seq hl⟩
  have YF : Yd Hf (tOp (rIxT K) (tOp (rIxT K) (tC (.ref A.a_FORMS)) (tOp (rIxL K) (tVar 0) (tVar 3))) (tC (.int 2))) [some (V.ref al),some (V.ref bk),some (V.ref g),some (V.int (st : Int)),some v4,va] (EqV (.ref f)) :=
   y_f2 (y_form T hform ((y_ixS (y_var rfl hSf) (y_var (P := IntV st) rfl rfl) (atI_nat hp)).eq (congrArg V.int ep)))
  refine YF Hf _ (Same.refl Hf) fun vf H6 s6 ef => ⟨f,fd,_,_,10,ef,hok,hr,hkeep,hbind,_,rfl,y_fst (y_var (σ := [some (V.ref al),some (V.ref bk),some (V.ref g),some (V.int (st : Int)),some v4,va]) (i := 4) rfl (Mono.up (sdf.trans s6) h5)) H6 _ (Same.refl H6) fun vp H7 s7 hvp => ?_⟩
  have sd7 := sdf.trans (s6.trans s7)
  have hg7 := s7 _ _ (s6 _ _ hgf)
  have hb7 := hb5.up sd7
  obtain ⟨tv,cvs,hbk7,_,hcl7,_⟩ := id hb7
  have gbk : g ≠ bk := ne_of hg7 hbk7 (by intro z; cases z)
  have gcl : g ≠ cl := ne_of hg7 hcl7 (by intro z; cases z)
  refine ⟨bk,dx,cl,s,vp,rfl,hb7,ok,hvp,fun rv H8 cl' s' hfr hcl' hb8 ok' hst' hrv hnew hle => ?_⟩
  have hg8f : H8 g = some (.frz od2 (.lst (gs.map V.int))) := hfr g _ gbk gcl hg7
  refine ⟨hg8f,?_⟩
  show tSeq _ _ _ [some (V.ref al),some (V.ref bk),some (V.ref g),some (V.int (st : Int)),some v4,some rv] (upd H8 g (.lst (gs.map V.int)))
  have sH7 : Same H H7 := sHf2.trans (s6.trans s7)
  have sH8 : Same H H8 := fun b o e => hfr b o (ne_of_none e nbk) (ne_of_none e ncl) (sH7 b o e)
  have tk8 : Tk H7 H8 := fun b ys e => hfr b _ (ne_of e hbk7 (by intro z; cases z)) (ne_of e hcl7 (by intro z; cases z)) e
  have h58 : PairV (PropV True) (IntV ((l.length - t.length : Nat) : Int)) (del g H8) v4 := by
   have a : PairV (LsV PartV (partsOf (r.take n) xs)) (IntV ((l.length - t.length : Nat) : Int)) H7 v4 := Mono.up sd7 h5
   obtain ⟨TT,u1,u2,e1,e2,_,e4⟩ := a
   exact NfV.nf (nf_del hg8f) (⟨TT,u1,u2,e1,tk8 _ _ e2,trivial,e4⟩ : PairV (PropV True) (IntV ((l.length - t.length : Nat) : Int)) H8 v4)
  have ncl' : H cl' = Option.none := by
   rcases hcl' with z | z
   ·rw [z]; exact ncl
   ·exact sH7.free z
  have hb8 : BookAt A bk dx cl' s' (del g H8) := hb8.nf (nf_del hg8f)
  generalize hans' : (Vbchal.step s.st call).2 = ans at hrv hle
  have hrv : IntsV ans (del g H8) rv := NfV.nf (nf_del hg8f) hrv
  have hstep : VbchalNeutral.step s.st ((p :: r.take n) :: xs) = Vbchal.step s.st call := by
   unfold VbchalNeutral.step
   rw [hcallOf]
  have heq' : PyVbchal.answers l = (gs ++ [(ans.length : Int)] ++ ans) ++ PyFlat.told (PyFlat.played VbchalNeutral.step s'.st cs') := by
   rw [heq]
   show gs ++ PyFlat.told ((VbchalNeutral.step s.st ((p :: r.take n) :: xs)).2 :: PyFlat.played VbchalNeutral.step (VbchalNeutral.step s.st ((p :: r.take n) :: xs)).1 cs') = _
   rw [hstep,told_cons,hans',<- hst']
   simp
  rw [wt_cons] at hw
  have sd8 : Same (del g H8) (upd H8 g (.lst (gs.map V.int))) := del_upd (del_up (Same.refl H8))
  refine s_append (P := IntV (ans.length : Int)) rfl upd_same (by rw [List.length_map]; omega) (y_len (F := IntV) (l := ans) (y_var rfl (Mono.up sd8 hrv))) fun v9 H9 s9 e9 => ?_
  cases e9
  have sd9 : Same (del g H8) (upd H9 g (.lst (gs.map V.int ++ [V.int (ans.length : Int)]))) := del_upd (sd8.trans s9)
  refine s_extend rfl upd_same (by rw [List.length_append,List.length_map,List.length_singleton]; omega) (y_var rfl (Mono.up sd9 hrv)) fun H11 s11 => ?_
  have sd11 : Same (del g H8) (upd H11 g (.lst (gs.map V.int ++ [V.int (ans.length : Int)] ++ ans.map V.int))) := del_upd (sd9.trans s11)
  refine s_set1 (y_snd (y_var rfl (Mono.up sd11 h58))) fun v13 H13 s13 e13 => ?_
  cases e13
  have sd13 := sd11.trans s13
  refine ⟨l.length - (l.length - t.length),by omega,l.length - t.length,cl',s',gs ++ [(ans.length : Int)] ++ ans,cs',f',_,_,rfl,rfl,by omega,?_,ncl',hb8.up (del_del sd13),ok',s13 _ _ ?_,?_,haR',heq',?_⟩
  ·exact ((((sH8.mu ng0).trans s9).mu ng0).trans s11 |>.mu ng0).trans s13
  ·rw [upd_same]; simp
  ·rw [elt,<- et']; exact hcs'
  ·rw [List.length_append,List.length_append,List.length_singleton]; omega
 ·refine iteF' (decide_eq_false (by omega)) ?_
  have est : st = l.length := by omega
  rcases calls_is hcR with ⟨_,ecs⟩ | ⟨p,r,c,t,cs',f',eL,_⟩
  ·subst ecs
   refine s_ret (D := { nx := fun _ H' => Q .non H',rt := Q }) (P := EqV (.ref g)) (σ := [some (V.ref al),some (V.ref bk),some (V.ref g),some (V.int (st : Int)),vc,va]) (y_var rfl rfl) fun v H5 s5 e5 => ?_
   cases e5
   refine q H5 g (s5 _ _ (s4 _ _ ?_))
   rw [hg,heq]
   simp [PyFlat.played,PyFlat.told]
  ·rw [est,List.drop_length] at eL
   cases eL
end CH
namespace CH
open PySem PySem.Spec PyProof.Rows L2
variable {K : PySem.W.Frag} {h : Heap} {mg : Str -> Option Value}
theorem bd_Book_init {f : Addr} {fd : FuncData} (F : Fun K "__init__" "Book.__init__" s_Book_init f fd) : Binds K fd p_Book_init [] := F.binds fun _ _ _ _ _ _ => a1 fun _ => rfl
theorem bd_Book_take_tree {f : Addr} {fd : FuncData} (F : Fun K "take_tree" "Book.take_tree" s_Book_take_tree f fd) : Binds K fd p_Book_take_tree [] := F.binds fun _ _ _ _ _ _ => a2 fun _ _ => rfl
theorem bd_Book_put_claim {f : Addr} {fd : FuncData} (F : Fun K "put_claim" "Book.put_claim" s_Book_put_claim f fd) : Binds K fd p_Book_put_claim [] := F.binds fun _ _ _ _ _ _ => a3 fun _ _ _ => rfl
theorem bd_Book_has_place {f : Addr} {fd : FuncData} (F : Fun K "has_place" "Book.has_place" s_Book_has_place f fd) : Binds K fd p_Book_has_place [] := F.binds fun _ _ _ _ _ _ => a2 fun _ _ => rfl
theorem bd_Book_refusal {f : Addr} {fd : FuncData} (F : Fun K "refusal" "Book.refusal" s_Book_refusal f fd) : Binds K fd p_Book_refusal [] := F.binds fun _ _ _ _ _ _ => a3 fun _ _ _ => rfl
theorem bd_Claim_init {f : Addr} {fd : FuncData} (F : Fun K "__init__" "Claim.__init__" s_Claim_init f fd) : Binds K fd p_Claim_init [] := F.binds fun _ _ _ _ _ _ => a3 fun _ _ _ => rfl
theorem bd_empty_claim {f : Addr} {fd : FuncData} (F : Fun K "empty_claim" "empty_claim" s_empty_claim f fd) : Binds K fd p_empty_claim [] := F.binds fun _ _ _ _ _ _ => a1 fun _ => rfl
theorem bd_turned {f : Addr} {fd : FuncData} (F : Fun K "turned" "turned" s_turned f fd) : Binds K fd p_turned [] := F.binds fun _ _ _ _ _ _ => a1 fun _ => rfl
theorem bd_together {f : Addr} {fd : FuncData} (F : Fun K "together" "together" s_together f fd) : Binds K fd p_together [] := F.binds fun _ _ _ _ _ _ => a2 fun _ _ => rfl
theorem bd_common_divisor {f : Addr} {fd : FuncData} (F : Fun K "common_divisor" "common_divisor" s_common_divisor f fd) : Binds K fd p_common_divisor [] := F.binds fun _ _ _ _ _ _ => a2 fun _ _ => rfl
theorem bd_ratio {f : Addr} {fd : FuncData} (F : Fun K "ratio" "ratio" s_ratio f fd) : Binds K fd p_ratio [] := F.binds fun _ _ _ _ _ _ => a2 fun _ _ => rfl
theorem bd_plus {f : Addr} {fd : FuncData} (F : Fun K "plus" "plus" s_plus f fd) : Binds K fd p_plus [] := F.binds fun _ _ _ _ _ _ => a2 fun _ _ => rfl
theorem bd_minus {f : Addr} {fd : FuncData} (F : Fun K "minus" "minus" s_minus f fd) : Binds K fd p_minus [] := F.binds fun _ _ _ _ _ _ => a2 fun _ _ => rfl
theorem bd_times {f : Addr} {fd : FuncData} (F : Fun K "times" "times" s_times f fd) : Binds K fd p_times [] := F.binds fun _ _ _ _ _ _ => a2 fun _ _ => rfl
theorem bd_over {f : Addr} {fd : FuncData} (F : Fun K "over" "over" s_over f fd) : Binds K fd p_over [] := F.binds fun _ _ _ _ _ _ => a2 fun _ _ => rfl
theorem bd_less {f : Addr} {fd : FuncData} (F : Fun K "less" "less" s_less f fd) : Binds K fd p_less [] := F.binds fun _ _ _ _ _ _ => a2 fun _ _ => rfl
theorem bd_lesser {f : Addr} {fd : FuncData} (F : Fun K "lesser" "lesser" s_lesser f fd) : Binds K fd p_lesser [] := F.binds fun _ _ _ _ _ _ => a2 fun _ _ => rfl
theorem bd_greater {f : Addr} {fd : FuncData} (F : Fun K "greater" "greater" s_greater f fd) : Binds K fd p_greater [] := F.binds fun _ _ _ _ _ _ => a2 fun _ _ => rfl
theorem bd_text_bytes {f : Addr} {fd : FuncData} (F : Fun K "text_bytes" "text_bytes" s_text_bytes f fd) : Binds K fd p_text_bytes [] := F.binds fun _ _ _ _ _ _ => a1 fun _ => rfl
theorem bd_counted_bytes {f : Addr} {fd : FuncData} (F : Fun K "counted_bytes" "counted_bytes" s_counted_bytes f fd) : Binds K fd p_counted_bytes [] := F.binds fun _ _ _ _ _ _ => a1 fun _ => rfl
theorem bd_scaled {f : Addr} {fd : FuncData} (F : Fun K "scaled" "scaled" s_scaled f fd) : Binds K fd p_scaled [] := F.binds fun _ _ _ _ _ _ => a2 fun _ _ => rfl
theorem bd_stands_before {f : Addr} {fd : FuncData} (F : Fun K "stands_before" "stands_before" s_stands_before f fd) : Binds K fd p_stands_before [] := F.binds fun _ _ _ _ _ _ => a2 fun _ _ => rfl
theorem bd_merged {f : Addr} {fd : FuncData} (F : Fun K "merged" "merged" s_merged f fd) : Binds K fd p_merged [] := F.binds fun _ _ _ _ _ _ => a2 fun _ _ => rfl
theorem bd_lies_above {f : Addr} {fd : FuncData} (F : Fun K "lies_above" "lies_above" s_lies_above f fd) : Binds K fd p_lies_above [] := F.binds fun _ _ _ _ _ _ => a3 fun _ _ _ => rfl
theorem bd_upper_row {f : Addr} {fd : FuncData} (F : Fun K "upper_row" "upper_row" s_upper_row f fd) : Binds K fd p_upper_row [] := F.binds fun _ _ _ _ _ _ => a2 fun _ _ => rfl
theorem bd_piece_slope {f : Addr} {fd : FuncData} (F : Fun K "piece_slope" "piece_slope" s_piece_slope f fd) : Binds K fd p_piece_slope [] := F.binds fun _ _ _ _ _ _ => a2 fun _ _ => rfl
theorem bd_value_at {f : Addr} {fd : FuncData} (F : Fun K "value_at" "value_at" s_value_at f fd) : Binds K fd p_value_at [] := F.binds fun _ _ _ _ _ _ => a2 fun _ _ => rfl
theorem bd_cut_row {f : Addr} {fd : FuncData} (F : Fun K "cut_row" "cut_row" s_cut_row f fd) : Binds K fd p_cut_row [] := F.binds fun _ _ _ _ _ _ => a3 fun _ _ _ => rfl
theorem bd_least_cash {f : Addr} {fd : FuncData} (F : Fun K "least_cash" "least_cash" s_least_cash f fd) : Binds K fd p_least_cash [] := F.binds fun _ _ _ _ _ _ => a2 fun _ _ => rfl
theorem bd_end_points {f : Addr} {fd : FuncData} (F : Fun K "end_points" "end_points" s_end_points f fd) : Binds K fd p_end_points [] := F.binds fun _ _ _ _ _ _ => a4 fun _ _ _ _ => rfl
theorem bd_last_step {f : Addr} {fd : FuncData} (F : Fun K "last_step" "last_step" s_last_step f fd) : Binds K fd p_last_step [] := F.binds fun _ _ _ _ _ _ => a2 fun _ _ => rfl
theorem bd_row_before {f : Addr} {fd : FuncData} (F : Fun K "row_before" "row_before" s_row_before f fd) : Binds K fd p_row_before [] := F.binds fun _ _ _ _ _ _ => a3 fun _ _ _ => rfl
theorem bd_step_before {f : Addr} {fd : FuncData} (F : Fun K "step_before" "step_before" s_step_before f fd) : Binds K fd p_step_before [] := F.binds fun _ _ _ _ _ _ => a3 fun _ _ _ => rfl
theorem bd_points_by_step {f : Addr} {fd : FuncData} (F : Fun K "points_by_step" "points_by_step" s_points_by_step f fd) : Binds K fd p_points_by_step [] := F.binds fun _ _ _ _ _ _ => a2 fun _ _ => rfl
theorem bd_node_range {f : Addr} {fd : FuncData} (F : Fun K "node_range" "node_range" s_node_range f fd) : Binds K fd p_node_range [] := F.binds fun _ _ _ _ _ _ => a3 fun _ _ _ => rfl
theorem bd_is_let {f : Addr} {fd : FuncData} (F : Fun K "is_let" "is_let" s_is_let f fd) : Binds K fd p_is_let [] := F.binds fun _ _ _ _ _ _ => a1 fun _ => rfl
theorem bd_lower_bound {f : Addr} {fd : FuncData} (F : Fun K "lower_bound" "lower_bound" s_lower_bound f fd) : Binds K fd p_lower_bound [] := F.binds fun _ _ _ _ _ _ => a2 fun _ _ => rfl
theorem bd_upper_bound {f : Addr} {fd : FuncData} (F : Fun K "upper_bound" "upper_bound" s_upper_bound f fd) : Binds K fd p_upper_bound [] := F.binds fun _ _ _ _ _ _ => a2 fun _ _ => rfl
theorem bd_planned {f : Addr} {fd : FuncData} (F : Fun K "planned" "planned" s_planned f fd) : Binds K fd p_planned [] := F.binds fun _ _ _ _ _ _ => a5 fun _ _ _ _ _ => rfl
theorem bd_Tree_init {f : Addr} {fd : FuncData} (F : Fun K "__init__" "Tree.__init__" s_Tree_init f fd) : Binds K fd p_Tree_init [] := F.binds fun _ _ _ _ _ _ => a6 fun _ _ _ _ _ _ => rfl
theorem bd_Tree_has_node {f : Addr} {fd : FuncData} (F : Fun K "has_node" "Tree.has_node" s_Tree_has_node f fd) : Binds K fd p_Tree_has_node [] := F.binds fun _ _ _ _ _ _ => a3 fun _ _ _ => rfl
theorem bd_Tree_has_node_before_last {f : Addr} {fd : FuncData} (F : Fun K "has_node_before_last" "Tree.has_node_before_last" s_Tree_has_node_before_last f fd) : Binds K fd p_Tree_has_node_before_last [] := F.binds fun _ _ _ _ _ _ => a3 fun _ _ _ => rfl
theorem bd_Tree_has_way {f : Addr} {fd : FuncData} (F : Fun K "has_way" "Tree.has_way" s_Tree_has_way f fd) : Binds K fd p_Tree_has_way [] := F.binds fun _ _ _ _ _ _ => a2 fun _ _ => rfl
theorem bd_Tree_bid_at {f : Addr} {fd : FuncData} (F : Fun K "bid_at" "Tree.bid_at" s_Tree_bid_at f fd) : Binds K fd p_Tree_bid_at [] := F.binds fun _ _ _ _ _ _ => a3 fun _ _ _ => rfl
theorem bd_Tree_ask_at {f : Addr} {fd : FuncData} (F : Fun K "ask_at" "Tree.ask_at" s_Tree_ask_at f fd) : Binds K fd p_Tree_ask_at [] := F.binds fun _ _ _ _ _ _ => a3 fun _ _ _ => rfl
theorem bd_nodes_before {f : Addr} {fd : FuncData} (F : Fun K "nodes_before" "nodes_before" s_nodes_before f fd) : Binds K fd p_nodes_before [] := F.binds fun _ _ _ _ _ _ => a1 fun _ => rfl
theorem bd_all_between {f : Addr} {fd : FuncData} (F : Fun K "all_between" "all_between" s_all_between f fd) : Binds K fd p_all_between [] := F.binds fun _ _ _ _ _ _ => a3 fun _ _ _ => rfl
theorem bd_tree_refusal {f : Addr} {fd : FuncData} (F : Fun K "tree_refusal" "tree_refusal" s_tree_refusal f fd) : Binds K fd p_tree_refusal [] := F.binds fun _ _ _ _ _ _ => a5 fun _ _ _ _ _ => rfl
theorem bd_Walk_init {f : Addr} {fd : FuncData} (F : Fun K "__init__" "Walk.__init__" s_Walk_init f fd) : Binds K fd p_Walk_init [] := F.binds fun _ _ _ _ _ _ => a3 fun _ _ _ => rfl
theorem bd_trading_cost {f : Addr} {fd : FuncData} (F : Fun K "trading_cost" "trading_cost" s_trading_cost f fd) : Binds K fd p_trading_cost [] := F.binds fun _ _ _ _ _ _ => a5 fun _ _ _ _ _ => rfl
theorem bd_left_over {f : Addr} {fd : FuncData} (F : Fun K "left_over" "left_over" s_left_over f fd) : Binds K fd p_left_over [] := F.binds fun _ _ _ _ _ _ => a5 fun _ _ _ _ _ => rfl
theorem bd_walked {f : Addr} {fd : FuncData} (F : Fun K "walked" "walked" s_walked f fd) : Binds K fd p_walked [] := F.binds fun _ _ _ _ _ _ => a4 fun _ _ _ _ => rfl
theorem bd_answer_tree {f : Addr} {fd : FuncData} (F : Fun K "answer_tree" "answer_tree" s_answer_tree f fd) : Binds K fd p_answer_tree [] := F.binds fun _ _ _ _ _ _ => a2 fun _ _ => rfl
theorem bd_answer_claim {f : Addr} {fd : FuncData} (F : Fun K "answer_claim" "answer_claim" s_answer_claim f fd) : Binds K fd p_answer_claim [] := F.binds fun _ _ _ _ _ _ => a2 fun _ _ => rfl
theorem bd_answer_turn {f : Addr} {fd : FuncData} (F : Fun K "answer_turn" "answer_turn" s_answer_turn f fd) : Binds K fd p_answer_turn [] := F.binds fun _ _ _ _ _ _ => a2 fun _ _ => rfl
theorem bd_answer_sum {f : Addr} {fd : FuncData} (F : Fun K "answer_sum" "answer_sum" s_answer_sum f fd) : Binds K fd p_answer_sum [] := F.binds fun _ _ _ _ _ _ => a2 fun _ _ => rfl
theorem bd_answer_least {f : Addr} {fd : FuncData} (F : Fun K "answer_least" "answer_least" s_answer_least f fd) : Binds K fd p_answer_least [] := F.binds fun _ _ _ _ _ _ => a2 fun _ _ => rfl
theorem bd_answer_points {f : Addr} {fd : FuncData} (F : Fun K "answer_points" "answer_points" s_answer_points f fd) : Binds K fd p_answer_points [] := F.binds fun _ _ _ _ _ _ => a2 fun _ _ => rfl
theorem bd_answer_range {f : Addr} {fd : FuncData} (F : Fun K "answer_range" "answer_range" s_answer_range f fd) : Binds K fd p_answer_range [] := F.binds fun _ _ _ _ _ _ => a2 fun _ _ => rfl
theorem bd_answer_plan {f : Addr} {fd : FuncData} (F : Fun K "answer_plan" "answer_plan" s_answer_plan f fd) : Binds K fd p_answer_plan [] := F.binds fun _ _ _ _ _ _ => a2 fun _ _ => rfl
theorem bd_walk_refusal {f : Addr} {fd : FuncData} (F : Fun K "walk_refusal" "walk_refusal" s_walk_refusal f fd) : Binds K fd p_walk_refusal [] := F.binds fun _ _ _ _ _ _ => a4 fun _ _ _ _ => rfl
theorem bd_answer_walk {f : Addr} {fd : FuncData} (F : Fun K "answer_walk" "answer_walk" s_answer_walk f fd) : Binds K fd p_answer_walk [] := F.binds fun _ _ _ _ _ _ => a2 fun _ _ => rfl
theorem bd_answer_held {f : Addr} {fd : FuncData} (F : Fun K "answer_held" "answer_held" s_answer_held f fd) : Binds K fd p_answer_held [] := F.binds fun _ _ _ _ _ _ => a2 fun _ _ => rfl
theorem bd_answer_enough {f : Addr} {fd : FuncData} (F : Fun K "answer_enough" "answer_enough" s_answer_enough f fd) : Binds K fd p_answer_enough [] := F.binds fun _ _ _ _ _ _ => a2 fun _ _ => rfl
theorem bd_answer_quotes {f : Addr} {fd : FuncData} (F : Fun K "answer_quotes" "answer_quotes" s_answer_quotes f fd) : Binds K fd p_answer_quotes [] := F.binds fun _ _ _ _ _ _ => a2 fun _ _ => rfl
theorem bd_answer_told {f : Addr} {fd : FuncData} (F : Fun K "answer_told" "answer_told" s_answer_told f fd) : Binds K fd p_answer_told [] := F.binds fun _ _ _ _ _ _ => a2 fun _ _ => rfl
theorem bd_read_call {f : Addr} {fd : FuncData} (F : Fun K "read_call" "read_call" s_read_call f fd) : Binds K fd p_read_call [] := F.binds fun _ _ _ _ _ _ => a2 fun _ _ => rfl
theorem bd_answers {f : Addr} {fd : FuncData} (F : Fun K "answers" "answers" s_answers f fd) : Binds K fd p_answers [] := F.binds fun _ _ _ _ _ _ => a1 fun _ => rfl
section
variable {f C C1 : Addr} {od an : Option Addr} {sl : Array (Option Value)} {oc kV dc pm cd ct : Value}
theorem fn_top (x qual : Str) (st : Stmt) (X : K.In h) (G : h.Ns mainGlobals mg) (a : PySem.W.nsIn K mainGlobals x = some (some (.ref f))) (l : K.lookup f = some ⟨oc,od,.func (PySem.W.fnOf x qual (defArgs st) (defBody st) (defScope st) .none kV dc pm an cd ct),sl⟩) (c : PySem.W.codeIn K cd qual = true) (k : PySem.W.keepIn K (.ref f) = true) :
  ∃ f fd,mg x = some (.ref f) /\ Fun K x qual st f fd := ⟨f,_,PySem.W.mg_of X G a,fun_mk l c k⟩
theorem cls_top (x : Str) (X : K.In h) (G : h.Ns mainGlobals mg) (a : PySem.W.nsIn K mainGlobals x = some (some (.ref C))) (pg : PySem.W.plainGet K C Str.empty = true) (hd : PySem.W.hasDictIn K C = true) (po : PySem.W.plainOver K C = true)
  (sa : PySem.W.findIn K (.ref C) "__setattr__" = some (some (.builtin "object.__setattr__"))) (mk : PySem.W.makesIn K C = true) (kc : PySem.W.keepIn K (.ref C) = true) :
  ∃ C,mg x = some (.ref C) /\ Cls K C /\ PySem.W.makesIn K C = true /\ PySem.W.keepIn K (.ref C) = true := ⟨C,PySem.W.mg_of X G a,⟨pg,hd,po,sa⟩,mk,kc⟩
theorem fn_meth {x : Str} (m qual : Str) (st : Stmt) (X : K.In h) (G : h.Ns mainGlobals mg) (mC : mg x = some (.ref C1)) (aC : PySem.W.nsIn K mainGlobals x = some (some (.ref C))) (a : PySem.W.findIn K (.ref C) m = some (some (.ref f))) (i : PySem.W.isFn K (.ref f) = true)
  (l : K.lookup f = some ⟨oc,od,.func (PySem.W.fnOf m qual (defArgs st) (defBody st) (defScope st) .none kV dc pm an cd ct),sl⟩) (c : PySem.W.codeIn K cd qual = true) (k : PySem.W.keepIn K (.ref f) = true) :
  ∃ f fd,Fun K m qual st f fd /\ Meth K C1 m f := by
 have e := mC.symm.trans (PySem.W.mg_of X G aC)
 cases e
 exact ⟨f,_,fun_mk l c k,⟨a,i,k⟩⟩
theorem no_attr {x : Str} (m : Str) (X : K.In h) (G : h.Ns mainGlobals mg) (mC : mg x = some (.ref C1)) (aC : PySem.W.nsIn K mainGlobals x = some (some (.ref C))) (a : PySem.W.findIn K (.ref C) m = some none) : NoAttr K C1 m := by
 have e := mC.symm.trans (PySem.W.mg_of X G aC)
 cases e
 exact a
theorem int_top {x : Str} {z : Int} {t : Tok} (X : K.In h) (G : h.Ns mainGlobals mg) (a : PySem.W.nsIn K mainGlobals x = some (some (.int z t))) : ∃ v,mg x = some v /\ RelV (.int z) v := ⟨_,PySem.W.mg_of X G a,⟨t,rfl⟩⟩
def FormAt (K : PySem.W.Frag) (p : Addr) (n k : Int) (f : Addr) : Prop := ∀ H,SqT K H p [.int n,.int k,.ref f]
theorem form_at {x : Str} {p : Addr} {n k : Int} {t u : Tok} {m : Nat} {f1 : Addr} (X : K.In h) (G : h.Ns mainGlobals mg) (mf : mg x = some (.ref f1)) (a : PySem.W.nsIn K mainGlobals x = some (some (.ref f))) (l : K.lookup p = some ⟨.type "tuple",od,.seq #[.int n t,.int k u,.ref f] m,sl⟩) : FormAt K p n k f1 := by
 have e := mf.symm.trans (PySem.W.mg_of X G a)
 cases e
 exact fun H => .inr ⟨_,_,_,l,rfl,rfl,by show 3 <= sizeLine; decide,.cons ⟨_,rfl⟩ (.cons ⟨_,rfl⟩ (.cons rfl .nil))⟩
end
theorem table (X : K.In h) (G : h.Ns mainGlobals mg) {p0 p1 p2 p3 p4 p5 p6 p7 p8 p9 p10 p11 p12 : Addr} {f0 f1 f2 f3 f4 f5 f6 f7 f8 f9 f10 f11 f12 : Addr} {aF : Addr} {od : Option Addr} {n : Nat} {sl : Array (Option Value)} (a : PySem.W.nsIn K mainGlobals "FORMS" = some (some (.ref aF))) (l : K.lookup aF = some ⟨.type "tuple",od,.seq #[.ref p0,.ref p1,.ref p2,.ref p3,.ref p4,.ref p5,.ref p6,.ref p7,.ref p8,.ref p9,.ref p10,.ref p11,.ref p12] n,sl⟩)
  (r0 : FormAt K p0 3 2 f0) (r1 : FormAt K p1 1 2 f1) (r2 : FormAt K p2 2 0 f2) (r3 : FormAt K p3 3 0 f3) (r4 : FormAt K p4 4 0 f4) (r5 : FormAt K p5 3 0 f5) (r6 : FormAt K p6 2 0 f6) (r7 : FormAt K p7 5 0 f7) (r8 : FormAt K p8 2 1 f8) (r9 : FormAt K p9 2 1 f9) (r10 : FormAt K p10 4 0 f10) (r11 : FormAt K p11 1 0 f11) (r12 : FormAt K p12 1 0 f12) :
  ∃ aF,mg "FORMS" = some (.ref aF) /\ ∃ ps : List Addr,(∀ H,SqT K H aF (ps.map V.ref)) /\ All2 (fun p (x : Int × Int × Addr) => ∀ H,SqT K H p [.int x.1,.int x.2.1,.ref x.2.2]) ps [(3,2,f0),(1,2,f1),(2,0,f2),(3,0,f3),(4,0,f4),(3,0,f5),(2,0,f6),(5,0,f7),(2,1,f8),(2,1,f9),(4,0,f10),(1,0,f11),(1,0,f12)] :=
 ⟨aF,PySem.W.mg_of X G a,[p0,p1,p2,p3,p4,p5,p6,p7,p8,p9,p10,p11,p12],fun H => .inr ⟨_,_,_,l,rfl,rfl,by show 13 <= sizeLine; decide,(.cons rfl (.cons rfl (.cons rfl (.cons rfl (.cons rfl (.cons rfl (.cons rfl (.cons rfl (.cons rfl (.cons rfl (.cons rfl (.cons rfl (.cons rfl .nil)))))))))))))⟩,(.cons r0 (.cons r1 (.cons r2 (.cons r3 (.cons r4 (.cons r5 (.cons r6 (.cons r7 (.cons r8 (.cons r9 (.cons r10 (.cons r11 (.cons r12 .nil)))))))))))))⟩
theorem bt_answers {f : Addr} {fd : FuncData} (F : Fun K "answers" "answers" s_answers f fd) (s : Shared) (us : List Value) (hu : us.length = (["calls"] : List Str).length) : BindsTo s fd ⟨us,[]⟩ ((["calls"] : List Str).zip us) := by
 obtain ⟨oc,od,kV,doc,pm,an,cdv,ct,osl,rfl,lk,hcd⟩ := F.ex
 exact a1 (M := fun us => BindsTo s _ ⟨us,[]⟩ ((["calls"] : List Str).zip us)) (fun _ => .of_eq rfl) us hu
end CH
inductive PySem.W.Fast : Prop where
|te10016729870150485598|te10032527891389843240|te10058865281773063792|te10094098573222519253|te10106096021187964151|te10110876450142957408|te1011117253613463292|te1016185432517035742|te10179858648768459798|te10213985799655009800|te1033064152460943383|te10339596951705269554|te10341603836638429529|te10393376074513182362|te10402723784733074769|te10500650223871244861|te10515388705793210601|te10608742855279719516|te10634307295874407132|te10758334143112440589|te10773304622454551415|te10781250915623983115|te10784588706798761372|te10795457583559865708|te10829398535194274469|te10833919117201637554|te10932448858794532122|te10944045633030368094|te10974731192704967823|te10987486729612775851|te11009619289701227431|te11039247258777140145|te11045270866150893469|te11046818184839967151|te11141215946666328706|te11157237694669289993|te11188643961274149697|te11249716981217628147|te11256753233508441362|te11293488595545500120|te11315727428838244553|te11405031473105629461|te11444672093354551751|te11518452827091413378|te11570142963680094031|te1158382207003558381|te116355763447091069|te1170200470219655730|te11724490412819814343|te11733661367372099063|te11765619081346049972|te11787537732409532803|te11794717083019748808|te11915089616462083035|te11933415133864975979|te11959173659674109500|te12004628034653897948|te12112797101841453880|te12138967666558377507|te12190815801283287476|te12194531950856660724|te12275211820456211395|te12321578165529272564|te12380367566771054223|te12390203672408104308|te12430097991945954513|te12481106405391427012|te12506125948055356526|te12548947280690461886|te12633780196835381623|te12656831897309361407|te12660313878445062626|te1266508871300385372|te12668207991458727610|te12671526099328590377|te12744183843058635904|te12762735134456072933|te12804243331910153432|te12854825386379879109|te12871941029322643593|te12877053579096510483|te13006800418956175214|te13008251275716448019|te130307254270002241|te13031749808393422780|te13060203622235624000|te13184873156223264517|te13207511359480713423|te13222983056990578115|te13223304636253034858|te13272592423978526981|te13324417681017571199|te13329744963396386673|te1336464660878378679|te13369237858286919911|te13460288162715894030|te13468412726335908690|te13574976602700246892|te13582379933528461261|te13610436075415539386|te13616358506029599573|te13624332545162445495|te13660399297624497655|te13663357773166017511|te13671219155121272755|te13764451435551149557|te13772842808123094236|te13784336044024777614|te13792697749739131162|te13803130676974896449|te13820020290605972999|te1384203825633225054|te13909921495849873938|te13914375749586253473|te13945933618448626065|te14076481812283283937|te14152104728236512405|te14153163332045245339|te14236592111566734125|te14241926295647396366|te14274290957867421187|te14302561110416861587|te14400539135798948384|te14442285736435578809|te14449966013712509486|te14459606984472286292|te14555278002785310113|te14590625133316296305|te14600374726930426992|te14654377518279315439|te14678910190279012278|te14704334212626621068|te14715922845948947073|te14741295203453627697|te14770197148007012706|te14799970818247188346|te14820535505266970851|te14828667635983818809|te14853252197548769878|te14861008164020176928|te15025194755238990609|te15149162821227579726|te15151873083734593691|te15181477680608405388|te15221648700646093554|te15279809380356130290|te15284566736629803372|te15302212141168772853|te15314026513971892354|te15318858879781563432|te15322730788621430503|te15385215187954587628|te15407623816298276092|te15417937420262274296|te15423425240697559048|te15425478027687078132|te15495240090902180961|te15499210558817090200|te15545240296557992546|te15558911541315494882|te15587012633502616755|te15611061596566377828|te1563422588222824413|te15665920901078820925|te15687702843637033566|te15696838122419705189|te15718275913943360862|te15719943041162799741|te15731491156585930408|te15800934991407829614|te15807101676644735859|te1582672734847530643|te15856919178009300936|te15894006779477164689|te15919851435463890220|te15930577228072695141|te15958699444646728620|te15968432053677758586|te15985941840969718491|te16002258341378682368|te16065413141556989886|te16071338414262475619|te16086902671678470518|te16124996364521084274|te16176737244006629061|te16204134322020237030|te16261459976478068369|te16285617004721897774|te1632101547091915421|te16350031100943931463|te16359055517449622332|te16363962419672087229|te16404291370723820468|te16498915762932557001|te16593325715489511244|te16615283622289465899|te16648360789113781082|te16684711523152678145|te16687148408391747964|te16697066296209662589|te16709078170599360145|te16730326203192440267|te16742585918796184611|te16840249753816228648|te16848482757087767452|te16864833020414724104|te16867274229919144176|te16867856439330917368|te16879018286271748383|te16986213960143580760|te1709655451404054116|te17119352474179127875|te17147501779461869008|te17175021325406575506|te17197102461679498619|te17211045105474366473|te17228341863458196733|te17254690962667234528|te17306342399832351495|te17311448566588941433|te17312989007293057847|te17315286762754926343|te17329460710164036431|te17391515808862350505|te17419802879804686263|te17427266470937079850|te17461956404141891813|te17493417133356442736|te17520641018524193947|te17623910726741842838|te17644504569889932037|te17663264233930311506|te17744040365032766585|te17787391934298825992|te17854235899940011971|te17864033879409055773|te17904168875923805910|te17952707823946929177|te18025164277754105630|te180889221869373840|te18109854752288931733|te18126047188521085825|te18155273713140035529|te18214744134709902311|te18235696515757865580|te18289456843958022775|te18292894590933305976|te18306773490146984376|te18377675211568080886|te18390340531975930385|te18398295738977172290|te18412974762873053960|te18422681241150957922|te18430276485602939583|te1907276366560684285|te19993702264000800|te200571702863067886|te2031493576359408876|te206543351997974121|te2084037476847682785|te2123466619410053947|te2136807129826650943|te2169475692528663775|te2185780082782335570|te2239022332849853888|te2270539844374750830|te2292980760637392175|te2363994255728015700|te2363997269465798518|te2402701686457669399|te2450289905629983248|te2455670993124959907|te2520319599593530785|te2533598123802232579|te2535863909641902705|te254097904763017273|te2560792463130276365|te2629872246662895975|te2661283864371318234|te2662421115287450698|te2673892450303663312|te2683930300308891748|te2805925606551462967|te2831447000151631866|te2933208692335093995|te3032227204200037485|te3053739657005144245|te3058494425501891605|te3085446349496953821|te3104911642806347251|te3162788790768678736|te3180160936815142137|te3183411383416833649|te3197812498919492913|te3213381660036415117|te3338937870044351087|te337140422203004029|te3520679136793161256|te3553518063027400580|te359694440919764779|te3617969506801614609|te3648879848197796791|te3700793747057313527|te3702689205331229479|te3713189124504763643|te371665296300965986|te3727631767151996006|te379429301082257065|te3843467134762407054|te3848216788225199574|te3869193467339606378|te3887248166451484322|te3913572017487390488|te3954893208599738253|te3969816186319915343|te398999552612700912|te3998014082546824212|te4016102453787372808|te4030136877085605561|te4037011845648659841|te4061257115544064561|te4094293125985701212|te4117730252442452926|te4156899329737437721|te4159190121128485271|te4177004353467872381|te4179162856989236271|te425365417227201723|te4286053626284034940|te428668090782170314|te4396810417407171532|te4401501802187172583|te4420376174593450206|te4444808546384258738|te4489941929462013804|te4531049007511277594|te4564736290750791804|te4674264834815068011|te4725669848357607098|te4776955874290642447|te4796602834378873245|te4836911087341942435|te4885760215562624836|te4941386051186151577|te4955955544095457560|te4989789858380463736|te4996686332993105104|te5049099194925260841|te508743297294599627|te5099630266547347079|te5151635739914826840|te5169096834913252096|te5194815853740512814|te5224852425142718622|te5265753435263287315|te526752846869788633|te5423133041472327024|te5437180087515382322|te5463029865873205986|te5489171823727715767|te557918959092335368|te5623903348416395078|te5682631635042321088|te5695418182234483085|te5707146295764585009|te5779539762791194339|te5837641883038955772|te5942382816979933033|te604201209127306007|te6070464613750996509|te6180421292476855315|te6218111512573722623|te6332244256964842287|te6359166192661485302|te636686910705064775|te6400864667266367052|te6450686527437724945|te6513998076377859825|te6531636434975057362|te6538644136990732132|te6574574520732955533|te6591432458464105402|te6681095886698554148|te6851560759275381133|te6956407192811228708|te7014423835852257209|te7018642384235571828|te711792577253767532|te7152120023044910905|te7189873036014922566|te7192754832074524380|te722072905379949567|te723355795108035212|te7249465435942708574|te7280720679475754170|te7351846578345365452|te7359560007956902817|te7457090862817472968|te7462925990761590118|te7466944283996184689|te7532921971506443965|te7560778852241845893|te7563101340854711341|te7566705899929828541|te7587275054427169828|te7607538080664820625|te7693788371744713601|te7728114453577613638|te7854934509127592765|te7880115468016346582|te7917170661941777885|te7966985255757289633|te8008223247838298748|te8020836907902225795|te8025624429536269785|te8097153106615825841|te813133084874421948|te8167864652294638229|te8183688580298863834|te8196027316513603872|te8209435957636480380|te8225922800715053472|te8232753083639974272|te828517777851283765|te8301182141270701562|te8314580945626407068|te8336855620869395017|te8410933581872908982|te8414674872091898674|te8418551860159579754|te8447387763842219156|te8453820934761556583|te8459656079502166167|te8538019038552717465|te8548228171770582653|te8634154075126352844|te8644325601295577600|te87298057599544743|te8738202333746363173|te8741487116541613664|te8796614095545129016|te8801571469614581524|te8826658717751730489|te8968235612322102914|te902645398545300791|te9034453887844552640|te909664484740338537|te9103656028709828761|te9197670760639842654|te9239644724153635636|te9265742840975885993|te9281643122038215750|te9388018819742300014|te9427301678717496694|te9498828437730149029|te953601113304419356|te9586598491985004276|te9604265462924310449|te9614714365619627721|te9623284793480486007|te9654448758009461401|te9709341022592299125|te9714665014250163894|te9740979263253630612|te9776078151617928123|te9779777069693224934|te9852414579809625248|te9900271065955665028|te9954774712842275704|te9986956427386758091|te9997770607408107091
def PySem.W.Fast.tw6240532935062685921 := PySem.Challenge.pw_costhedge_s01_answers
theorem PySem.W.Fast.te6240532935062685921 : PySem.Challenge.pw_costhedge_s01_answers = PySem.W.Fast.tw6240532935062685921 := rfl
open PySem PySem.W PyProof.Rows
set_option maxRecDepth 100000 in
set_option maxHeartbeats 0 in
theorem PySem.Challenge.cw_costhedge_s01_answers_holds : PySem.Challenge.rw_costhedge_s01_answers.Holds := by
 w_on; k_headS; (case hw => exact ⟨[.list [.int 6,.int 0,.int 0]],by decide +kernel,by decide +kernel⟩)
 k_fillS
 refine L2.walk_specK (r := PySem.Challenge.rw_costhedge_s01_answers) (k := 11) (CX := L2.CX0) (ps := ["calls"]) (sp := CH.sp_answers) (by decide +kernel) rfl rfl ⟨rfl,by decide,by decide⟩ (fun w h Y => PySem.W.kIn_of Y) ?F ?S (fun _ _ _ _ z => z)
 case F =>
  intro w mg fa h Y KX G hmg
  obtain ⟨f_empty_claim,d_empty_claim,m_empty_claim,F_empty_claim⟩ := by refine' CH.fn_top "empty_claim" "empty_claim" CH.s_empty_claim KX G ?a ?l ?c ?k; case a|l|c|k=>k_is
  obtain ⟨f_turned,d_turned,m_turned,F_turned⟩ := by refine' CH.fn_top "turned" "turned" CH.s_turned KX G ?a ?l ?c ?k; case a|l|c|k=>k_is
  obtain ⟨f_together,d_together,m_together,F_together⟩ := by refine' CH.fn_top "together" "together" CH.s_together KX G ?a ?l ?c ?k; case a|l|c|k=>k_is
  obtain ⟨f_common_divisor,d_common_divisor,m_common_divisor,F_common_divisor⟩ := by refine' CH.fn_top "common_divisor" "common_divisor" CH.s_common_divisor KX G ?a ?l ?c ?k; case a|l|c|k=>k_is
  obtain ⟨f_ratio,d_ratio,m_ratio,F_ratio⟩ := by refine' CH.fn_top "ratio" "ratio" CH.s_ratio KX G ?a ?l ?c ?k; case a|l|c|k=>k_is
  obtain ⟨f_plus,d_plus,m_plus,F_plus⟩ := by refine' CH.fn_top "plus" "plus" CH.s_plus KX G ?a ?l ?c ?k; case a|l|c|k=>k_is
  obtain ⟨f_minus,d_minus,m_minus,F_minus⟩ := by refine' CH.fn_top "minus" "minus" CH.s_minus KX G ?a ?l ?c ?k; case a|l|c|k=>k_is
  obtain ⟨f_times,d_times,m_times,F_times⟩ := by refine' CH.fn_top "times" "times" CH.s_times KX G ?a ?l ?c ?k; case a|l|c|k=>k_is
  obtain ⟨f_over,d_over,m_over,F_over⟩ := by refine' CH.fn_top "over" "over" CH.s_over KX G ?a ?l ?c ?k; case a|l|c|k=>k_is
  obtain ⟨f_less,d_less,m_less,F_less⟩ := by refine' CH.fn_top "less" "less" CH.s_less KX G ?a ?l ?c ?k; case a|l|c|k=>k_is
  obtain ⟨f_lesser,d_lesser,m_lesser,F_lesser⟩ := by refine' CH.fn_top "lesser" "lesser" CH.s_lesser KX G ?a ?l ?c ?k; case a|l|c|k=>k_is
  obtain ⟨f_greater,d_greater,m_greater,F_greater⟩ := by refine' CH.fn_top "greater" "greater" CH.s_greater KX G ?a ?l ?c ?k; case a|l|c|k=>k_is
  obtain ⟨f_text_bytes,d_text_bytes,m_text_bytes,F_text_bytes⟩ := by refine' CH.fn_top "text_bytes" "text_bytes" CH.s_text_bytes KX G ?a ?l ?c ?k; case a|l|c|k=>k_is
  obtain ⟨f_counted_bytes,d_counted_bytes,m_counted_bytes,F_counted_bytes⟩ := by refine' CH.fn_top "counted_bytes" "counted_bytes" CH.s_counted_bytes KX G ?a ?l ?c ?k; case a|l|c|k=>k_is
  obtain ⟨f_scaled,d_scaled,m_scaled,F_scaled⟩ := by refine' CH.fn_top "scaled" "scaled" CH.s_scaled KX G ?a ?l ?c ?k; case a|l|c|k=>k_is
  obtain ⟨f_stands_before,d_stands_before,m_stands_before,F_stands_before⟩ := by refine' CH.fn_top "stands_before" "stands_before" CH.s_stands_before KX G ?a ?l ?c ?k; case a|l|c|k=>k_is
  obtain ⟨f_merged,d_merged,m_merged,F_merged⟩ := by refine' CH.fn_top "merged" "merged" CH.s_merged KX G ?a ?l ?c ?k; case a|l|c|k=>k_is
  obtain ⟨f_lies_above,d_lies_above,m_lies_above,F_lies_above⟩ := by refine' CH.fn_top "lies_above" "lies_above" CH.s_lies_above KX G ?a ?l ?c ?k; case a|l|c|k=>k_is
  obtain ⟨f_upper_row,d_upper_row,m_upper_row,F_upper_row⟩ := by refine' CH.fn_top "upper_row" "upper_row" CH.s_upper_row KX G ?a ?l ?c ?k; case a|l|c|k=>k_is
  obtain ⟨f_piece_slope,d_piece_slope,m_piece_slope,F_piece_slope⟩ := by refine' CH.fn_top "piece_slope" "piece_slope" CH.s_piece_slope KX G ?a ?l ?c ?k; case a|l|c|k=>k_is
  obtain ⟨f_value_at,d_value_at,m_value_at,F_value_at⟩ := by refine' CH.fn_top "value_at" "value_at" CH.s_value_at KX G ?a ?l ?c ?k; case a|l|c|k=>k_is
  obtain ⟨f_cut_row,d_cut_row,m_cut_row,F_cut_row⟩ := by refine' CH.fn_top "cut_row" "cut_row" CH.s_cut_row KX G ?a ?l ?c ?k; case a|l|c|k=>k_is
  obtain ⟨f_least_cash,d_least_cash,m_least_cash,F_least_cash⟩ := by refine' CH.fn_top "least_cash" "least_cash" CH.s_least_cash KX G ?a ?l ?c ?k; case a|l|c|k=>k_is
  obtain ⟨f_end_points,d_end_points,m_end_points,F_end_points⟩ := by refine' CH.fn_top "end_points" "end_points" CH.s_end_points KX G ?a ?l ?c ?k; case a|l|c|k=>k_is
  obtain ⟨f_last_step,d_last_step,m_last_step,F_last_step⟩ := by refine' CH.fn_top "last_step" "last_step" CH.s_last_step KX G ?a ?l ?c ?k; case a|l|c|k=>k_is
  obtain ⟨f_row_before,d_row_before,m_row_before,F_row_before⟩ := by refine' CH.fn_top "row_before" "row_before" CH.s_row_before KX G ?a ?l ?c ?k; case a|l|c|k=>k_is
  obtain ⟨f_step_before,d_step_before,m_step_before,F_step_before⟩ := by refine' CH.fn_top "step_before" "step_before" CH.s_step_before KX G ?a ?l ?c ?k; case a|l|c|k=>k_is
  obtain ⟨f_points_by_step,d_points_by_step,m_points_by_step,F_points_by_step⟩ := by refine' CH.fn_top "points_by_step" "points_by_step" CH.s_points_by_step KX G ?a ?l ?c ?k; case a|l|c|k=>k_is
  obtain ⟨f_node_range,d_node_range,m_node_range,F_node_range⟩ := by refine' CH.fn_top "node_range" "node_range" CH.s_node_range KX G ?a ?l ?c ?k; case a|l|c|k=>k_is
  obtain ⟨f_is_let,d_is_let,m_is_let,F_is_let⟩ := by refine' CH.fn_top "is_let" "is_let" CH.s_is_let KX G ?a ?l ?c ?k; case a|l|c|k=>k_is
  obtain ⟨f_lower_bound,d_lower_bound,m_lower_bound,F_lower_bound⟩ := by refine' CH.fn_top "lower_bound" "lower_bound" CH.s_lower_bound KX G ?a ?l ?c ?k; case a|l|c|k=>k_is
  obtain ⟨f_upper_bound,d_upper_bound,m_upper_bound,F_upper_bound⟩ := by refine' CH.fn_top "upper_bound" "upper_bound" CH.s_upper_bound KX G ?a ?l ?c ?k; case a|l|c|k=>k_is
  obtain ⟨f_planned,d_planned,m_planned,F_planned⟩ := by refine' CH.fn_top "planned" "planned" CH.s_planned KX G ?a ?l ?c ?k; case a|l|c|k=>k_is
  obtain ⟨f_nodes_before,d_nodes_before,m_nodes_before,F_nodes_before⟩ := by refine' CH.fn_top "nodes_before" "nodes_before" CH.s_nodes_before KX G ?a ?l ?c ?k; case a|l|c|k=>k_is
  obtain ⟨f_all_between,d_all_between,m_all_between,F_all_between⟩ := by refine' CH.fn_top "all_between" "all_between" CH.s_all_between KX G ?a ?l ?c ?k; case a|l|c|k=>k_is
  obtain ⟨f_tree_refusal,d_tree_refusal,m_tree_refusal,F_tree_refusal⟩ := by refine' CH.fn_top "tree_refusal" "tree_refusal" CH.s_tree_refusal KX G ?a ?l ?c ?k; case a|l|c|k=>k_is
  obtain ⟨f_trading_cost,d_trading_cost,m_trading_cost,F_trading_cost⟩ := by refine' CH.fn_top "trading_cost" "trading_cost" CH.s_trading_cost KX G ?a ?l ?c ?k; case a|l|c|k=>k_is
  obtain ⟨f_left_over,d_left_over,m_left_over,F_left_over⟩ := by refine' CH.fn_top "left_over" "left_over" CH.s_left_over KX G ?a ?l ?c ?k; case a|l|c|k=>k_is
  obtain ⟨f_walked,d_walked,m_walked,F_walked⟩ := by refine' CH.fn_top "walked" "walked" CH.s_walked KX G ?a ?l ?c ?k; case a|l|c|k=>k_is
  obtain ⟨f_answer_tree,d_answer_tree,m_answer_tree,F_answer_tree⟩ := by refine' CH.fn_top "answer_tree" "answer_tree" CH.s_answer_tree KX G ?a ?l ?c ?k; case a|l|c|k=>k_is
  obtain ⟨f_answer_claim,d_answer_claim,m_answer_claim,F_answer_claim⟩ := by refine' CH.fn_top "answer_claim" "answer_claim" CH.s_answer_claim KX G ?a ?l ?c ?k; case a|l|c|k=>k_is
  obtain ⟨f_answer_turn,d_answer_turn,m_answer_turn,F_answer_turn⟩ := by refine' CH.fn_top "answer_turn" "answer_turn" CH.s_answer_turn KX G ?a ?l ?c ?k; case a|l|c|k=>k_is
  obtain ⟨f_answer_sum,d_answer_sum,m_answer_sum,F_answer_sum⟩ := by refine' CH.fn_top "answer_sum" "answer_sum" CH.s_answer_sum KX G ?a ?l ?c ?k; case a|l|c|k=>k_is
  obtain ⟨f_answer_least,d_answer_least,m_answer_least,F_answer_least⟩ := by refine' CH.fn_top "answer_least" "answer_least" CH.s_answer_least KX G ?a ?l ?c ?k; case a|l|c|k=>k_is
  obtain ⟨f_answer_points,d_answer_points,m_answer_points,F_answer_points⟩ := by refine' CH.fn_top "answer_points" "answer_points" CH.s_answer_points KX G ?a ?l ?c ?k; case a|l|c|k=>k_is
  obtain ⟨f_answer_range,d_answer_range,m_answer_range,F_answer_range⟩ := by refine' CH.fn_top "answer_range" "answer_range" CH.s_answer_range KX G ?a ?l ?c ?k; case a|l|c|k=>k_is
  obtain ⟨f_answer_plan,d_answer_plan,m_answer_plan,F_answer_plan⟩ := by refine' CH.fn_top "answer_plan" "answer_plan" CH.s_answer_plan KX G ?a ?l ?c ?k; case a|l|c|k=>k_is
  obtain ⟨f_walk_refusal,d_walk_refusal,m_walk_refusal,F_walk_refusal⟩ := by refine' CH.fn_top "walk_refusal" "walk_refusal" CH.s_walk_refusal KX G ?a ?l ?c ?k; case a|l|c|k=>k_is
  obtain ⟨f_answer_walk,d_answer_walk,m_answer_walk,F_answer_walk⟩ := by refine' CH.fn_top "answer_walk" "answer_walk" CH.s_answer_walk KX G ?a ?l ?c ?k; case a|l|c|k=>k_is
  obtain ⟨f_answer_held,d_answer_held,m_answer_held,F_answer_held⟩ := by refine' CH.fn_top "answer_held" "answer_held" CH.s_answer_held KX G ?a ?l ?c ?k; case a|l|c|k=>k_is
  obtain ⟨f_answer_enough,d_answer_enough,m_answer_enough,F_answer_enough⟩ := by refine' CH.fn_top "answer_enough" "answer_enough" CH.s_answer_enough KX G ?a ?l ?c ?k; case a|l|c|k=>k_is
  obtain ⟨f_answer_quotes,d_answer_quotes,m_answer_quotes,F_answer_quotes⟩ := by refine' CH.fn_top "answer_quotes" "answer_quotes" CH.s_answer_quotes KX G ?a ?l ?c ?k; case a|l|c|k=>k_is
  obtain ⟨f_answer_told,d_answer_told,m_answer_told,F_answer_told⟩ := by refine' CH.fn_top "answer_told" "answer_told" CH.s_answer_told KX G ?a ?l ?c ?k; case a|l|c|k=>k_is
  obtain ⟨f_read_call,d_read_call,m_read_call,F_read_call⟩ := by refine' CH.fn_top "read_call" "read_call" CH.s_read_call KX G ?a ?l ?c ?k; case a|l|c|k=>k_is
  obtain ⟨f_answers,d_answers,m_answers,F_answers⟩ := by refine' CH.fn_top "answers" "answers" CH.s_answers KX G ?a ?l ?c ?k; case a|l|c|k=>k_is
  obtain ⟨c_Book,m_Book,cl_Book,ma_Book,kc_Book⟩ := by refine' CH.cls_top "Book" KX G ?a ?pg ?hd ?po ?sa ?mk ?kc; case a|pg|hd|po|sa|mk|kc=>k_is
  obtain ⟨f_Book_init,d_Book_init,F_Book_init,me_Book_init⟩ := by refine' CH.fn_meth "__init__" "Book.__init__" CH.s_Book_init KX G m_Book ?aC ?a ?i ?l ?c ?k; case aC|a|i|l|c|k=>k_is
  obtain ⟨f_Book_take_tree,d_Book_take_tree,F_Book_take_tree,me_Book_take_tree⟩ := by refine' CH.fn_meth "take_tree" "Book.take_tree" CH.s_Book_take_tree KX G m_Book ?aC ?a ?i ?l ?c ?k; case aC|a|i|l|c|k=>k_is
  obtain ⟨f_Book_put_claim,d_Book_put_claim,F_Book_put_claim,me_Book_put_claim⟩ := by refine' CH.fn_meth "put_claim" "Book.put_claim" CH.s_Book_put_claim KX G m_Book ?aC ?a ?i ?l ?c ?k; case aC|a|i|l|c|k=>k_is
  obtain ⟨f_Book_has_place,d_Book_has_place,F_Book_has_place,me_Book_has_place⟩ := by refine' CH.fn_meth "has_place" "Book.has_place" CH.s_Book_has_place KX G m_Book ?aC ?a ?i ?l ?c ?k; case aC|a|i|l|c|k=>k_is
  obtain ⟨f_Book_refusal,d_Book_refusal,F_Book_refusal,me_Book_refusal⟩ := by refine' CH.fn_meth "refusal" "Book.refusal" CH.s_Book_refusal KX G m_Book ?aC ?a ?i ?l ?c ?k; case aC|a|i|l|c|k=>k_is
  have na_Book_tree := by refine' CH.no_attr "tree" KX G m_Book ?aC ?a; case aC|a=>k_is
  have na_Book_claims := by refine' CH.no_attr "claims" KX G m_Book ?aC ?a; case aC|a=>k_is
  obtain ⟨c_Claim,m_Claim,cl_Claim,ma_Claim,kc_Claim⟩ := by refine' CH.cls_top "Claim" KX G ?a ?pg ?hd ?po ?sa ?mk ?kc; case a|pg|hd|po|sa|mk|kc=>k_is
  obtain ⟨f_Claim_init,d_Claim_init,F_Claim_init,me_Claim_init⟩ := by refine' CH.fn_meth "__init__" "Claim.__init__" CH.s_Claim_init KX G m_Claim ?aC ?a ?i ?l ?c ?k; case aC|a|i|l|c|k=>k_is
  have na_Claim_cash := by refine' CH.no_attr "cash" KX G m_Claim ?aC ?a; case aC|a=>k_is
  have na_Claim_units := by refine' CH.no_attr "units" KX G m_Claim ?aC ?a; case aC|a=>k_is
  obtain ⟨c_Tree,m_Tree,cl_Tree,ma_Tree,kc_Tree⟩ := by refine' CH.cls_top "Tree" KX G ?a ?pg ?hd ?po ?sa ?mk ?kc; case a|pg|hd|po|sa|mk|kc=>k_is
  obtain ⟨f_Tree_init,d_Tree_init,F_Tree_init,me_Tree_init⟩ := by refine' CH.fn_meth "__init__" "Tree.__init__" CH.s_Tree_init KX G m_Tree ?aC ?a ?i ?l ?c ?k; case aC|a|i|l|c|k=>k_is
  obtain ⟨f_Tree_has_node,d_Tree_has_node,F_Tree_has_node,me_Tree_has_node⟩ := by refine' CH.fn_meth "has_node" "Tree.has_node" CH.s_Tree_has_node KX G m_Tree ?aC ?a ?i ?l ?c ?k; case aC|a|i|l|c|k=>k_is
  obtain ⟨f_Tree_has_node_before_last,d_Tree_has_node_before_last,F_Tree_has_node_before_last,me_Tree_has_node_before_last⟩ := by refine' CH.fn_meth "has_node_before_last" "Tree.has_node_before_last" CH.s_Tree_has_node_before_last KX G m_Tree ?aC ?a ?i ?l ?c ?k; case aC|a|i|l|c|k=>k_is
  obtain ⟨f_Tree_has_way,d_Tree_has_way,F_Tree_has_way,me_Tree_has_way⟩ := by refine' CH.fn_meth "has_way" "Tree.has_way" CH.s_Tree_has_way KX G m_Tree ?aC ?a ?i ?l ?c ?k; case aC|a|i|l|c|k=>k_is
  obtain ⟨f_Tree_bid_at,d_Tree_bid_at,F_Tree_bid_at,me_Tree_bid_at⟩ := by refine' CH.fn_meth "bid_at" "Tree.bid_at" CH.s_Tree_bid_at KX G m_Tree ?aC ?a ?i ?l ?c ?k; case aC|a|i|l|c|k=>k_is
  obtain ⟨f_Tree_ask_at,d_Tree_ask_at,F_Tree_ask_at,me_Tree_ask_at⟩ := by refine' CH.fn_meth "ask_at" "Tree.ask_at" CH.s_Tree_ask_at KX G m_Tree ?aC ?a ?i ?l ?c ?k; case aC|a|i|l|c|k=>k_is
  have na_Tree_steps := by refine' CH.no_attr "steps" KX G m_Tree ?aC ?a; case aC|a=>k_is
  have na_Tree_growth := by refine' CH.no_attr "growth" KX G m_Tree ?aC ?a; case aC|a=>k_is
  have na_Tree_shrink := by refine' CH.no_attr "shrink" KX G m_Tree ?aC ?a; case aC|a=>k_is
  have na_Tree_bids := by refine' CH.no_attr "bids" KX G m_Tree ?aC ?a; case aC|a=>k_is
  have na_Tree_asks := by refine' CH.no_attr "asks" KX G m_Tree ?aC ?a; case aC|a=>k_is
  obtain ⟨c_Walk,m_Walk,cl_Walk,ma_Walk,kc_Walk⟩ := by refine' CH.cls_top "Walk" KX G ?a ?pg ?hd ?po ?sa ?mk ?kc; case a|pg|hd|po|sa|mk|kc=>k_is
  obtain ⟨f_Walk_init,d_Walk_init,F_Walk_init,me_Walk_init⟩ := by refine' CH.fn_meth "__init__" "Walk.__init__" CH.s_Walk_init KX G m_Walk ?aC ?a ?i ?l ?c ?k; case aC|a|i|l|c|k=>k_is
  have na_Walk_left := by refine' CH.no_attr "left" KX G m_Walk ?aC ?a; case aC|a=>k_is
  have na_Walk_held := by refine' CH.no_attr "held" KX G m_Walk ?aC ?a; case aC|a=>k_is
  obtain ⟨v_LIMIT,g_LIMIT,r_LIMIT⟩ := by refine' CH.int_top (x := "LIMIT") (z := 1000000) KX G ?a; (case a => k_is)
  obtain ⟨a_FORMS,g_FORMS,t_FORMS⟩ := by
   refine' CH.table KX G ?a ?l (CH.form_at KX G m_answer_tree ?a0 ?l0) (CH.form_at KX G m_answer_claim ?a1 ?l1) (CH.form_at KX G m_answer_turn ?a2 ?l2) (CH.form_at KX G m_answer_sum ?a3 ?l3) (CH.form_at KX G m_answer_least ?a4 ?l4) (CH.form_at KX G m_answer_points ?a5 ?l5) (CH.form_at KX G m_answer_range ?a6 ?l6) (CH.form_at KX G m_answer_plan ?a7 ?l7) (CH.form_at KX G m_answer_walk ?a8 ?l8) (CH.form_at KX G m_answer_held ?a9 ?l9) (CH.form_at KX G m_answer_enough ?a10 ?l10) (CH.form_at KX G m_answer_quotes ?a11 ?l11) (CH.form_at KX G m_answer_told ?a12 ?l12)
   case a|l|a0|l0|a1|l1|a2|l2|a3|l3|a4|l4|a5|l5|a6|l6|a7|l7|a8|l8|a9|l9|a10|l10|a11|l11|a12|l12=>k_is
  have n_range := PySem.W.mg_none_of (n := "range") KX G (by k_is)
  have n_zip := PySem.W.mg_none_of (n := "zip") KX G (by k_is)
  have n_all := PySem.W.mg_none_of (n := "all") KX G (by k_is)
  have n_any := PySem.W.mg_none_of (n := "any") KX G (by k_is)
  have n_enumerate := PySem.W.mg_none_of (n := "enumerate") KX G (by k_is)
  have n_abs := PySem.W.mg_none_of (n := "abs") KX G (by k_is)
  have n_ord := PySem.W.mg_none_of (n := "ord") KX G (by k_is)
  have n_len := PySem.W.mg_none_of (n := "len") KX G (by k_is)
  have T : CH.Txt _ mg ⟨f_Book_init,d_Book_init,f_Book_take_tree,d_Book_take_tree,f_Book_put_claim,d_Book_put_claim,f_Book_has_place,d_Book_has_place,f_Book_refusal,d_Book_refusal,f_Claim_init,d_Claim_init,f_empty_claim,d_empty_claim,f_turned,d_turned,f_together,d_together,f_common_divisor,d_common_divisor,f_ratio,d_ratio,f_plus,d_plus,f_minus,d_minus,f_times,d_times,f_over,d_over,f_less,d_less,f_lesser,d_lesser,f_greater,d_greater,f_text_bytes,d_text_bytes,f_counted_bytes,d_counted_bytes,f_scaled,d_scaled,f_stands_before,d_stands_before,f_merged,d_merged,f_lies_above,d_lies_above,f_upper_row,d_upper_row,f_piece_slope,d_piece_slope,f_value_at,d_value_at,f_cut_row,d_cut_row,f_least_cash,d_least_cash,f_end_points,d_end_points,f_last_step,d_last_step,f_row_before,d_row_before,f_step_before,d_step_before,f_points_by_step,d_points_by_step,f_node_range,d_node_range,f_is_let,d_is_let,f_lower_bound,d_lower_bound,f_upper_bound,d_upper_bound,f_planned,d_planned,f_Tree_init,d_Tree_init,f_Tree_has_node,d_Tree_has_node,f_Tree_has_node_before_last,d_Tree_has_node_before_last,f_Tree_has_way,d_Tree_has_way,f_Tree_bid_at,d_Tree_bid_at,f_Tree_ask_at,d_Tree_ask_at,f_nodes_before,d_nodes_before,f_all_between,d_all_between,f_tree_refusal,d_tree_refusal,f_Walk_init,d_Walk_init,f_trading_cost,d_trading_cost,f_left_over,d_left_over,f_walked,d_walked,f_answer_tree,d_answer_tree,f_answer_claim,d_answer_claim,f_answer_turn,d_answer_turn,f_answer_sum,d_answer_sum,f_answer_least,d_answer_least,f_answer_points,d_answer_points,f_answer_range,d_answer_range,f_answer_plan,d_answer_plan,f_walk_refusal,d_walk_refusal,f_answer_walk,d_answer_walk,f_answer_held,d_answer_held,f_answer_enough,d_answer_enough,f_answer_quotes,d_answer_quotes,f_answer_told,d_answer_told,f_read_call,d_read_call,f_answers,d_answers,c_Book,c_Claim,c_Tree,c_Walk,v_LIMIT,a_FORMS⟩ := ⟨F_Book_init,CH.bd_Book_init F_Book_init,F_Book_take_tree,CH.bd_Book_take_tree F_Book_take_tree,me_Book_take_tree,F_Book_put_claim,CH.bd_Book_put_claim F_Book_put_claim,me_Book_put_claim,F_Book_has_place,CH.bd_Book_has_place F_Book_has_place,me_Book_has_place,F_Book_refusal,CH.bd_Book_refusal F_Book_refusal,me_Book_refusal,F_Claim_init,CH.bd_Claim_init F_Claim_init,F_empty_claim,CH.bd_empty_claim F_empty_claim,m_empty_claim,F_turned,CH.bd_turned F_turned,m_turned,F_together,CH.bd_together F_together,m_together,F_common_divisor,CH.bd_common_divisor F_common_divisor,m_common_divisor,F_ratio,CH.bd_ratio F_ratio,m_ratio,F_plus,CH.bd_plus F_plus,m_plus,F_minus,CH.bd_minus F_minus,m_minus,F_times,CH.bd_times F_times,m_times,F_over,CH.bd_over F_over,m_over,F_less,CH.bd_less F_less,m_less,F_lesser,CH.bd_lesser F_lesser,m_lesser,F_greater,CH.bd_greater F_greater,m_greater,F_text_bytes,CH.bd_text_bytes F_text_bytes,m_text_bytes,F_counted_bytes,CH.bd_counted_bytes F_counted_bytes,m_counted_bytes,F_scaled,CH.bd_scaled F_scaled,m_scaled,F_stands_before,CH.bd_stands_before F_stands_before,m_stands_before,F_merged,CH.bd_merged F_merged,m_merged,F_lies_above,CH.bd_lies_above F_lies_above,m_lies_above,F_upper_row,CH.bd_upper_row F_upper_row,m_upper_row,F_piece_slope,CH.bd_piece_slope F_piece_slope,m_piece_slope,F_value_at,CH.bd_value_at F_value_at,m_value_at,F_cut_row,CH.bd_cut_row F_cut_row,m_cut_row,F_least_cash,CH.bd_least_cash F_least_cash,m_least_cash,F_end_points,CH.bd_end_points F_end_points,m_end_points,F_last_step,CH.bd_last_step F_last_step,m_last_step,F_row_before,CH.bd_row_before F_row_before,m_row_before,F_step_before,CH.bd_step_before F_step_before,m_step_before,F_points_by_step,CH.bd_points_by_step F_points_by_step,m_points_by_step,F_node_range,CH.bd_node_range F_node_range,m_node_range,F_is_let,CH.bd_is_let F_is_let,m_is_let,F_lower_bound,CH.bd_lower_bound F_lower_bound,m_lower_bound,F_upper_bound,CH.bd_upper_bound F_upper_bound,m_upper_bound,F_planned,CH.bd_planned F_planned,m_planned,F_Tree_init,CH.bd_Tree_init F_Tree_init,F_Tree_has_node,CH.bd_Tree_has_node F_Tree_has_node,me_Tree_has_node,F_Tree_has_node_before_last,CH.bd_Tree_has_node_before_last F_Tree_has_node_before_last,me_Tree_has_node_before_last,F_Tree_has_way,CH.bd_Tree_has_way F_Tree_has_way,me_Tree_has_way,F_Tree_bid_at,CH.bd_Tree_bid_at F_Tree_bid_at,me_Tree_bid_at,F_Tree_ask_at,CH.bd_Tree_ask_at F_Tree_ask_at,me_Tree_ask_at,F_nodes_before,CH.bd_nodes_before F_nodes_before,m_nodes_before,F_all_between,CH.bd_all_between F_all_between,m_all_between,F_tree_refusal,CH.bd_tree_refusal F_tree_refusal,m_tree_refusal,F_Walk_init,CH.bd_Walk_init F_Walk_init,F_trading_cost,CH.bd_trading_cost F_trading_cost,m_trading_cost,F_left_over,CH.bd_left_over F_left_over,m_left_over,F_walked,CH.bd_walked F_walked,m_walked,F_answer_tree,CH.bd_answer_tree F_answer_tree,m_answer_tree,F_answer_claim,CH.bd_answer_claim F_answer_claim,m_answer_claim,F_answer_turn,CH.bd_answer_turn F_answer_turn,m_answer_turn,F_answer_sum,CH.bd_answer_sum F_answer_sum,m_answer_sum,F_answer_least,CH.bd_answer_least F_answer_least,m_answer_least,F_answer_points,CH.bd_answer_points F_answer_points,m_answer_points,F_answer_range,CH.bd_answer_range F_answer_range,m_answer_range,F_answer_plan,CH.bd_answer_plan F_answer_plan,m_answer_plan,F_walk_refusal,CH.bd_walk_refusal F_walk_refusal,m_walk_refusal,F_answer_walk,CH.bd_answer_walk F_answer_walk,m_answer_walk,F_answer_held,CH.bd_answer_held F_answer_held,m_answer_held,F_answer_enough,CH.bd_answer_enough F_answer_enough,m_answer_enough,F_answer_quotes,CH.bd_answer_quotes F_answer_quotes,m_answer_quotes,F_answer_told,CH.bd_answer_told F_answer_told,m_answer_told,F_read_call,CH.bd_read_call F_read_call,m_read_call,F_answers,CH.bd_answers F_answers,m_answers,cl_Book,⟨ma_Book,me_Book_init.at_,me_Book_init.fn,kc_Book⟩,m_Book,na_Book_tree,na_Book_claims,cl_Claim,⟨ma_Claim,me_Claim_init.at_,me_Claim_init.fn,kc_Claim⟩,m_Claim,na_Claim_cash,na_Claim_units,cl_Tree,⟨ma_Tree,me_Tree_init.at_,me_Tree_init.fn,kc_Tree⟩,m_Tree,na_Tree_steps,na_Tree_growth,na_Tree_shrink,na_Tree_bids,na_Tree_asks,cl_Walk,⟨ma_Walk,me_Walk_init.at_,me_Walk_init.fn,kc_Walk⟩,m_Walk,na_Walk_left,na_Walk_held,n_range,n_zip,n_all,n_any,n_enumerate,n_abs,n_ord,n_len,g_LIMIT,r_LIMIT,g_FORMS,t_FORMS⟩
  have e := hmg.symm.trans m_answers
  cases e
  exact ⟨d_answers,CH.bt_answers F_answers,fun base _ _ => CH.ok_answers T⟩
 case S =>
  intro K H xs a hO hwi hask hx
  cases hx with
  | cons h1 h2 =>
   cases h2
   cases h1 with
   | lst hs ha =>
    have e := L2.ints_dw a.1 _ ha
    subst e
    exact ⟨_,a.1,rfl,hs,hask,fun H' p hp => .lst (L2.SqL.of hp) (L2.dw_ints _)⟩
#print axioms PySem.Challenge.cw_costhedge_s01_answers_holds
