import PyProof.Rows.All
import Wide.All
import OpenK.AllK
import Wide.FinOn
import PySem.Challenge.RW_quiethall_k04_refusals
import Lean
import PyProof.EqAt
import PyProof.EqKinds
import PyProof.TupleCall
import PyProof.StationsW
import PyProof.ExcClass
import OpenK.KOwn
import PyProof.ExcClass2
import PyProof.ExcBaseAll.ValueError
import PyProof.RulesAs
import PyProof.NsDelKeeps
import PyProof.Rows.Catch
import PyProof.IsiBase
import PyProof.ExcAttrAll.ValueError
import PyProof.NeKinds
set_option Elab.async false
set_option linter.all false
set_option maxRecDepth 100000
namespace L2
open PySem PySem.Spec PyProof.Rows
abbrev Key:=Sum Int Str
def keyIs : Key → Value → Bool
  | .inl k,v => Value.isInt k v
  | .inr x,v => Value.isStrOf x v
def keyH (w : World) : Key → Int
  | .inl k => hashInt k
  | .inr x => hashStr w x
theorem keyIs_shape : ∀ {k : Key} {v : Value},keyIs k v = true → (∃ i t,k = Sum.inl i ∧ v = Value.int i t) ∨ (∃ x t,k = Sum.inr x ∧ v = Value.str x t)
  | .inl i,v,h => by
    obtain ⟨t,e⟩:=Value.isInt_shape (k:=i) (v:=v) h
    exact .inl ⟨i,t,rfl,e⟩
  | .inr x,v,h => by
    obtain ⟨t,e⟩:=Value.isStrOf_shape (x:=x) (v:=v) h
    exact .inr ⟨x,t,rfl,e⟩
theorem keyIs_int (i : Int) (t : Tok) : keyIs (.inl i) (.int i t) = true:=by simp [keyIs,Value.isInt]
theorem keyIs_str (x : Str) (t : Tok) : keyIs (.inr x) (.str x t) = true:=by simp [keyIs,Value.isStrOf]
theorem key_ll (a b : Int) : decide ((Sum.inl a : Key) = Sum.inl b) = (a == b):=by
  by_cases e : a = b
  · subst e; simp
  · have h : ¬ (Sum.inl a : Key) = Sum.inl b:=fun q => e (Sum.inl.inj q)
    rw [decide_eq_false h]
    exact (beq_eq_false_iff_ne.mpr e).symm
theorem key_rr (a b : Str) : decide ((Sum.inr a : Key) = Sum.inr b) = decide (a = b):=by
  by_cases e : a = b
  · subst e; simp
  · have h : ¬ (Sum.inr a : Key) = Sum.inr b:=fun q => e (Sum.inr.inj q)
    rw [decide_eq_false h,decide_eq_false e]
theorem key_lr (a : Int) (b : Str) : decide ((Sum.inl a : Key) = Sum.inr b) = false:=decide_eq_false (fun q => nomatch q)
theorem key_rl (a : Str) (b : Int) : decide ((Sum.inr a : Key) = Sum.inl b) = false:=decide_eq_false (fun q => nomatch q)
def mixKind (prog : Program) (w : World) : PySem.KeyKind prog w Key where
  is:=keyIs
  hash:=keyH w
  inj:=fun v a b ha hb => by
    rcases keyIs_shape ha with ⟨i,t,rfl,rfl⟩ | ⟨x,t,rfl,rfl⟩
    · rcases keyIs_shape hb with ⟨j,u,rfl,e⟩ | ⟨y,u,rfl,e⟩
      · injection e with e1 _; rw [e1]
      · exact nomatch e
    · rcases keyIs_shape hb with ⟨j,u,rfl,e⟩ | ⟨y,u,rfl,e⟩
      · exact nomatch e
      · injection e with e1 _; rw [e1]
  byValue:=fun k v h => by
    rcases keyIs_shape h with ⟨i,t,rfl,rfl⟩ | ⟨x,t,rfl,rfl⟩ <;> rfl
  pyHash:=fun hv h => by
    rcases keyIs_shape hv with ⟨i,t,rfl,rfl⟩ | ⟨x,t,rfl,rfl⟩
    · exact wpAny_pyHash_int h
    · exact wpAny_pyHash_str h
  eqBool:=fun hu hv h => by
    rcases keyIs_shape hu with ⟨i,t,rfl,rfl⟩ | ⟨x,t,rfl,rfl⟩
    · rcases keyIs_shape hv with ⟨j,u,rfl,rfl⟩ | ⟨y,u,rfl,rfl⟩
      · rw [key_ll] at h; exact wpAny_eqBool_int h
      · rw [key_lr] at h; exact SeqAt.EqAt.int_str i t y u _ _ _ _ h
    · rcases keyIs_shape hv with ⟨j,u,rfl,rfl⟩ | ⟨y,u,rfl,rfl⟩
      · rw [key_rl] at h; exact SeqAt.EqAt.str_int x t j u _ _ _ _ h
      · rw [key_rr] at h; exact wpAny_eqBool_str h
  «strs»:=fun k x t v h => by
    rcases keyIs_shape h with ⟨i,u,rfl,e⟩ | ⟨y,u,rfl,e⟩
    · exact nomatch e
    · injection e with e1 _
      subst e1
      cases v <;> rfl
theorem mixKind_int (prog : Program) (w : World) (i : Int) (t : Tok) : (mixKind prog w).is (.inl i) (.int i t) = true:=keyIs_int i t
theorem mixKind_str (prog : Program) (w : World) (x : Str) (t : Tok) : (mixKind prog w).is (.inr x) (.str x t) = true:=keyIs_str x t
end L2
namespace L2
open PySem PySem.Spec PyProof.Rows
inductive V where
  | non | bl (b : Bool) | int (i : Int) | str (x : Str) | byt (b : Array UInt8) | flt (b : UInt64) | ref (a : Addr) | ty (n : String)
  deriving DecidableEq
def RelV : V → Value → Prop
  | .non,u => u = Value.none
  | .bl b,u => u = Value.bool b
  | .int i,u => ∃ t,u = Value.int i t
  | .str x,u => ∃ t,u = Value.str x t
  | .byt b,u => ∃ t,u = Value.bytes b t
  | .flt b,u => ∃ t,u = Value.float b t
  | .ref a,u => u = Value.ref a
  | .ty n,u => u = Value.type n
abbrev Vals : List V → List Value → Prop:=Paired RelV
theorem Vals.length {xs : List V} {us : List Value} (r : Vals xs us) : xs.length = us.length:=Paired.length r
theorem Vals.get : ∀ {xs : List V} {us : List Value} {i : Nat} {x : V},Vals xs us → xs[i]? = some x → ∃ u,us[i]? = some u ∧ RelV x u
  | _,_,_,_,.nil,e => by simp at e
  | _,_,0,_,.cons r _,e => by simp at e; subst e; exact ⟨_,rfl,r⟩
  | _,_,i + 1,x,.cons _ t,e => by
    obtain ⟨u,h1,h2⟩:=Vals.get (i:=i) (x:=x) t (by simpa using e)
    exact ⟨u,by simpa using h1,h2⟩
theorem Vals.append : ∀ {xs ys : List V} {us ws : List Value},Vals xs us → Vals ys ws → Vals (xs ++ ys) (us ++ ws)
  | _,_,_,_,.nil,s => s
  | _,_,_,_,.cons r t,s => .cons r (Vals.append t s)
theorem Vals.take : ∀ {xs : List V} {us : List Value} (n : Nat),Vals xs us → Vals (xs.take n) (us.take n)
  | _,_,0,_ => .nil
  | _,_,_ + 1,.nil => .nil
  | _,_,n + 1,.cons r t => .cons r (Vals.take n t)
theorem Vals.drop : ∀ {xs : List V} {us : List Value} (n : Nat),Vals xs us → Vals (xs.drop n) (us.drop n)
  | _,_,0,r => r
  | _,_,_ + 1,.nil => .nil
  | _,_,n + 1,.cons _ t => Vals.drop n t
def RelO : Option V → Option Value → Prop
  | some v,some u => RelV v u
  | none,none => True
  | _,_ => False
def KV {κ : Type} : List (κ × V) → List (κ × Value) → Prop:=Paired fun (p : κ × V) (q : κ × Value) => p.1 = q.1 ∧ RelV p.2 q.2
def kV : Key → V
  | .inl i => .int i
  | .inr x => .str x
inductive HO where
  | lst (xs : List V)
  | tup (xs : List V)
  | dK (kvs : List (Key × V)) | dT (kvs : List (List Key × V))
  | set (S : Int → Bool) (n : Nat)
  | ins (C dx : Addr) (fs : List (Str × V))
  | own (x : Addr)
  | xd (fs : List (Str × V))
  | met (f x : Addr)
  | rng (lo hi : Int)
  | frz (o : Obj) (u : HO)
  | tbl (ps : Array Value)
  | ext (φ : Heap → Prop)
abbrev Hp:=Addr → Option HO
def upd (H : Hp) (a : Addr) (o : HO) : Hp:=fun b => if b = a then some o else H b
theorem upd_same {H : Hp} {a : Addr} {o : HO} : upd H a o a = some o:=by unfold upd; rw [if_pos rfl]
theorem upd_ne {H : Hp} {a b : Addr} {o : HO} (h : b ≠ a) : upd H a o b = H b:=by unfold upd; rw [if_neg h]
theorem upd_upd {H : Hp} {a : Addr} {o u : HO} : upd (upd H a o) a u = upd H a u:=by
  funext b; unfold upd; split <;> rfl
theorem ne_of {H : Hp} {a b : Addr} {o u : HO} (h : H a = some o) (h' : H b = some u) (d : o ≠ u) : a ≠ b:=by
  intro e; subst e; rw [h] at h'; exact d (Option.some.inj h')
theorem ne_of_none {H : Hp} {a b : Addr} {o : HO} (h : H a = some o) (h' : H b = none) : a ≠ b:=by
  intro e; subst e; rw [h] at h'; cases h'
section
variable (P : Program) (w : World)
def ObjOk (H : Hp) (h : Heap) (a : Addr) : HO → Prop
  | .lst xs => xs.length ≤ sizeLine ∧ ∃ (its : List Value) (n : Nat),Vals xs its ∧ h.get? a = some { cls:=.type "list",data:=.seq its.toArray n }
  | .tup xs => xs.length ≤ sizeLine ∧ ∃ its : List Value,Vals xs its ∧ IsTup h a its.toArray
  | .dK kvs => kvs.length ≤ sizeLine ∧ (a == sysModules) = false ∧ ∃ vs,KV kvs vs ∧ h.DictOf (mixKind P w) a vs
  | .dT kvs => kvs.length ≤ sizeLine ∧ (a == sysModules) = false ∧ ∃ xs : List (List Key × Addr × Value),
      Paired (fun (p : List Key × V) (q : List Key × Addr × Value) => p.1 = q.1 ∧ H q.2.1 = some (.tup (p.1.map kV)) ∧ RelV p.2 q.2.2) kvs xs ∧
      ∃ o es ep,h.get? a = some o ∧ o.ExactDict ∧ o.data = .dict es ep ∧ es.toList = xs.map (entryOfKey (tupleKind (mixKind P w))) ∧ (xs.map (·.1)).Nodup
  | .set S n => h.SetOf (intKind P w) a S n
  | .ins C dx fs => H dx = some (.own a) ∧ fs.length ≤ 1000 ∧ dx ≠ a ∧ h.get? a = some (PySem.W.instObj C dx) ∧
      ∃ mA,h.Ns1 dx mA ∧ (∀ f,RelO (fs.lookup f) (mA f)) ∧ PySem.Within mA (fs.map (·.1))
  | .own _ => ∃ o,h.get? a = some o
  | .xd fs => ∃ mA,h.Ns1 a mA ∧ ∀ f,RelO (fs.lookup f) (mA f)
  | .rng lo hi => ∃ t u v,h.get? a = some { cls:=.type "range",data:=.fields #[.int lo t,.int hi u,.int 1 v] }
  | .frz o u => h.get? a = some o ∧ ObjOk H h a u
  | .tbl ps => h.get? a = some { cls:=.none,data:=.fields ps }
  | .met f x => h.get? a = some (PySem.W.methodObj (.ref f) (.ref x))
  | .ext φ => φ h ∧ (∃ o,h.get? a = some o) ∧ ∀ h1 h2 : Heap,φ h1 → (∀ o,h1.get? a = some o → h2.get? a = some o) → φ h2
def HOk (H : Hp) (h : Heap) : Prop:=∀ a o,H a = some o → ObjOk P w H h a o
end
section
variable {P : Program} {w : World} {H H' : Hp} {h h' : Heap} {a : Addr} {o : HO}
theorem ObjOk.lt (x : ObjOk P w H h a o) : a < h.objs.size:=by
  cases o with
  | lst xs => obtain ⟨_,_,_,_,e⟩:=x; exact Heap.lt_size e
  | tup xs => obtain ⟨_,_,_,p⟩:=x; exact p.lt
  | dK kvs => obtain ⟨_,_,_,_,o,_,_,e,_⟩:=x; exact Heap.lt_size e
  | dT kvs => obtain ⟨_,_,_,_,o,_,_,e,_⟩:=x; exact Heap.lt_size e
  | set S n => obtain ⟨o,_,_,_,e,_⟩:=x; exact Heap.lt_size e
  | ins C dx fs => obtain ⟨_,_,_,e,_⟩:=x; exact Heap.lt_size e
  | own y => obtain ⟨_,e⟩:=x; exact Heap.lt_size e
  | xd fs => obtain ⟨_,⟨_,_,_,e,_⟩,_⟩:=x; exact Heap.lt_size e
  | rng lo hi => obtain ⟨_,_,_,e⟩:=x; exact Heap.lt_size e
  | frz ob u => obtain ⟨e,_⟩:=x; exact Heap.lt_size e
  | tbl ps => exact Heap.lt_size (show h.get? a = some _ from x)
  | met f y => exact Heap.lt_size (show h.get? a = some _ from x)
  | ext φ => obtain ⟨_,⟨_,e⟩,_⟩:=x; exact Heap.lt_size e
theorem Paired.mapP {α β : Type} {F G : α → β → Prop} : ∀ {l₁ : List α} {l₂ : List β},Paired F l₁ l₂ → (∀ a b,F a b → G a b) → Paired G l₁ l₂
  | _,_,.nil,_ => .nil
  | _,_,.cons r t,f => .cons (f _ _ r) (Paired.mapP t f)
theorem ObjOk.stay (x : ObjOk P w H h a o) (k : ∀ b u,(b = a ∨ H b = some (.own a)) → h.get? b = some u → h'.get? b = some u)
    (ho : ∀ b,H b = some (.own a) → H' b = some (.own a)) (ht : ∀ b xs,H b = some (.tup xs) → H' b = some (.tup xs)) : ObjOk P w H' h' a o:=by
  induction o with
  | lst xs => obtain ⟨z,its,n,r,e⟩:=x; exact ⟨z,its,n,r,k _ _ (.inl rfl) e⟩
  | tup xs => obtain ⟨z,its,r,ob,e,c⟩:=x; exact ⟨z,its,r,ob,k _ _ (.inl rfl) e,c⟩
  | dK kvs => obtain ⟨z,y,vs,r,ob,es,ep,e,c⟩:=x; exact ⟨z,y,vs,r,ob,es,ep,k _ _ (.inl rfl) e,c⟩
  | dT kvs =>
    obtain ⟨z,y,xs,r,ob,es,ep,e,c⟩:=x
    exact ⟨z,y,xs,Paired.mapP r fun p q z => ⟨z.1,ht _ _ z.2.1,z.2.2⟩,ob,es,ep,k _ _ (.inl rfl) e,c⟩
  | set S n => obtain ⟨ob,es,ep,t,e,c⟩:=x; exact ⟨ob,es,ep,t,k _ _ (.inl rfl) e,c⟩
  | ins C dx fs =>
    obtain ⟨d,z,ne,e,mA,⟨od,es,ep,e2,c⟩,r⟩:=x
    exact ⟨ho _ d,z,ne,k _ _ (.inl rfl) e,mA,⟨od,es,ep,k _ _ (.inr d) e2,c⟩,r⟩
  | own y => obtain ⟨ob,e⟩:=x; exact ⟨ob,k _ _ (.inl rfl) e⟩
  | xd fs => obtain ⟨mA,⟨od,es,ep,e,c⟩,r⟩:=x; exact ⟨mA,⟨od,es,ep,k _ _ (.inl rfl) e,c⟩,r⟩
  | rng lo hi => obtain ⟨t,u,v,e⟩:=x; exact ⟨t,u,v,k _ _ (.inl rfl) e⟩
  | frz ob u ih => obtain ⟨e,q⟩:=x; exact ⟨k _ _ (.inl rfl) e,ih q⟩
  | tbl ps =>
    have e : h.get? a = some { cls:=.none,data:=.fields ps }:=x
    show h'.get? a = some { cls:=.none,data:=.fields ps }
    exact k a _ (.inl rfl) e
  | met f y =>
    have e : h.get? a = some (PySem.W.methodObj (.ref f) (.ref y)):=x
    show h'.get? a = some (PySem.W.methodObj (.ref f) (.ref y))
    exact k a _ (.inl rfl) e
  | ext φ => obtain ⟨p,⟨o,e⟩,st⟩:=x; exact ⟨st _ _ p fun o q => k _ _ (.inl rfl) q,⟨o,k _ _ (.inl rfl) e⟩,st⟩
theorem HOk.lt (x : HOk P w H h) (e : H a = some o) : a < h.objs.size:=(x a o e).lt
theorem HOk.fresh (x : HOk P w H h) (e : h.objs.size ≤ a) : H a = none:=by
  cases q : H a with
  | none => rfl
  | some u => exact absurd (Nat.lt_of_lt_of_le (x.lt q) e) (Nat.lt_irrefl _)
theorem HOk.kept (x : HOk P w H h) (k : ∀ b u,h.get? b = some u → h'.get? b = some u) : HOk P w H h':=fun a o e =>
  (x a o e).stay (fun b u _ q => k b u q) (fun _ q => q) fun _ _ q => q
theorem HOk.laid (x : HOk P w H h) (k : ∀ b u,h.get? b = some u → h'.get? b = some u) (hp : h.objs.size ≤ a) (new : ObjOk P w (upd H a o) h' a o) : HOk P w (upd H a o) h':=fun b u e => by
  have hn:=x.fresh hp
  by_cases hb : b = a
  · subst hb; rw [upd_same] at e; cases e; exact new
  · rw [upd_ne hb] at e
    exact (x b u e).stay (fun c v _ q => k c v q) (fun c q => by rw [upd_ne (ne_of_none q hn)]; exact q) fun c xs q => by rw [upd_ne (ne_of_none q hn)]; exact q
end
def Rd (H : Hp) (a : Addr) (u : HO) : Prop:=H a = some u ∨ ∃ o,H a = some (.frz o u)
theorem Rd.ok {P : Program} {w : World} {H : Hp} {h : Heap} {a : Addr} {u : HO} (r : Rd H a u) (x : HOk P w H h) : ObjOk P w H h a u:=by
  rcases r with r | ⟨o,r⟩
  · exact x a u r
  · obtain ⟨_,q⟩:=x a _ r
    exact q
def Mut : Option HO → Prop
  | some (.lst _) => True
  | some (.dK _) => True
  | some (.dT _) => True
  | some (.set _ _) => True
  | some (.ins _ _ _) => True
  | some (.ext _) => True
  | _ => False
section
variable {P : Program} {w : World} {H : Hp} {h h' : Heap} {x e : Addr} {o' : HO}
theorem HOk.write (ok : HOk P w H h) (mu : Mut (H x)) (he : e = x ∨ H e = some (.own x)) (k : ∀ b u,b ≠ e → h.get? b = some u → h'.get? b = some u) (heo : ∃ u,h'.get? e = some u)
    (new : ObjOk P w (upd H x o') h' x o') : HOk P w (upd H x o') h':=fun b u q => by
  have nown : ∀ c y,H c = some (.own y) → c ≠ x:=fun c y r z => by subst z; rw [r] at mu; exact mu
  have ntup : ∀ c xs,H c = some (.tup xs) → c ≠ x:=fun c xs r z => by subst z; rw [r] at mu; exact mu
  by_cases hb : b = x
  · subst hb; rw [upd_same] at q; cases q; exact new
  · rw [upd_ne hb] at q
    by_cases hbe : b = e
    · have q' : H b = some (.own x):=by
        rcases he with z | z
        · exact absurd (hbe.trans z) hb
        · rw [hbe]; exact z
      rw [q] at q'; cases q'
      obtain ⟨v,hv⟩:=heo
      exact ⟨v,by rw [hbe]; exact hv⟩
    · refine (ok b u q).stay (fun c v hc r => k c v ?_ r) (fun c r => by rw [upd_ne (nown c b r)]; exact r) fun c xs r => by rw [upd_ne (ntup c xs r)]; exact r
      rcases hc with rfl | hc
      · exact hbe
      · rintro rfl
        rcases he with z | z
        · exact nown c b hc z
        · rw [hc] at z; cases z; exact hb rfl
end
structure Un (fs ex : List Addr) (H H' : Hp) (h h' : Heap) : Prop where
  keep : ∀ b o,h.get? b = some o → H b = none → b ∉ fs → b ∉ ex → h'.get? b = some o
  slot : ∀ b o,h.get? b = some o → H b = none → b ∈ fs → b ∉ ex → ∃ sl,h'.get? b = some { o with slots:=sl }
  free : ∀ b o,h.get? b = some o → H b = none → b ∉ ex → H' b = none
  there : ∀ b o,h.get? b = some o → b ∉ ex → ∃ o',h'.get? b = some o'
  tups : ∀ b xs,H b = some (.tup xs) → H' b = some (.tup xs)
  frzs : ∀ b o u,H b = some (.frz o u) → H' b = some (.frz o u)
  tbls : ∀ b ps,H b = some (.tbl ps) → ∃ more,H' b = some (.tbl (ps ++ more))
section
variable {fs fs' ex ex' : List Addr} {H H1 H2 : Hp} {h h1 h2 h' : Heap} {a x e : Addr} {o : HO}
theorem Un.any (u : Un fs ex H H1 h h1) {b : Addr} {ob : Obj} (q : h.get? b = some ob) (n : H b = none) (hx : b ∉ ex) : ∃ sl,h1.get? b = some { ob with slots:=sl }:=by
  by_cases hb : b ∈ fs
  · exact u.slot b ob q n hb hx
  · exact ⟨ob.slots,u.keep b ob q n hb hx⟩
theorem Un.kept (k : ∀ b u,h.get? b = some u → h'.get? b = some u) : Un fs ex H H h h' :=
  ⟨fun b ob q _ _ _ => k b ob q,fun b ob q _ _ _ => ⟨ob.slots,k b ob q⟩,fun _ _ _ n _ => n,fun b ob q _ => ⟨ob,k b ob q⟩,fun _ _ q => q,fun _ _ _ q => q,fun _ ps q => ⟨#[],by rw [q]; simp⟩⟩
theorem Un.refl : Un fs ex H H h h:=Un.kept fun _ _ q => q
theorem Un.laid (k : ∀ b u,h.get? b = some u → h'.get? b = some u) (hp : h.objs.size ≤ a) (hn : H a = none) : Un fs ex H (upd H a o) h h' where
  keep:=fun b u q _ _ _ => k b u q
  slot:=fun b u q _ _ _ => ⟨u.slots,k b u q⟩
  free:=fun b u q n _ => by rw [upd_ne (Nat.ne_of_lt (Nat.lt_of_lt_of_le (Heap.lt_size q) hp))]; exact n
  there:=fun b u q _ => ⟨u,k b u q⟩
  tups:=fun b xs q => by rw [upd_ne (ne_of_none q hn)]; exact q
  frzs:=fun b u xs q => by rw [upd_ne (ne_of_none q hn)]; exact q
  tbls:=fun b ps q => ⟨#[],by rw [upd_ne (ne_of_none q hn),q]; simp⟩
theorem Un.write (mu : Mut (H x)) (he : e = x ∨ H e = some (.own x)) (k : ∀ b u,b ≠ e → h.get? b = some u → h'.get? b = some u) (heo : ∃ u,h'.get? e = some u) : Un fs ex H (upd H x o) h h':=by
  have hx : ∀ b,H b = none → b ≠ x:=fun b n z => by subst z; rw [n] at mu; exact mu
  have hb : ∀ b,H b = none → b ≠ e:=fun b n z => by
    subst z
    rcases he with r | r
    · exact hx b n r
    · rw [n] at r; cases r
  have hm : ∀ b u,H b = some u → ¬ Mut (some u) → b ≠ x:=fun b u q nm z => by subst z; rw [q] at mu; exact nm mu
  refine ⟨fun b u q n _ _ => k b u (hb b n) q,fun b u q n _ _ => ⟨u.slots,k b u (hb b n) q⟩,fun b u q n _ => by rw [upd_ne (hx b n)]; exact n,fun b u q _ => ?_,
    fun b xs q => by rw [upd_ne (hm b _ q fun z => z)]; exact q,fun b u xs q => by rw [upd_ne (hm b _ q fun z => z)]; exact q,fun b ps q => ⟨#[],by rw [upd_ne (hm b _ q fun z => z),q]; simp⟩⟩
  by_cases hbe : b = e
  · subst hbe; exact heo
  · exact ⟨u,k b u hbe q⟩
end
def trk (h : Heap) (H : Hp) : List Addr:=(List.range h.objs.size).filter fun a => (H a).isSome
def hidT (h : Heap) (H : Hp) : Heap:=PySem.W.hideAll h (trk h H)
theorem hidT_size (h : Heap) (H : Hp) : (hidT h H).objs.size = h.objs.size:=PySem.W.hideAll_size _ _
theorem hidT_get {h : Heap} {H : Hp} {b : Addr} {o : Obj} (e : h.get? b = some o) (n : H b = none) : (hidT h H).get? b = some o :=
  PySem.W.hideAll_get _ e fun hm => by
    have q : (H b).isSome = true:=(List.mem_filter.mp hm).2
    rw [n] at q; simp at q
theorem of_hidT {h : Heap} {H : Hp} {b : Addr} {o : Obj} (e : (hidT h H).get? b = some o) : h.get? b = some o ∧ H b = none:=by
  have e' : h.get? b = some o:=PySem.W.of_hideAll (trk h H) e
  refine ⟨e',?_⟩
  cases q : H b with
  | none => rfl
  | some x =>
    have hm : b ∈ trk h H:=List.mem_filter.mpr ⟨List.mem_range.mpr (Heap.lt_size e'),by simp [q]⟩
    have z : (hidT h H).get? b = none:=PySem.W.hideAll_none (trk h H) hm
    rw [z] at e; cases e
end L2
namespace L2
open PySem PySem.Spec PyProof.Rows
structure Mod (K : PySem.W.Frag) (mg : Str → Option Value) (base : Heap) : Prop where
  kin : K.In base
  glob : base.Ns mainGlobals mg
  blt : ∃ mb,base.Ns builtinsNs mb ∧ ∀ x : Str,x ≠ "__name__" → mb x = bootBuiltins x
  nolimit : base.NoLimit
structure Cx where
  prog : Program
  w : World
  K : PySem.W.Frag
  mg : Str → Option Value
  base : Heap
  A : Around
  N : List Str
  s₀ : Shared
  H₀ : Hp
  env : Env
  outer : List Env
  stack : List Env
  ex : List Addr
  fn : Str → Bool
  calm : Bool
  pn : List (Addr × Obj)
  xe : Value → Shared → Prop
def frs (l : List Env) : List Addr:=l.filterMap (·.frame)
abbrev Cx.fs (X : Cx) : List Addr:=frs X.outer
def Vis (sc : Scope) (x : Str) : Prop:=sc.names.lookup x = some .local ∨ sc.names.lookup x = some .cell ∨ sc.names.lookup x = some .free
def Loc (sc : Scope) (x : Str) : Prop:=sc.names.lookup x = some .local ∨ sc.names.lookup x = some .cell
def Look (env : Env) (h : Heap) (m : Str → Option Value) (x : Str) (u : Value) : Prop :=
  (env.kindOf x = some .local ∧ m x = some u) ∨ ((env.kindOf x = some .cell ∨ env.kindOf x = some .free) ∧ ∃ c,env.cells.lookup x = some c ∧ h.IsCell c (some u))
structure Cx.Ok (X : Cx) : Prop where
  mod : Mod X.K X.mg X.base
  kind : X.env.scope.kind = .function
  glob : X.env.globals = mainGlobals
  blt : X.env.builtins = builtinsNs
  above : X.s₀.heap.objs.size ≤ X.env.locals
  inj : ∀ x y c,X.env.cells.lookup x = some c → X.env.cells.lookup y = some c → x = y
  has : ∀ x,(X.env.kindOf x = some .cell ∨ X.env.kindOf x = some .free) → ∃ c,X.env.cells.lookup x = some c
  cab : ∀ x c,X.fn x = true → X.env.cells.lookup x = some c → X.s₀.heap.objs.size ≤ c
  hd : X.calm = true → X.A.handled = none
  frames : X.A.frames = some X.stack
  stk : X.stack = X.outer ∨ (X.stack = X.env :: X.outer ∧ X.env.frame = some X.env.locals)
  exf : ∀ b ∈ X.ex,b ≠ X.env.locals ∧ ∀ x c,X.env.cells.lookup x = some c → c ≠ b
  bs : ∀ b o,X.base.get? b = some o → X.s₀.heap.get? b = some o ∧ X.H₀ b = none
  bsz : X.base.objs.size ≤ X.s₀.heap.objs.size
  noex : ∀ b o,X.base.get? b = some o → b ∉ X.ex
  exfs : ∀ b ∈ X.ex,b ∉ X.fs
  funs : X.s₀.heap.FunFrames X.base X.outer
  frf : ∀ b ∈ X.fs,X.H₀ b = none
structure Inv (X : Cx) (pins : List (Addr × Obj)) (σ : List (Option V)) (H : Hp) (s : Shared) : Prop where
  ok : X.Ok
  os : s.os = X.s₀.os
  bare : AllBare s.gens
  base : Un X.fs X.ex X.H₀ H X.s₀.heap s.heap
  loc : ∃ m,s.heap.Ns X.env.locals m ∧ ∀ (i : Nat) (x : Str) (v : V),X.N[i]? = some x → σ[i]? = some (some v) → Vis X.env.scope x → ∃ u,RelV v u ∧ Look X.env s.heap m x u
  cell : ∀ x c,X.env.cells.lookup x = some c → ∃ v,s.heap.IsCell c v
  free : H X.env.locals = none
  freeC : ∀ x c,X.env.cells.lookup x = some c → H c = none
  pin : ∀ p ∈ X.pn ++ pins,s.heap.get? p.1 = some p.2 ∧ H p.1 = none ∧ p.1 ≠ X.env.locals ∧ p.1 ∉ X.fs ∧ ∀ v,p.2.data ≠ .cell v
  hok : HOk X.prog X.w H s.heap
  len : σ.length = X.N.length
section
variable {X : Cx} {pins : List (Addr × Obj)} {σ : List (Option V)} {H H' : Hp} {s : Shared} {h' : Heap}
theorem Cx.Ok.nofr (ok : X.Ok) {b : Addr} {o : Obj} (e : X.base.get? b = some o) : b ∉ X.fs:=fun hb => by
  have:=(ok.funs.mem hb).1
  rw [e] at this; cases this
theorem Inv.bs (I : Inv X pins σ H s) : ∀ b o,X.base.get? b = some o → s.heap.get? b = some o ∧ H b = none:=fun b o e =>
  ⟨I.base.keep b o (I.ok.bs b o e).1 (I.ok.bs b o e).2 (I.ok.nofr e) (I.ok.noex b o e),I.base.free b o (I.ok.bs b o e).1 (I.ok.bs b o e).2 (I.ok.noex b o e)⟩
theorem Inv.bk (I : Inv X pins σ H s) : ∀ b o,X.base.get? b = some o → s.heap.get? b = some o:=fun b o e => (I.bs b o e).1
theorem Inv.mod (I : Inv X pins σ H s) : Mod X.K X.mg X.base:=I.ok.mod
theorem Inv.kIn (I : Inv X pins σ H s) : X.K.In s.heap:=I.ok.mod.kin.keeps I.bk
theorem Inv.lt (I : Inv X pins σ H s) : X.env.locals < s.heap.objs.size:=let ⟨_,hn,_⟩:=I.loc; hn.lt
theorem Inv.sz (I : Inv X pins σ H s) : X.s₀.heap.objs.size ≤ s.heap.objs.size:=Nat.le_trans I.ok.above (Nat.le_of_lt I.lt)
theorem Inv.nofs (I : Inv X pins σ H s) {a : Addr} (h : s.heap.objs.size ≤ a) : a ∉ X.fs:=fun hb => by
  obtain ⟨_,o,ho,_⟩:=I.ok.funs.mem hb
  exact absurd (Nat.lt_of_lt_of_le (Heap.lt_size ho) (Nat.le_trans I.sz h)) (Nat.lt_irrefl _)
theorem Inv.cne (I : Inv X pins σ H s) : ∀ x c,X.env.cells.lookup x = some c → c ≠ X.env.locals:=fun x c e z => by
  obtain ⟨v,o,ho,hd⟩:=I.cell x c e
  obtain ⟨m,⟨o',es,ep,ho',hd',_⟩,_⟩:=I.loc
  rw [z,ho'] at ho; cases ho; rw [hd'] at hd; cases hd
theorem Inv.funs (I : Inv X pins σ H s) : s.heap.FunFrames X.base X.outer:=by
  have all : ∀ (l : List Env),(∀ b ∈ frs l,b ∈ X.fs) → X.s₀.heap.FunFrames X.base l → s.heap.FunFrames X.base l:=by
    intro l
    induction l with
    | nil => intro _ _; trivial
    | cons env r ih =>
      intro hs hl
      obtain ⟨hk,⟨L,o,hf,hn,ho,hd⟩,hr⟩:=hl
      have hL : L ∈ X.fs:=hs L (by unfold frs; rw [List.filterMap_cons,hf]; exact List.mem_cons_self)
      obtain ⟨sl,e⟩:=I.base.slot L o ho (I.ok.frf L hL) hL fun z => I.ok.exfs L z hL
      exact ⟨hk,⟨L,_,hf,hn,e,hd⟩,ih (fun b hb => hs b (by unfold frs; rw [List.filterMap_cons,hf]; exact List.mem_cons_of_mem _ hb)) hr⟩
  exact all X.outer (fun _ hb => hb) I.ok.funs
theorem Inv.stack (I : Inv X pins σ H s) : s.heap.FunFrames X.base X.stack:=by
  rcases I.ok.stk with e | ⟨e,hf⟩
  · rw [e]; exact I.funs
  · rw [e]
    obtain ⟨m,hn,_⟩:=I.loc
    refine .cons (by rw [I.ok.kind]; decide) hf hn ?_ I.funs
    exact Heap.get?_none_of_le (Nat.le_trans I.ok.bsz I.ok.above)
theorem Inv.stkSub (I : Inv X pins σ H s) : ∀ b ∈ frs X.stack,b ∈ X.env.locals :: X.fs:=fun b hb => by
  rcases I.ok.stk with e | ⟨e,hf⟩
  · rw [e] at hb; exact List.mem_cons_of_mem _ hb
  · rw [e] at hb
    unfold frs at hb
    rw [List.filterMap_cons,hf] at hb
    exact hb
theorem Inv.stkFree (I : Inv X pins σ H s) : ∀ b ∈ frs X.stack,H b = none:=fun b hb => by
  rcases List.mem_cons.mp (I.stkSub b hb) with e | hb
  · rw [e]; exact I.free
  · obtain ⟨_,o,ho,_⟩:=I.ok.funs.mem hb
    exact I.base.free b o ho (I.ok.frf b hb) fun z => I.ok.exfs b z hb
theorem Inv.step {g' : Array GenState} {t' : Nat} {d' : Drawn} {ch : List Addr} (I : Inv X pins σ H s)
    (hch : ∀ b ∈ ch,(b ∈ X.ex ∨ X.s₀.heap.objs.size ≤ b) ∧ b ≠ X.env.locals ∧ (∀ x c,X.env.cells.lookup x = some c → c ≠ b) ∧ ∀ p ∈ X.pn ++ pins,p.1 ≠ b)
    (keep : ∀ b o,b ≠ X.env.locals → b ∉ X.fs → b ∉ ch → s.heap.get? b = some o → H b = none → h'.get? b = some o)
    (slot : ∀ b o,b ≠ X.env.locals → b ∈ X.fs → b ∉ ch → s.heap.get? b = some o → H b = none → ∃ sl,h'.get? b = some { o with slots:=sl }) (free : ∀ b o,b ∉ ch → s.heap.get? b = some o → H b = none → H' b = none)
    (there : ∀ b o,b ∉ ch → s.heap.get? b = some o → ∃ o',h'.get? b = some o')
    (tups : ∀ b xs,H b = some (.tup xs) → H' b = some (.tup xs)) (frzs : ∀ b o u,H b = some (.frz o u) → H' b = some (.frz o u)) (tbls : ∀ b ps,H b = some (.tbl ps) → ∃ more,H' b = some (.tbl (ps ++ more)))
    (ns : ∀ m,s.heap.Ns X.env.locals m → h'.Ns X.env.locals m) (hok : HOk X.prog X.w H' h') (hg : AllBare g') :
    Inv X pins σ H' { s with heap:=h',gens:=g',drawn:=d',toks:=t' }:=by
  have neL : ∀ b o,X.s₀.heap.get? b = some o → b ≠ X.env.locals:=fun b o e => Nat.ne_of_lt (Nat.lt_of_lt_of_le (Heap.lt_size e) I.ok.above)
  have neC : ∀ b o,X.s₀.heap.get? b = some o → b ∉ X.ex → b ∉ ch:=fun b o e hx hb => by
    rcases (hch b hb).1 with z | z
    · exact hx z
    · exact absurd (Nat.lt_of_lt_of_le (Heap.lt_size e) z) (Nat.lt_irrefl _)
  have cellK : ∀ x c,X.env.cells.lookup x = some c → ∀ v,s.heap.IsCell c v → h'.IsCell c v:=fun x c e v ⟨o,ho,hd⟩ => by
    have nch : c ∉ ch:=fun z => (hch c z).2.2.1 x c e rfl
    by_cases hc : c ∈ X.fs
    · obtain ⟨sl,q⟩:=slot c o (I.cne x c e) hc nch ho (I.freeC x c e)
      exact ⟨_,q,hd⟩
    · exact ⟨o,keep c o (I.cne x c e) hc nch ho (I.freeC x c e),hd⟩
  refine ⟨I.ok,I.os,hg,⟨fun b o e n hb hx => ?_,fun b o e n hb hx => ?_,fun b o e n hx => ?_,fun b o e hx => ?_,fun b xs e => tups b xs (I.base.tups b xs e),fun b o xs e => frzs b o xs (I.base.frzs b o xs e),fun b ps e => ?_⟩,?_,fun x c e => ?_,?_,fun x c e => ?_,fun p hp => ?_,hok,I.len⟩
  · exact keep b o (neL b o e) hb (neC b o e hx) (I.base.keep b o e n hb hx) (I.base.free b o e n hx)
  · obtain ⟨sl,e1⟩:=I.base.slot b o e n hb hx
    obtain ⟨sl',e2⟩:=slot b _ (neL b o e) hb (neC b o e hx) e1 (I.base.free b o e n hx)
    exact ⟨sl',e2⟩
  · obtain ⟨o',e1⟩:=I.base.there b o e hx
    exact free b o' (neC b o e hx) e1 (I.base.free b o e n hx)
  · obtain ⟨o',e1⟩:=I.base.there b o e hx
    exact there b o' (neC b o e hx) e1
  · obtain ⟨m1,e1⟩:=I.base.tbls b ps e
    obtain ⟨m2,e2⟩:=tbls b _ e1
    exact ⟨m1 ++ m2,by rw [e2,Array.append_assoc]⟩
  · obtain ⟨m,hn,hl⟩:=I.loc
    refine ⟨m,ns m hn,fun i x v e1 e2 e3 => ?_⟩
    obtain ⟨u,r,l⟩:=hl i x v e1 e2 e3
    refine ⟨u,r,?_⟩
    rcases l with l | ⟨k,c,e,z⟩
    · exact .inl l
    · exact .inr ⟨k,c,e,cellK x c e _ z⟩
  · obtain ⟨v,z⟩:=I.cell x c e
    exact ⟨v,cellK x c e v z⟩
  · obtain ⟨m,⟨o,_,_,ho,_⟩,_⟩:=I.loc
    exact free _ o (fun z => (hch _ z).2.1 rfl) ho I.free
  · obtain ⟨v,o,ho,hd⟩:=I.cell x c e
    exact free c o (fun z => (hch c z).2.2.1 x c e rfl) ho (I.freeC x c e)
  · obtain ⟨e,n,ne,nf,d⟩:=I.pin p hp
    have nch : p.1 ∉ ch:=fun z => (hch p.1 z).2.2.2 p hp rfl
    exact ⟨keep p.1 p.2 ne nf nch e n,free p.1 p.2 nch e n,ne,nf,d⟩
theorem Inv.un {t' : Nat} (I : Inv X pins σ H s) (u : Un X.fs [] H H' s.heap h') (hok : HOk X.prog X.w H' h') : Inv X pins σ H' { s with heap:=h',toks:=t' }:=by
  obtain ⟨m,⟨o,es,ep,ho,r⟩,_⟩:=id I.loc
  obtain ⟨sl,hL⟩:=u.any ho I.free (by simp)
  exact I.step (g':=s.gens) (d':=s.drawn) (ch:=[]) (fun _ z => nomatch z) (fun b o _ hb _ e n => u.keep b o e n hb (by simp)) (fun b o _ hb _ e n => u.slot b o e n hb (by simp)) (fun b o _ e n => u.free b o e n (by simp)) (fun b o _ e => u.there b o e (by simp)) u.tups u.frzs u.tbls (fun m' hm => by
    obtain ⟨o',es',ep',ho',r'⟩:=hm
    rw [ho] at ho'; cases ho'
    exact ⟨_,es',ep',hL,r'⟩) hok I.bare
theorem Inv.call {g' : Array GenState} {t' : Nat} {d' : Drawn} {ch : List Addr} (I : Inv X pins σ H s) (u : Un (frs X.stack) ch H H' s.heap h') (hok : HOk X.prog X.w H' h') (hg : AllBare g')
    (hch : ∀ b ∈ ch,(b ∈ X.ex ∨ X.s₀.heap.objs.size ≤ b) ∧ b ≠ X.env.locals ∧ (∀ x c,X.env.cells.lookup x = some c → c ≠ b) ∧ ∀ p ∈ X.pn ++ pins,p.1 ≠ b) :
    Inv X pins σ H' { s with heap:=h',gens:=g',drawn:=d',toks:=t' }:=by
  obtain ⟨m,⟨o,es,ep,ho,r⟩,_⟩:=id I.loc
  obtain ⟨sl,hL⟩:=u.any ho I.free fun z => (hch _ z).2.1 rfl
  exact I.step (ch:=ch) hch (fun b o hL hb hc e n => u.keep b o e n (fun z => (List.mem_cons.mp (I.stkSub b z)).elim hL hb) hc) (fun b o _ _ hc e n => u.any e n hc) (fun b o hc e n => u.free b o e n hc) (fun b o hc e => u.there b o e hc) u.tups u.frzs u.tbls (fun m' hm => by
    obtain ⟨o',es',ep',ho',r'⟩:=hm
    rw [ho] at ho'; cases ho'
    exact ⟨_,es',ep',hL,r'⟩) hok hg
theorem Inv.turned {t' : Nat} {it : Addr} (I : Inv X pins σ H s) (k : ∀ b o,b ≠ it → s.heap.get? b = some o → h'.get? b = some o) (hn : H it = none) (hL : it ≠ X.env.locals)
    (h1 : it ∈ X.ex ∨ X.s₀.heap.objs.size ≤ it) (h2 : ∀ x c,X.env.cells.lookup x = some c → c ≠ it) (h3 : ∀ p ∈ X.pn ++ pins,p.1 ≠ it) : Inv X pins σ H { s with heap:=h',toks:=t' }:=by
  have nit : ∀ b u,H b = some u → b ≠ it:=fun b u e z => by rw [z,hn] at e; cases e
  refine I.step (g':=s.gens) (d':=s.drawn) (ch:=[it]) (fun b hb => ?_) (fun b o _ _ hc e _ => k b o (fun z => hc (by simp [z])) e) (fun b o _ _ hc e _ => ⟨o.slots,k b o (fun z => hc (by simp [z])) e⟩) (fun _ _ _ _ n => n)
    (fun b o hc e => ⟨o,k b o (fun z => hc (by simp [z])) e⟩) (fun _ _ e => e) (fun _ _ _ e => e) (fun b ps e => ⟨#[],by rw [e]; simp⟩) (fun m hm => ?_) (fun b u e => ?_) I.bare
  · have e : b = it:=by simpa using hb
    subst e
    exact ⟨h1,hL,h2,h3⟩
  · obtain ⟨o,es,ep,ho,r⟩:=hm
    exact ⟨o,es,ep,k _ o (Ne.symm hL) ho,r⟩
  · refine (I.hok b u e).stay (fun c v hc q => k c v ?_ q) (fun _ q => q) fun _ _ q => q
    rcases hc with z | z
    · rw [z]; exact nit b u e
    · exact nit c _ z
theorem Inv.tok (I : Inv X pins σ H s) (t : Nat) : Inv X pins σ H { s with toks:=t }:=I.un (h':=s.heap) (t':=t) Un.refl I.hok
theorem Inv.kept {t' : Nat} (I : Inv X pins σ H s) (k : ∀ b u,s.heap.get? b = some u → h'.get? b = some u) : Inv X pins σ H { s with heap:=h',toks:=t' }:=I.un (Un.kept k) (I.hok.kept k)
theorem Inv.laid {a : Addr} {o : HO} {t' : Nat} (I : Inv X pins σ H s) (k : ∀ b u,s.heap.get? b = some u → h'.get? b = some u) (hp : s.heap.objs.size ≤ a) (new : ObjOk X.prog X.w (upd H a o) h' a o) :
    Inv X pins σ (upd H a o) { s with heap:=h',toks:=t' }:=I.un (Un.laid k hp (I.hok.fresh hp)) (I.hok.laid k hp new)
theorem Inv.write {x e : Addr} {o : HO} {t' : Nat} (I : Inv X pins σ H s) (mu : Mut (H x)) (he : e = x ∨ H e = some (.own x)) (k : ∀ b u,b ≠ e → s.heap.get? b = some u → h'.get? b = some u) (heo : ∃ u,h'.get? e = some u)
    (new : ObjOk X.prog X.w (upd H x o) h' x o) : Inv X pins σ (upd H x o) { s with heap:=h',toks:=t' }:=I.un (Un.write mu he k heo) (I.hok.write mu he k heo new)
theorem Inv.pins_of {pins' : List (Addr × Obj)} (I : Inv X pins σ H s) (h : ∀ p ∈ pins',s.heap.get? p.1 = some p.2 ∧ H p.1 = none ∧ p.1 ≠ X.env.locals ∧ p.1 ∉ X.fs ∧ ∀ v,p.2.data ≠ .cell v) : Inv X pins' σ H s :=
  ⟨I.ok,I.os,I.bare,I.base,I.loc,I.cell,I.free,I.freeC,fun p hp => (List.mem_append.mp hp).elim (fun z => I.pin p (List.mem_append_left _ z)) (h p),I.hok,I.len⟩
theorem nodup_ix {N : List Str} (hN : N.Nodup) {i j : Nat} {x : Str} (a : N[i]? = some x) (b : N[j]? = some x) : i = j:=by
  obtain ⟨h1,e1⟩:=List.getElem?_eq_some_iff.mp a
  obtain ⟨h2,e2⟩:=List.getElem?_eq_some_iff.mp b
  exact (List.getElem_inj hN).mp (e1.trans e2.symm)
theorem store_ok2 {M : Model} {A : Around} {E : Value → Shared → Prop} {i : Nat} {x : Str} {v : V} {u : Value} {Q : Unit → Shared → Prop} (I : Inv X pins σ H s) (hN : X.N.Nodup) (hi : X.N[i]? = some x) (hx : Loc X.env.scope x) (r : RelV v u)
    (h : ∀ s',Inv X pins (σ.set i (some v)) H s' → (∃ a,Heap.SameBut a s.heap s'.heap ∧ (a = X.env.locals ∨ X.env.cells.lookup x = some a)) → Q () s') (hf : X.fn x = true ∨ X.env.scope.names.lookup x = some .local:=by first | exact .inl rfl | exact .inr rfl | assumption) : wpAny M A (storeName X.env x u) Q E s:=by
  obtain ⟨m,hn,hl⟩:=id I.loc
  have hcls : (X.env.scope.kind == .class || (X.env.scope.kind == .module && X.env.locals != X.env.globals)) = false:=by rw [I.ok.kind]; rfl
  have hiσ : i < σ.length:=by rw [I.len]; exact (List.getElem?_eq_some_iff.mp hi).1
  have cne:=I.cne
  have tracked : ∀ {a : Addr} {h' : Heap},(∃ o,s.heap.get? a = some o ∧ H a = none) → Heap.SameBut a s.heap h' → HOk X.prog X.w H h':=fun {a h'} ha hs b ob e => by
    obtain ⟨_,_,hfree⟩:=ha
    refine (I.hok b ob e).stay (fun c w' hc q => (hs.2 c ?_).trans q) (fun _ q => q) fun _ _ q => q
    rintro rfl
    rcases hc with rfl | hc
    · rw [hfree] at e; cases e
    · rw [hfree] at hc; cases hc
  rcases hx with hk | hk
  · refine wpAny_storeName_local hk hn (fun h' hn' hs => ?_) hcls
    obtain ⟨oL,_,_,hoL,_⟩:=id hn
    refine h _ ⟨I.ok,I.os,I.bare,⟨fun b o e n hb hx => ?_,fun b o e n hb hx => ?_,I.base.free,fun b o e hx => ?_,I.base.tups,I.base.frzs,I.base.tbls⟩,⟨_,hn',fun j y v' e1 e2 e3 => ?_⟩,fun y c e => ?_,I.free,I.freeC,fun p hp => ?_,tracked ⟨oL,hoL,I.free⟩ hs,by simpa using I.len⟩ ⟨_,hs,.inl rfl⟩
    · exact (hs.2 b (Nat.ne_of_lt (Nat.lt_of_lt_of_le (Heap.lt_size e) I.ok.above))).trans (I.base.keep b o e n hb hx)
    · obtain ⟨sl,e1⟩:=I.base.slot b o e n hb hx
      exact ⟨sl,(hs.2 b (Nat.ne_of_lt (Nat.lt_of_lt_of_le (Heap.lt_size e) I.ok.above))).trans e1⟩
    · obtain ⟨o',e1⟩:=I.base.there b o e hx
      exact ⟨o',(hs.2 b (Nat.ne_of_lt (Nat.lt_of_lt_of_le (Heap.lt_size e) I.ok.above))).trans e1⟩
    · by_cases hj : j = i
      · subst hj
        rw [hi] at e1; cases e1
        rw [List.getElem?_set_self hiσ] at e2
        cases e2
        exact ⟨u,r,.inl ⟨hk,by simp⟩⟩
      · rw [List.getElem?_set_ne (Ne.symm hj)] at e2
        obtain ⟨u',r',q⟩:=hl j y v' e1 e2 e3
        refine ⟨u',r',?_⟩
        rcases q with ⟨k,e⟩ | ⟨k,c,e,z⟩
        · refine .inl ⟨k,?_⟩
          have : y ≠ x:=fun e => hj (nodup_ix hN e1 (e ▸ hi))
          simp [this,e]
        · exact .inr ⟨k,c,e,z.sameBut hs (cne y c e)⟩
    · obtain ⟨w',z⟩:=I.cell y c e
      exact ⟨w',z.sameBut hs (cne y c e)⟩
    · obtain ⟨e,n,ne,nf,d⟩:=I.pin p hp
      exact ⟨(hs.2 p.1 ne).trans e,n,ne,nf,d⟩
  · have hfn : X.fn x = true:=by
      rcases hf with z | z
      · exact z
      · rw [z] at hk; cases hk
    obtain ⟨c,hc⟩:=I.ok.has x (.inl hk)
    obtain ⟨w',z⟩:=I.cell x c hc
    refine wpAny_storeName_cell I.ok.kind hk hc z (fun h' hc' hs => ?_)
    obtain ⟨oc,hoc,hocd⟩:=id z
    refine h { s with heap:=h' } ⟨I.ok,I.os,I.bare,⟨fun b o e n hb hx => ?_,fun b o e n hb hx => ?_,I.base.free,fun b o e hx => ?_,I.base.tups,I.base.frzs,I.base.tbls⟩,⟨m,hn.sameBut hs (Ne.symm (cne x c hc)),fun j y v' e1 e2 e3 => ?_⟩,fun y c' e => ?_,I.free,I.freeC,fun p hp => ?_,tracked ⟨oc,hoc,I.freeC x c hc⟩ hs,by simpa using I.len⟩ ⟨c,hs,.inr hc⟩
    · exact (hs.2 b (Nat.ne_of_lt (Nat.lt_of_lt_of_le (Heap.lt_size e) (I.ok.cab x c hfn hc)))).trans (I.base.keep b o e n hb hx)
    · obtain ⟨sl,e1⟩:=I.base.slot b o e n hb hx
      exact ⟨sl,(hs.2 b (Nat.ne_of_lt (Nat.lt_of_lt_of_le (Heap.lt_size e) (I.ok.cab x c hfn hc)))).trans e1⟩
    · obtain ⟨o',e1⟩:=I.base.there b o e hx
      exact ⟨o',(hs.2 b (Nat.ne_of_lt (Nat.lt_of_lt_of_le (Heap.lt_size e) (I.ok.cab x c hfn hc)))).trans e1⟩
    · by_cases hj : j = i
      · subst hj
        rw [hi] at e1; cases e1
        rw [List.getElem?_set_self hiσ] at e2
        cases e2
        exact ⟨u,r,.inr ⟨.inl hk,c,hc,hc'⟩⟩
      · rw [List.getElem?_set_ne (Ne.symm hj)] at e2
        obtain ⟨u',r',q⟩:=hl j y v' e1 e2 e3
        refine ⟨u',r',?_⟩
        rcases q with q | ⟨k,c',e,z'⟩
        · exact .inl q
        · refine .inr ⟨k,c',e,z'.sameBut hs ?_⟩
          rintro rfl
          exact hj (nodup_ix hN e1 (I.ok.inj _ _ _ e hc ▸ hi))
    · by_cases hcc : c' = c
      · subst hcc; exact ⟨_,hc'⟩
      · obtain ⟨w2,z2⟩:=I.cell y c' e
        exact ⟨w2,z2.sameBut hs hcc⟩
    · obtain ⟨e,n,ne,nf,d⟩:=I.pin p hp
      refine ⟨(hs.2 p.1 ?_).trans e,n,ne,nf,d⟩
      intro q
      rw [q,hoc] at e
      have q' : oc = p.2:=Option.some.inj e
      exact d w' (by rw [← q']; exact hocd)
theorem store_ok {M : Model} {A : Around} {E : Value → Shared → Prop} {i : Nat} {x : Str} {v : V} {u : Value} {Q : Unit → Shared → Prop} (I : Inv X pins σ H s) (hN : X.N.Nodup) (hi : X.N[i]? = some x) (hx : Loc X.env.scope x) (r : RelV v u)
    (h : ∀ s',Inv X pins (σ.set i (some v)) H s' → Q () s') (hf : X.fn x = true ∨ X.env.scope.names.lookup x = some .local:=by first | exact .inl rfl | exact .inr rfl | assumption) : wpAny M A (storeName X.env x u) Q E s :=
  store_ok2 I hN hi hx r (fun s' I' _ => h s' I') hf
theorem Inv.call' {s' : Shared} {ch : List Addr} (I : Inv X pins σ H s) (ho : s'.os = s.os) (u : Un (frs X.stack) ch H H' s.heap s'.heap) (hok : HOk X.prog X.w H' s'.heap) (hg : AllBare s'.gens)
    (hch : ∀ b ∈ ch,(b ∈ X.ex ∨ X.s₀.heap.objs.size ≤ b) ∧ b ≠ X.env.locals ∧ (∀ x c,X.env.cells.lookup x = some c → c ≠ b) ∧ ∀ p ∈ X.pn ++ pins,p.1 ≠ b) : Inv X pins σ H' s':=by
  obtain ⟨h',g',d',t',o'⟩:=s'
  have e : o' = s.os:=ho
  subst e
  exact I.call (g':=g') (t':=t') (d':=d') u hok hg hch
end
abbrev XK:=Value → Option Addr → Hp → Prop
abbrev St:=List (Option V)
abbrev VK:=V → Hp → Prop
abbrev TE:=St → Hp → VK → Prop
abbrev TT:=St → Hp → (Bool → Hp → Prop) → Prop
abbrev TA:=St → Hp → (List V → Hp → Prop) → Prop
structure Ends where
  nx : St → Hp → Prop
  rt : VK
  bk : St → Hp → Prop:=fun _ _ => False
  ct : St → Hp → Prop:=fun _ _ => False
abbrev TS:=Ends → St → Hp → Prop
def EP (X : Cx) (pins : List (Addr × Obj)) (σ : St) (Q : VK) (u : Value) (s' : Shared) : Prop:=∃ v H',Inv X pins σ H' s' ∧ RelV v u ∧ Q v H'
def TP (X : Cx) (pins : List (Addr × Obj)) (σ : St) (Q : Bool → Hp → Prop) (b : Bool) (s' : Shared) : Prop:=∃ H',Inv X pins σ H' s' ∧ Q b H'
def AP (X : Cx) (pins : List (Addr × Obj)) (σ : St) (Q : List V → Hp → Prop) (us : List Value) (s' : Shared) : Prop:=∃ vs H',Inv X pins σ H' s' ∧ Vals vs us ∧ Q vs H'
def SP (X : Cx) (pins : List (Addr × Obj)) (D : Ends) (f : Flow) (s' : Shared) : Prop :=
  match f with
  | .next => ∃ σ' H',Inv X pins σ' H' s' ∧ D.nx σ' H'
  | .brk => ∃ σ' H',Inv X pins σ' H' s' ∧ D.bk σ' H'
  | .cont => ∃ σ' H',Inv X pins σ' H' s' ∧ D.ct σ' H'
  | .ret u => ∃ v σ' H',Inv X pins σ' H' s' ∧ RelV v u ∧ D.rt v H'
def PE (X : Cx) (e : Expr) (t : TE) : Prop :=
  ∀ (pins : List (Addr × Obj)) (s : Shared) (σ : St) (H : Hp) (Q : VK),Inv X pins σ H s → t σ H Q → wpAny (model X.prog X.w) X.A (eval e X.env) (EP X pins σ Q) X.xe s
def PT (X : Cx) (e : Expr) (t : TT) : Prop :=
  ∀ (pins : List (Addr × Obj)) (s : Shared) (σ : St) (H : Hp) (Q : Bool → Hp → Prop),Inv X pins σ H s → t σ H Q → wpAny (model X.prog X.w) X.A (isTrue e X.env (eval e X.env)) (TP X pins σ Q) X.xe s
def PW (X : Cx) (e : Expr) (t : TT) : Prop :=
  ∀ (whole : Sem Value) (pins : List (Addr × Obj)) (s : Shared) (σ : St) (H : Hp) (Q : Bool → Hp → Prop),Inv X pins σ H s → t σ H Q → wpAny (model X.prog X.w) X.A (isTrue e X.env whole) (TP X pins σ Q) X.xe s
theorem PW.pt {X : Cx} {e : Expr} {t : TT} (h : PW X e t) : PT X e t:=h _
def PA (X : Cx) (es : List Expr) (t : TA) : Prop :=
  ∀ (pos : Pos) (pins : List (Addr × Obj)) (s : Shared) (σ : St) (H : Hp) (Q : List V → Hp → Prop),Inv X pins σ H s → t σ H Q → wpAny (model X.prog X.w) X.A (spliced (backTo pos (starEach es X.env))) (AP X pins σ Q) X.xe s
def PS (X : Cx) (st : Stmt) (t : TS) : Prop :=
  ∀ (pins : List (Addr × Obj)) (s : Shared) (σ : St) (H : Hp) (D : Ends),Inv X pins σ H s → t D σ H → wpAny (model X.prog X.w) X.A (exec st X.env) (SP X pins D) X.xe s
def PSs (X : Cx) (st : List Stmt) (t : TS) : Prop :=
  ∀ (pins : List (Addr × Obj)) (s : Shared) (σ : St) (H : Hp) (D : Ends),Inv X pins σ H s → t D σ H → wpAny (model X.prog X.w) X.A (execs st X.env) (SP X pins D) X.xe s
theorem thn {α : Type} {t : Sem α} {Q Q' : α → Shared → Prop} {M : Model} {A : Around} {E : Value → Shared → Prop} {s : Shared} (h : wpAny M A t Q E s) (hQ : ∀ a s,Q a s → Q' a s) : wpAny M A t Q' E s:=wpAny_mono h hQ fun _ _ x => x
end L2
namespace L2
open PySem PySem.Spec PyProof.Rows
section
variable {X : Cx}
def tVar (i : Nat) : TE:=fun σ H Q => ∃ v,σ[i]? = some (some v) ∧ Q v H
def tC (v : V) : TE:=fun _ H Q => Q v H
theorem pe_var {i : Nat} {x : Str} {pos : Pos} (hN : X.N[i]? = some x) (hv : Vis X.env.scope x) (hd : (x == ("__debug__" : Str)) = false:=by decide) (hcd : (x == ("__classdict__" : Str)) = false:=by decide) : PE X (.Name x pos) (tVar i):=by
  intro pins s σ H Q I h
  obtain ⟨v,e,h⟩:=h
  obtain ⟨m,hn,hl⟩:=I.loc
  obtain ⟨u,r,l⟩:=hl i x v hN e hv
  have fin : EP X pins σ Q u s:=⟨v,H,I,r,h⟩
  rcases l with ⟨hk,hm⟩ | ⟨hk,c,hc,hcell⟩
  · exact wpAny_Name (wpAny_loadName_local I.ok.kind hk hn hm fin) hd
  · rcases hk with hk | hk
    · exact wpAny_Name (wpAny_loadName_cell I.ok.kind hk hc hcell fin) hd
    · exact wpAny_Name (wpAny_loadName_free I.ok.kind hk hc hcell fin hcd) hd
theorem pe_int {i j pos} : PE X (.Constant (.int i) j pos) (tC (.int i)):=fun _ _ _ H _ I h => wpAny_Constant_int ⟨.int i,H,I.tok _,⟨_,rfl⟩,h⟩
theorem pe_bl {b j pos} : PE X (.Constant (.bool b) j pos) (tC (.bl b)):=fun _ _ _ H _ I h => Constant_bool ⟨.bl b,H,I,rfl,h⟩
theorem pe_non {j pos} : PE X (.Constant .none j pos) (tC .non):=fun _ _ _ H _ I h => Constant_none ⟨.non,H,I,rfl,h⟩
theorem pe_str {x j pos} : PE X (.Constant (.str x) j pos) (tC (.str x)):=fun _ _ _ H _ I h => Calls.Constant_str ⟨.str x,H,I.tok _,⟨_,rfl⟩,h⟩
def Gl (X : Cx) (x : Str) : Prop:=X.env.kindOf x = some .globalImplicit
theorem ld_glob {E : Value → Shared → Prop} {pins : List (Addr × Obj)} {s : Shared} {σ : St} {H : Hp} {x : Str} {u : Value} {pos : Pos} {Q : Value → Shared → Prop} (I : Inv X pins σ H s) (hg : Gl X x) (hm : X.mg x = some u) (h : Q u s)
    (hd : (x == ("__debug__" : Str)) = false:=by decide) : wpAny (model X.prog X.w) X.A (eval (.Name x pos) X.env) Q E s :=
  Calls.Name_function_global I.ok.kind hg (Calls.loadGlobal_global (by rw [I.ok.glob]; exact I.mod.glob.keeps I.bk) hm h) hd
theorem ld_blt {E : Value → Shared → Prop} {pins : List (Addr × Obj)} {s : Shared} {σ : St} {H : Hp} {x : Str} {u : Value} {pos : Pos} {Q : Value → Shared → Prop} (I : Inv X pins σ H s) (hg : Gl X x) (hm : X.mg x = none) (hv : bootBuiltins x = some u) (h : Q u s)
    (hn : x ≠ "__name__":=by decide) (hd : (x == ("__debug__" : Str)) = false:=by decide) : wpAny (model X.prog X.w) X.A (eval (.Name x pos) X.env) Q E s:=by
  obtain ⟨mb,h1,h2⟩:=I.mod.blt
  exact Calls.Name_function_global I.ok.kind hg (Calls.loadGlobal_builtin (by rw [I.ok.glob]; exact I.mod.glob.keeps I.bk) hm (by rw [I.ok.blt]; exact h1.keeps I.bk) ((h2 x hn).trans hv) h) hd
theorem pe_glob {x : Str} {v : V} {u : Value} {pos : Pos} (hg : Gl X x) (hm : X.mg x = some u) (r : RelV v u) (hd : (x == ("__debug__" : Str)) = false:=by decide) : PE X (.Name x pos) (tC v) :=
  fun _ _ _ H _ I h => ld_glob I hg hm ⟨v,H,I,r,h⟩ hd
theorem pe_bltn {x : Str} {v : V} {u : Value} {pos : Pos} (hg : Gl X x) (hm : X.mg x = none) (hv : bootBuiltins x = some u) (r : RelV v u) (hn : x ≠ "__name__":=by decide) (hd : (x == ("__debug__" : Str)) = false:=by decide) : PE X (.Name x pos) (tC v) :=
  fun _ _ _ H _ I h => ld_blt I hg hm hv ⟨v,H,I,r,h⟩ hn hd
variable {a b : Expr} {ta tb : TE} {pos : Pos}
def PC (X : Cx) (op : CmpOp) (a b : Expr) (t : TE) : Prop :=
  ∀ (pins : List (Addr × Obj)) (s : Shared) (σ : St) (H : Hp) (Q : VK),Inv X pins σ H s → t σ H Q →
    wpAny (model X.prog X.w) X.A (eval a X.env) (fun v s₁ => wpAny (model X.prog X.w) X.A (eval b X.env) (fun u s₂ => wpAny (model X.prog X.w) X.A (compareOp op v u) (EP X pins σ Q) X.xe s₂) X.xe s₁) X.xe s
theorem nobehind (b : Expr) {op : CmpOp} (h : op ≠ .In) (h2 : op ≠ .NotIn) : behindInMarks op b = false:=by
  have e1 : (op == CmpOp.In) = false:=by cases op <;> first | rfl | exact absurd rfl h
  have e2 : (op == CmpOp.NotIn) = false:=by cases op <;> first | rfl | exact absurd rfl h2
  cases b <;> simp [behindInMarks,e1,e2]
def tNotN (ta : TE) : TE:=fun σ H Q => ta σ H fun x H1 => Q (.bl (!decide (x = .non))) H1
theorem RelV.none_iff {x : V} {v : Value} (r : RelV x v) : (v == Value.none) = decide (x = .non):=by
  cases x with
  | non => cases r; rfl
  | bl _ => cases r; rfl
  | int _ => obtain ⟨t,rfl⟩:=r; rfl
  | str _ => obtain ⟨t,rfl⟩:=r; rfl
  | byt _ => obtain ⟨t,rfl⟩:=r; rfl
  | flt _ => obtain ⟨t,rfl⟩:=r; rfl
  | ref _ => cases r; rfl
  | ty _ => cases r; rfl
theorem pc_notN {j pos'} (ha : PE X a ta) : PC X .IsNot a (.Constant .none j pos') (tNotN ta):=by
  intro pins s σ H Q I h
  refine thn (ha pins s σ H _ I h) fun v s1 ⟨x,H1,I1,r1,q1⟩ => ?_
  exact Constant_none (isnot_none_gen ⟨.bl _,H1,I1,by rw [r1.none_iff]; rfl,q1⟩)
def tB (t : TE) : TT:=fun σ H Q => t σ H fun x H1 => ∃ c,x = .bl c ∧ Q c H1
theorem pe_cmp {op : CmpOp} {t : TE} (h : PC X op a b t) (h1 : behindInMarks op b = false:=by first | exact nobehind _ (by decide) (by decide) | rfl) : PE X (.Compare a [op] [b] pos) t:=fun pins s σ H Q I hw => wpAny_Compare1 (h pins s σ H Q I hw) h1
theorem pt_cmp {op : CmpOp} {t : TE} (h : PC X op a b t) (h1 : behindInMarks op b = false:=by first | exact nobehind _ (by decide) (by decide) | rfl) : PT X (.Compare a [op] [b] pos) (tB t):=by
  intro pins s σ H Q I hw
  refine wpAny_isTrue_Compare1 (thn (h pins s σ H _ I hw) fun v s1 h1 => thn h1 fun u s2 h2 => thn h2 fun c s3 ⟨x,H1,I1,r1,q1⟩ => ?_) h1
  obtain ⟨d,rfl,q⟩:=q1
  cases r1
  exact wpAny_truthy_bool ⟨H1,I1,q⟩
variable {tA tB' : TT} {rest : List Expr}
def tAnd (t u : TT) : TT:=fun σ H Q => t σ H fun c H1 => if c = true then u σ H1 Q else Q false H1
def tOr (t u : TT) : TT:=fun σ H Q => t σ H fun c H1 => if c = true then Q true H1 else u σ H1 Q
def tNot (t : TT) : TT:=fun σ H Q => t σ H fun c H1 => Q (!c) H1
theorem pw_and1 (ha : PT X a tA) : PW X (.BoolOp .And [a] pos) tA:=by
  intro wh pins s σ H Q I h
  refine isTrue_and (thn (ha pins s σ H Q I h) fun c s1 e => ?_)
  cases c with
  | true => exact isTrue_and_nil e
  | false => exact e
theorem pw_or1 (ha : PT X a tA) : PW X (.BoolOp .Or [a] pos) tA:=by
  intro wh pins s σ H Q I h
  refine isTrue_or (thn (ha pins s σ H Q I h) fun c s1 e => ?_)
  cases c with
  | false => exact isTrue_or_nil e
  | true => exact e
theorem pw_and (ha : PT X a tA) (hb : PW X (.BoolOp .And (b :: rest) pos) tB') : PW X (.BoolOp .And (a :: b :: rest) pos) (tAnd tA tB'):=by
  intro wh pins s σ H Q I h
  refine isTrue_and (thn (ha pins s σ H _ I h) fun c s1 ⟨H1,I1,q1⟩ => ?_)
  cases c with
  | true => exact hb wh pins s1 σ H1 Q I1 q1
  | false => exact ⟨H1,I1,q1⟩
theorem pw_or (ha : PT X a tA) (hb : PW X (.BoolOp .Or (b :: rest) pos) tB') : PW X (.BoolOp .Or (a :: b :: rest) pos) (tOr tA tB'):=by
  intro wh pins s σ H Q I h
  refine isTrue_or (thn (ha pins s σ H _ I h) fun c s1 ⟨H1,I1,q1⟩ => ?_)
  cases c with
  | true => exact ⟨H1,I1,q1⟩
  | false => exact hb wh pins s1 σ H1 Q I1 q1
theorem pt_not (ha : PT X a tA) : PT X (.UnaryOp .Not a pos) (tNot tA):=by
  intro pins s σ H Q I h
  exact isTrue_not (ha pins s σ H (fun c H1 => Q (!c) H1) I h)
def tAndV (ta tb : TE) : TE:=fun σ H Q => ta σ H fun x H1 => ∃ c,x = .bl c ∧ if c = true then tb σ H1 Q else Q (.bl false) H1
def tOrV (ta tb : TE) : TE:=fun σ H Q => ta σ H fun x H1 => ∃ c,x = .bl c ∧ if c = true then Q (.bl true) H1 else tb σ H1 Q
theorem pe_one {op} {t : TE} (h : PE X a t) : PE X (.BoolOp op [a] pos) t:=fun pins s σ H Q I hw => BoolOp_one (h pins s σ H Q I hw)
theorem pe_and (ha : PE X a ta) (hb : PE X (.BoolOp .And (b :: rest) pos) tb) : PE X (.BoolOp .And (a :: b :: rest) pos) (tAndV ta tb):=by
  intro pins s σ H Q I h
  refine BoolOp_and (thn (ha pins s σ H _ I h) fun v s1 ⟨x,H1,I1,r1,q1⟩ => ?_)
  obtain ⟨c,rfl,q1⟩:=q1
  cases r1
  refine wpAny_truthy_bool ?_
  cases c with
  | true => exact hb pins s1 σ H1 Q I1 q1
  | false => exact ⟨.bl false,H1,I1,rfl,q1⟩
theorem pe_or (ha : PE X a ta) (hb : PE X (.BoolOp .Or (b :: rest) pos) tb) : PE X (.BoolOp .Or (a :: b :: rest) pos) (tOrV ta tb):=by
  intro pins s σ H Q I h
  refine BoolOp_or (thn (ha pins s σ H _ I h) fun v s1 ⟨x,H1,I1,r1,q1⟩ => ?_)
  obtain ⟨c,rfl,q1⟩:=q1
  cases r1
  refine wpAny_truthy_bool ?_
  cases c with
  | false => exact hb pins s1 σ H1 Q I1 q1
  | true => exact ⟨.bl true,H1,I1,rfl,q1⟩
end
end L2
namespace L2
open PySem PySem.Spec PyProof.Rows
def SqL (K : PySem.W.Frag) (H : Hp) (a : Addr) (xs : List V) : Prop :=
  Rd H a (.lst xs) ∨
    ∃ (o : Obj) (its : Array Value) (n : Nat),K.lookup a = some o ∧ o.cls = .type "list" ∧ o.dict = none ∧ o.data = .seq its n ∧ its.size ≤ sizeLine ∧ Vals xs its.toList
def SqT (K : PySem.W.Frag) (H : Hp) (a : Addr) (xs : List V) : Prop :=
  Rd H a (.tup xs) ∨
    ∃ (o : Obj) (its : Array Value) (n : Nat),K.lookup a = some o ∧ o.cls = .type "tuple" ∧ o.data = .seq its n ∧ its.size ≤ sizeLine ∧ Vals xs its.toList
def absV : Value → Option V
  | .none => some .non
  | .bool b => some (.bl b)
  | .int i _ => some (.int i)
  | .str x _ => some (.str x)
  | .bytes b _ => some (.byt b)
  | .float b _ => some (.flt b)
  | .ref a => some (.ref a)
  | .type n => some (.ty n)
  | _ => none
theorem RelV.abs {x : V} {u : Value} (r : RelV x u) : absV u = some x:=by
  cases x with
  | non => cases r; rfl
  | bl _ => cases r; rfl
  | int _ => obtain ⟨t,rfl⟩:=r; rfl
  | str _ => obtain ⟨t,rfl⟩:=r; rfl
  | byt _ => obtain ⟨t,rfl⟩:=r; rfl
  | flt _ => obtain ⟨t,rfl⟩:=r; rfl
  | ref _ => cases r; rfl
  | ty _ => cases r; rfl
theorem RelV.inj {x y : V} {u : Value} (r : RelV x u) (q : RelV y u) : x = y:=Option.some.inj (r.abs.symm.trans q.abs)
theorem Vals.inj : ∀ {xs ys : List V} {us : List Value},Vals xs us → Vals ys us → xs = ys
  | _,_,_,.nil,.nil => rfl
  | _,_,_,.cons r t,.cons r' t' => by rw [r.inj r',Vals.inj t t']
section
variable {X : Cx} {pins : List (Addr × Obj)} {σ : St} {H : Hp} {s : Shared} {a : Addr} {xs ys : List V}
theorem SqL.of {K : PySem.W.Frag} (h : H a = some (.lst xs)) : SqL K H a xs:=.inl (.inl h)
theorem SqT.of {K : PySem.W.Frag} (h : H a = some (.tup xs)) : SqT K H a xs:=.inl (.inl h)
theorem Inv.list (I : Inv X pins σ H s) (h : SqL X.K H a xs) : ∃ its : List Value,Vals xs its ∧ PlainL s.heap a its.toArray ∧ xs.length ≤ sizeLine:=by
  rcases h with h | ⟨o,its,n,hk,hc,hd,hs,hz,r⟩
  · obtain ⟨z,its,n,r,e⟩:=h.ok I.hok
    exact ⟨its,r,⟨_,n,e,rfl,rfl,rfl⟩,z⟩
  · refine ⟨its.toList,r,⟨o,n,I.kIn a o hk,hc,hd,by simpa using hs⟩,?_⟩
    have e:=r.length
    simp only [Array.length_toList] at e
    omega
theorem Inv.tuple (I : Inv X pins σ H s) (h : SqT X.K H a xs) : ∃ its : List Value,Vals xs its ∧ IsTup s.heap a its.toArray ∧ xs.length ≤ sizeLine:=by
  rcases h with h | ⟨o,its,n,hk,hc,hs,hz,r⟩
  · obtain ⟨z,its,r,p⟩:=h.ok I.hok
    exact ⟨its,r,p,z⟩
  · refine ⟨its.toList,r,⟨o,I.kIn a o hk,hc,n,by simpa using hs⟩,?_⟩
    have e:=r.length
    simp only [Array.length_toList] at e
    omega
theorem Inv.list_inj (I : Inv X pins σ H s) (h : SqL X.K H a xs) (h' : SqL X.K H a ys) : xs = ys:=by
  obtain ⟨its,r,⟨o,n,e,_,_,d⟩,_⟩:=I.list h
  obtain ⟨its',r',⟨o',n',e',_,_,d'⟩,_⟩:=I.list h'
  rw [e] at e'; cases e'
  rw [d] at d'
  injection d' with d1 _
  have : its = its':=by simpa using congrArg Array.toList d1
  subst this
  exact r.inj r'
theorem Inv.tuple_inj (I : Inv X pins σ H s) (h : SqT X.K H a xs) (h' : SqT X.K H a ys) : xs = ys:=by
  obtain ⟨its,r,⟨o,e,_,n,d⟩,_⟩:=I.tuple h
  obtain ⟨its',r',⟨o',e',_,n',d'⟩,_⟩:=I.tuple h'
  rw [e] at e'; cases e'
  rw [d] at d'
  injection d' with d1 _
  have : its = its':=by simpa using congrArg Array.toList d1
  subst this
  exact r.inj r'
end
abbrev Cx.wish (X : Cx) (E : Value → Shared → Prop) : Cx:={ X with xe:=E }
abbrev Cx.nox (X : Cx) : Cx:=X.wish fun _ _ => False
theorem Cx.Ok.wish {X : Cx} (ok : X.Ok) (E : Value → Shared → Prop) : (X.wish E).Ok :=
  ⟨ok.mod,ok.kind,ok.glob,ok.blt,ok.above,ok.inj,ok.has,ok.cab,ok.hd,ok.frames,ok.stk,ok.exf,ok.bs,ok.bsz,ok.noex,ok.exfs,ok.funs,ok.frf⟩
theorem Cx.Ok.unwish {X : Cx} {E : Value → Shared → Prop} (ok : (X.wish E).Ok) : X.Ok :=
  ⟨ok.mod,ok.kind,ok.glob,ok.blt,ok.above,ok.inj,ok.has,ok.cab,ok.hd,ok.frames,ok.stk,ok.exf,ok.bs,ok.bsz,ok.noex,ok.exfs,ok.funs,ok.frf⟩
section
variable {X : Cx} {pins : List (Addr × Obj)} {σ : St} {H : Hp} {s : Shared} {E : Value → Shared → Prop}
theorem Inv.wish (I : Inv X pins σ H s) (E : Value → Shared → Prop) : Inv (X.wish E) pins σ H s:=⟨I.ok.wish E,I.os,I.bare,I.base,I.loc,I.cell,I.free,I.freeC,I.pin,I.hok,I.len⟩
theorem Inv.unwish (I : Inv (X.wish E) pins σ H s) : Inv X pins σ H s:=⟨I.ok.unwish,I.os,I.bare,I.base,I.loc,I.cell,I.free,I.freeC,I.pin,I.hok,I.len⟩
theorem SP.unwish {D : Ends} {f : Flow} {s' : Shared} (h : SP (X.wish E) pins D f s') : SP X pins D f s':=by
  cases f with
  | next => obtain ⟨σ',H',I,q⟩:=h; exact ⟨σ',H',I.unwish,q⟩
  | brk => obtain ⟨σ',H',I,q⟩:=h; exact ⟨σ',H',I.unwish,q⟩
  | cont => obtain ⟨σ',H',I,q⟩:=h; exact ⟨σ',H',I.unwish,q⟩
  | ret u => obtain ⟨v,σ',H',I,r,q⟩:=h; exact ⟨v,σ',H',I.unwish,r,q⟩
theorem PSs.nox {st : List Stmt} {t : TS} (h : PSs X.nox st t) : PSs X st t:=fun pins s σ H D I hw =>
  wpAny_mono (h pins s σ H D (I.wish _) hw) (fun _ _ q => q.unwish) fun _ _ z => False.elim z
end
section
variable {X : Cx} {st : Stmt} {rest : List Stmt} {t u : TS} {e : Expr} {te : TE} {pos : Pos}
def tNext : TS:=fun D σ H => D.nx σ H
def tSeq (t u : TS) : TS:=fun D σ H => t { D with nx:=u D } σ H
theorem pss_nil : PSs X [] tNext:=fun _ _ σ H _ I h => wpAny_execs_nil ⟨σ,H,I,h⟩
theorem pss_cons (h1 : PS X st t) (h2 : PSs X rest u) : PSs X (st :: rest) (tSeq t u):=by
  intro pins s σ H D I h
  refine wpAny_execs_cons (thn (h1 pins s σ H { D with nx:=u D } I h) fun f s1 q => ?_)
  cases f with
  | next =>
    obtain ⟨σ',H',I',q⟩:=q
    exact h2 pins s1 σ' H' D I' q
  | ret v => exact q
  | brk => exact q
  | cont => exact q
theorem pss_one (h1 : PS X st t) : PSs X [st] t:=by
  intro pins s σ H D I h
  refine wpAny_execs_cons (thn (h1 pins s σ H D I h) fun f s1 q => ?_)
  cases f with
  | next => exact wpAny_execs_nil q
  | ret v => exact q
  | brk => exact q
  | cont => exact q
theorem Inv.quiet {pins : List (Addr × Obj)} {σ : St} {H : Hp} {s : Shared} (I : Inv X pins σ H s) : interactive X.env = false:=by simp [interactive,I.ok.kind]
def tDrop (te : TE) : TS:=fun D σ H => te σ H fun _ H1 => D.nx σ H1
theorem ps_expr (he : PE X e te) (hs : swapsWith e none pos.line X.env = pure false:=by rfl) : PS X (.Expr e pos) (tDrop te):=by
  intro pins s σ H D I h
  exact wpAny_Expr_any (thn (he pins s σ H _ I h) fun v s1 ⟨x,H1,I1,r1,q1⟩ => ⟨σ,H1,I1,q1⟩) I.quiet hs
def tRet (te : TE) : TS:=fun D σ H => te σ H D.rt
theorem ps_ret (he : PE X e te) : PS X (.Return (some e) pos) (tRet te):=by
  intro pins s σ H D I h
  exact wpAny_Return_some (thn (he pins s σ H _ I h) fun v s1 ⟨x,H1,I1,r1,q1⟩ => ⟨x,σ,H1,I1,r1,q1⟩)
def tIfS (c : TT) (t u : TS) : TS:=fun D σ H => c σ H fun b H1 => if b = true then t D σ H1 else u D σ H1
theorem ps_if {c : Expr} {a b : List Stmt} {tc : TT} (hc : PT X c tc) (ha : PSs X a t) (hb : PSs X b u) : PS X (.If c a b pos) (tIfS tc t u):=by
  intro pins s σ H D I h
  refine wpAny_If (thn (hc pins s σ H _ I h) fun d s1 ⟨H1,I1,q1⟩ => ?_)
  cases d with
  | true => exact ha pins s1 σ H1 D I1 q1
  | false => exact hb pins s1 σ H1 D I1 q1
def tNever : TS:=fun _ _ _ => False
theorem pss_never {sts : List Stmt} : PSs X sts tNever:=fun _ _ _ _ _ _ h => h.elim
end
abbrev TG:=V → St → Hp → (St → Hp → Prop) → Prop
abbrev TGs:=List V → St → Hp → (St → Hp → Prop) → Prop
def PG (X : Cx) (target : Expr) (t : TG) : Prop :=
  ∀ (pins : List (Addr × Obj)) (s : Shared) (σ : St) (H : Hp) (v : V) (u : Value) (Q : St → Hp → Prop),Inv X pins σ H s → RelV v u → t v σ H Q →
    wpAny (model X.prog X.w) X.A (assign target X.env u) (fun _ s' => ∃ σ' H',Inv X pins σ' H' s' ∧ Q σ' H') X.xe s
def PGs (X : Cx) (ts : List Expr) (t : TGs) : Prop :=
  ∀ (pins : List (Addr × Obj)) (s : Shared) (σ : St) (H : Hp) (vs : List V) (us : List Value) (Q : St → Hp → Prop),Inv X pins σ H s → Vals vs us → t vs σ H Q →
    wpAny (model X.prog X.w) X.A (assignInOrder ((assignEach ts X.env).map (·.2)) us) (fun _ s' => ∃ σ' H',Inv X pins σ' H' s' ∧ Q σ' H') X.xe s
section
variable {X : Cx} {pos : Pos}
def gName (i : Nat) : TG:=fun v σ H Q => Q (σ.set i (some v)) H
theorem pg_name {i : Nat} {x : Str} (hN : X.N.Nodup) (hi : X.N[i]? = some x) (hx : Loc X.env.scope x) (hf : X.fn x = true ∨ X.env.scope.names.lookup x = some .local:=by first | exact .inl rfl | exact .inr rfl | assumption) : PG X (.Name x pos) (gName i):=by
  intro pins s σ H v u Q I r h
  exact wpAny_assign_Name (store_ok I hN hi hx r (fun s' I' => ⟨_,H,I',h⟩) hf)
def gNil : TGs:=fun vs σ H Q => vs = [] ∧ Q σ H
def gCons (t : TG) (u : TGs) : TGs:=fun vs σ H Q => ∃ v r,vs = v :: r ∧ t v σ H fun σ' H' => u r σ' H' Q
theorem pgs_nil : PGs X [] gNil:=by
  intro pins s σ H vs us Q I r h
  obtain ⟨e,h⟩:=h
  subst e
  cases r
  exact assignInOrder_nil ⟨σ,H,I,h⟩
theorem pgs_cons {e : Expr} {es : List Expr} {t : TG} {u : TGs} (h1 : PG X e t) (h2 : PGs X es u)
    (hs : (assignEach (e :: es) X.env).map (·.2) = assign e X.env :: (assignEach es X.env).map (·.2):=by rfl) : PGs X (e :: es) (gCons t u):=by
  intro pins s σ H vs us Q I r h
  obtain ⟨v,vr,e1,h⟩:=h
  subst e1
  cases r with
  | cons r rr =>
    rw [hs]
    refine assignInOrder_cons (thn (h1 pins s σ H _ _ _ I r h) fun _ s1 ⟨σ1,H1,I1,q1⟩ => ?_)
    exact h2 pins s1 σ1 H1 _ _ Q I1 rr q1
def gTup (K : PySem.W.Frag) (n : Nat) (t : TGs) : TG:=fun v σ H Q => ∃ a xs,v = .ref a ∧ SqT K H a xs ∧ xs.length = n ∧ t xs σ H Q
theorem pg_tup {es : List Expr} {k : Nat} {t : TGs} {n : Nat} (hc : X.calm = true) (h : PGs X es t)
    (hn : (assignEach es X.env).length = n:=by rfl) (hst : (assignEach es X.env).findIdx? (·.1) = none:=by rfl) : PG X (.Tuple es k pos) (gTup X.K n t):=by
  intro pins s σ H v u Q I r hw
  obtain ⟨a,xs,e1,hq,hl,hw⟩:=hw
  subst e1
  cases r
  obtain ⟨its,rv,ht,hz⟩:=I.tuple hq
  refine assign_Tuple_tuple (I.ok.hd hc) ht (by simp [hn,← hl,rv.length]) hst fun h' hx => ?_
  have I1 : Inv X pins σ H { s with heap:=h' }:=I.kept (t':=s.toks) fun b o e => hx b o (Nat.ne_of_lt (Heap.lt_size e)) e
  exact h pins _ σ H xs _ Q I1 (by simpa using rv) hw
def tAsg (te : TE) (g : TG) : TS:=fun D σ H => te σ H fun x H1 => g x σ H1 D.nx
theorem ps_set {i : Nat} {x : Str} {e : Expr} {te : TE} {pos' : Pos} (hN : X.N.Nodup) (hi : X.N[i]? = some x) (hx : Loc X.env.scope x) (he : PE X e te) (hs : swapsWith e (some (.Name x pos')) pos.line X.env = pure false:=by rfl) (hf : X.fn x = true ∨ X.env.scope.names.lookup x = some .local:=by first | exact .inl rfl | exact .inr rfl | assumption) :
    PS X (.Assign [.Name x pos'] e pos) (tAsg te (gName i)):=by
  intro pins s σ H D I h
  refine wpAny_Assign_Name (thn (he pins s σ H _ I h) fun v s1 ⟨y,H1,I1,r1,q1⟩ => ?_) hs
  exact store_ok I1 hN hi hx r1 (fun s2 I2 => ⟨_,H1,I2,q1⟩) hf
end
section
variable {X : Cx} {pos : Pos}
end
structure It where
  go : Nat → Hp → Prop
  yld : Nat → Hp → V → Hp → Prop
  stop : Nat → Hp → Prop
def FpOk (X : Cx) (pins : List (Addr × Obj)) (H : Hp) (b : Addr) : Prop :=
  H b = none ∧ b ≠ X.env.locals ∧ b ∉ X.fs ∧ (b ∈ X.ex ∨ X.s₀.heap.objs.size ≤ b) ∧ (∀ x c,X.env.cells.lookup x = some c → c ≠ b) ∧ ∀ p ∈ X.pn ++ pins,p.1 ≠ b
theorem Inv.fpOk {X : Cx} {pins : List (Addr × Obj)} {σ : St} {H H' : Hp} {s : Shared} {b : Addr} (I : Inv X pins σ H s) (hb : s.heap.objs.size ≤ b) (hn : H' b = none) : FpOk X pins H' b:=by
  refine ⟨hn,Nat.ne_of_gt (Nat.lt_of_lt_of_le I.lt hb),I.nofs hb,.inr (Nat.le_trans I.sz hb),fun x c e z => ?_,fun p hp z => ?_⟩
  · obtain ⟨v,q⟩:=I.cell x c e
    exact absurd (Nat.lt_of_lt_of_le q.lt (by rw [z]; exact hb)) (Nat.lt_irrefl _)
  · exact absurd (Nat.lt_of_lt_of_le (Heap.lt_size (I.pin p hp).1) (by rw [z]; exact hb)) (Nat.lt_irrefl _)
structure Turn (P : Program) (w : World) (K : PySem.W.Frag) (tg : Expr) (J : It) (fp : List Addr) (it : Addr) (tn : Nat → Heap → Prop) : Prop where
  mem : it ∈ fp
  obj : ∀ i h,tn i h → ∀ b ∈ fp,∃ o,h.get? b = some o ∧ ∀ v,o.data ≠ .cell v
  keep : ∀ i h h',tn i h → (∀ b ∈ fp,∀ o,h.get? b = some o → h'.get? b = some o) → tn i h'
  item : ∀ (X : Cx),X.prog = P → X.w = w → X.K = K → X.calm = true → ∀ (i : Nat) (pins : List (Addr × Obj)) (s : Shared) (σ : St) (H : Hp) (E : Value → Shared → Prop),Inv X pins σ H s → (∀ b ∈ fp,FpOk X pins H b) → tn i s.heap → J.go i H →
    wpAny (model P w) X.A (pyNext (.ref it)) (fun r s1 => ∃ u,r = some u ∧
      wpAny (model P w) X.A (letOwnedTupleGo tg (.ref it) u) (fun _ s2 => ∃ x H',Inv X pins σ H' s2 ∧ RelV x u ∧ J.yld i H x H' ∧ tn (i + 1) s2.heap ∧ ∀ b ∈ fp,H' b = none) E s1) E s
  done : ∀ (X : Cx),X.prog = P → X.w = w → X.K = K → X.calm = true → ∀ (i : Nat) (pins : List (Addr × Obj)) (s : Shared) (σ : St) (H : Hp) (E : Value → Shared → Prop),Inv X pins σ H s → (∀ b ∈ fp,FpOk X pins H b) → tn i s.heap → J.stop i H →
    wpAny (model P w) X.A (pyNext (.ref it)) (fun r s1 => r = none ∧ Inv X pins σ H s1) E s
  self : ∀ (A : Around) (i : Nat) (s : Shared) (Q : Value → Shared → Prop) (E : Value → Shared → Prop),tn i s.heap → Q (.ref it) s → wpAny (model P w) A (pyIter (.ref it)) Q E s
abbrev TI:=St → Hp → (It → Hp → Prop) → Prop
def PIE (X : Cx) (pins : List (Addr × Obj)) (σ : St) (tg : Expr) (R : It → Hp → Prop) (itv : Value) (s2 : Shared) : Prop :=
  ∃ (it : Addr) (fp : List Addr) (tn : Nat → Heap → Prop) (J : It) (H' : Hp),itv = .ref it ∧ Inv X pins σ H' s2 ∧ Turn X.prog X.w X.K tg J fp it tn ∧ tn 0 s2.heap ∧ (∀ b ∈ fp,FpOk X pins H' b) ∧ R J H'
def PI (X : Cx) (tg iter : Expr) (wi : TI) : Prop :=
  ∀ (pins : List (Addr × Obj)) (s : Shared) (σ : St) (H : Hp) (R : It → Hp → Prop),Inv X pins σ H s → wi σ H R →
    wpAny (model X.prog X.w) X.A (eval iter X.env) (fun v s1 => wpAny (model X.prog X.w) X.A (pyIter v) (PIE X pins σ tg R) X.xe s1) X.xe s
theorem go_of {M : Model} {A : Around} {E : Value → Shared → Prop} {s : Shared} {tg : Expr} {it : Addr} {u : Value} {o : Obj} {n : String} {vs : Array Value} {Q : Unit → Shared → Prop} (ho : s.heap.get? it = some o) (hc : o.cls = .type n) (hd : o.data = .fields vs)
    (hn : ["enumerate","zip","dict_itemiterator","dict_reverseitemiterator","odict_iterator","itertools.zip_longest","itertools.pairwise"].contains n = false) (hQ : Q () s) : wpAny M A (letOwnedTupleGo tg (.ref it) u) Q E s:=by
  unfold letOwnedTupleGo
  cases tg <;> first
    | exact wpAny_pure hQ
    | (cases u <;> first
        | exact wpAny_pure hQ
        | (refine wpAny_bind (wpAny_load ho ?_)
           rw [hc,hd]
           show wpAny M A (if (["enumerate","zip","dict_itemiterator","dict_reverseitemiterator","odict_iterator","itertools.zip_longest","itertools.pairwise"].contains n && vs[0]? == some (rawInt _)) = true then _ else _) Q E s
           rw [if_neg (by intro h; rw [hn,Bool.false_and] at h; cases h)]
           exact wpAny_pure hQ))
def Itl (K : PySem.W.Frag) (a : Addr) : It :=
  ⟨fun i H => ∃ xs x,SqL K H a xs ∧ xs[i]? = some x,fun i H x H' => H' = H ∧ ∀ xs,SqL K H a xs → xs[i]? = some x,fun i H => ∃ xs,SqL K H a xs ∧ xs.length ≤ i⟩
def Itt (K : PySem.W.Frag) (a : Addr) : It :=
  ⟨fun i H => ∃ xs x,SqT K H a xs ∧ xs[i]? = some x,fun i H x H' => H' = H ∧ ∀ xs,SqT K H a xs → xs[i]? = some x,fun i H => ∃ xs,SqT K H a xs ∧ xs.length ≤ i⟩
def Itr (lo : Int) (n : Nat) : It:=⟨fun i _ => i < n,fun i H x H' => H' = H ∧ x = .int (lo + i),fun i _ => n ≤ i⟩
theorem turn_list {P : Program} {w : World} {K : PySem.W.Frag} {tg : Expr} (a it : Addr) : Turn P w K tg (Itl K a) [it] it (fun i h => h.IsListIter it a i) where
  mem:=by simp
  obj:=fun i h st b hb => by
    have e : b = it:=by simpa using hb
    subst e
    obtain ⟨o,e,c,d⟩:=st
    exact ⟨o,e,fun v z => by rw [d] at z; cases z⟩
  keep:=fun i h h' st k => st.at fun o e => k it (by simp) o e
  item:=by
    intro X hP hw hK hc i pins s σ H E I hf st hg
    subst hP hw hK
    obtain ⟨xs,x,hq,hx⟩:=hg
    obtain ⟨its,rv,p,hz⟩:=I.list hq
    obtain ⟨u,hu,ru⟩:=rv.get hx
    obtain ⟨f0,f1,f2,f3,f4,f5⟩:=hf it (by simp)
    refine wpAny_pyNext_list_item st p.isList (x:=u) (by simpa using hu) fun h' st' sb => ?_
    have I1 : Inv X pins σ H { s with heap:=h' }:=I.turned (t':=s.toks) (fun b o hb e => (sb.2 b hb).trans e) f0 f1 f3 f4 f5
    obtain ⟨o,e,c,d⟩:=id st'
    exact ⟨u,rfl,go_of (s:={ s with heap:=h' }) e c d (by decide) ⟨x,H,I1,ru,⟨rfl,fun ys hy => by rw [I.list_inj hy hq]; exact hx⟩,st',fun b hb => (hf b hb).1⟩⟩
  done:=by
    intro X hP hw hK hc i pins s σ H E I hf st hg
    subst hP hw hK
    obtain ⟨xs,hq,hx⟩:=hg
    obtain ⟨its,rv,p,hz⟩:=I.list hq
    obtain ⟨f0,f1,f2,f3,f4,f5⟩:=hf it (by simp)
    have hl:=rv.length
    exact wpAny_pyNext_list_end (I.ok.hd hc) st p.isList (by simp; omega) fun h' eb => ⟨rfl,I.turned (t':=s.toks) (fun b o hb e => eb b o hb e) f0 f1 f3 f4 f5⟩
  self:=fun _ _ _ _ _ st h => wpAny_pyIter_listiter st h
theorem turn_tuple {P : Program} {w : World} {K : PySem.W.Frag} {tg : Expr} (a it : Addr) : Turn P w K tg (Itt K a) [it] it (fun i h => h.IsTupleIter it a i) where
  mem:=by simp
  obj:=fun i h st b hb => by
    have e : b = it:=by simpa using hb
    subst e
    obtain ⟨o,e,c,d⟩:=st
    exact ⟨o,e,fun v z => by rw [d] at z; cases z⟩
  keep:=fun i h h' st k => st.at fun o e => k it (by simp) o e
  item:=by
    intro X hP hw hK hc i pins s σ H E I hf st hg
    subst hP hw hK
    obtain ⟨xs,x,hq,hx⟩:=hg
    obtain ⟨its,rv,p,hz⟩:=I.tuple hq
    obtain ⟨u,hu,ru⟩:=rv.get hx
    obtain ⟨f0,f1,f2,f3,f4,f5⟩:=hf it (by simp)
    refine wpAny_pyNext_tuple_item st (show s.heap.IsTuple a its.toArray from p) (x:=u) (by simpa using hu) fun h' st' sb => ?_
    have I1 : Inv X pins σ H { s with heap:=h' }:=I.turned (t':=s.toks) (fun b o hb e => (sb.2 b hb).trans e) f0 f1 f3 f4 f5
    obtain ⟨o,e,c,d⟩:=id st'
    exact ⟨u,rfl,go_of (s:={ s with heap:=h' }) e c d (by decide) ⟨x,H,I1,ru,⟨rfl,fun ys hy => by rw [I.tuple_inj hy hq]; exact hx⟩,st',fun b hb => (hf b hb).1⟩⟩
  done:=by
    intro X hP hw hK hc i pins s σ H E I hf st hg
    subst hP hw hK
    obtain ⟨xs,hq,hx⟩:=hg
    obtain ⟨its,rv,p,hz⟩:=I.tuple hq
    obtain ⟨f0,f1,f2,f3,f4,f5⟩:=hf it (by simp)
    have hl:=rv.length
    exact wpAny_pyNext_tuple_end (I.ok.hd hc) st (show s.heap.IsTuple a its.toArray from p) (by simp; omega) fun h' eb => ⟨rfl,I.turned (t':=s.toks) (fun b o hb e => eb b o hb e) f0 f1 f3 f4 f5⟩
  self:=fun _ _ _ _ _ st h => wpAny_pyIter_tupleiter st h
theorem turn_range {P : Program} {w : World} {K : PySem.W.Frag} {tg : Expr} (it : Addr) (lo : Int) (n : Nat) : Turn P w K tg (Itr lo n) [it] it (fun i h => IsRangeIter h it (lo + (i : Nat) * 1) ((n : Int) - (i : Nat)) 1) where
  mem:=by simp
  obj:=fun i h st b hb => by
    have e : b = it:=by simpa using hb
    subst e
    exact ⟨_,st,fun v z => by
      have z' : Data.fields _ = Data.cell v:=z
      cases z'⟩
  keep:=fun i h h' st k => k it (by simp) _ st
  item:=by
    intro X hP hw hK hc i pins s σ H E I hf st hg
    subst hP hw hK
    obtain ⟨f0,f1,f2,f3,f4,f5⟩:=hf it (by simp)
    have W:=Walks.range (prog:=X.prog) (w:=X.w) (I.ok.hd hc) it lo 1 n
    refine W.item i s _ _ hg st fun v h' tk hv st' kk => ?_
    obtain ⟨t,rfl⟩:=hv
    have I1 : Inv X pins σ H { s with heap:=h',toks:=tk }:=I.turned (fun b o hb e => kk b o (by simpa using hb) e) f0 f1 f3 f4 f5
    refine ⟨_,rfl,go_of (s:={ s with heap:=h',toks:=tk }) (n:="range_iterator") st' rfl rfl (by decide) ⟨.int (lo + i),H,I1,⟨t,?_⟩,⟨rfl,rfl⟩,st',fun b hb => (hf b hb).1⟩⟩
    rw [Int.mul_one]
  done:=by
    intro X hP hw hK hc i pins s σ H E I hf st hg
    subst hP hw hK
    obtain ⟨f0,f1,f2,f3,f4,f5⟩:=hf it (by simp)
    exact wpAny_pyNext_range_end (I.ok.hd hc) st (by have : n ≤ i:=hg; omega) fun h' eb => ⟨rfl,I.turned (t':=s.toks) (fun b o hb e => eb b o hb e) f0 f1 f3 f4 f5⟩
  self:=fun _ _ _ _ _ st h => wpAny_pyIter_rangeiter st h
end L2
namespace L2
open PySem PySem.Spec PyProof.Rows
section
variable {X : Cx} {tg : Expr}
def iList (K : PySem.W.Frag) (tl : TE) : TI:=fun σ H R => tl σ H fun x H1 => ∃ a,x = .ref a ∧ (∃ xs,SqL K H1 a xs) ∧ R (Itl K a) H1
def iTup (K : PySem.W.Frag) (tl : TE) : TI:=fun σ H R => tl σ H fun x H1 => ∃ a,x = .ref a ∧ (∃ xs,SqT K H1 a xs) ∧ R (Itt K a) H1
theorem pi_list {l : Expr} {tl : TE} (hl : PE X l tl) : PI X tg l (iList X.K tl):=by
  intro pins s σ H R I h
  refine thn (hl pins s σ H _ I h) fun v s1 ⟨x,H1,I1,r1,q1⟩ => ?_
  obtain ⟨a,e,⟨xs,hq⟩,q⟩:=q1
  subst e
  cases r1
  obtain ⟨its,rv,p,hz⟩:=I1.list hq
  refine wpAny_pyIter_list p.isList ?_
  refine ⟨s1.heap.objs.size,[s1.heap.objs.size],_,_,H1,rfl,I1.kept (t':=s1.toks) fun b o e => Heap.get?_push_of_some _ e,turn_list a _,⟨_,Heap.get?_push_size _ rfl,rfl,rfl⟩,fun b hb => ?_,q⟩
  have e : b = s1.heap.objs.size:=by simpa using hb
  subst e
  exact I1.fpOk (Nat.le_refl _) (I1.hok.fresh (Nat.le_refl _))
theorem pi_tup {l : Expr} {tl : TE} (hl : PE X l tl) : PI X tg l (iTup X.K tl):=by
  intro pins s σ H R I h
  refine thn (hl pins s σ H _ I h) fun v s1 ⟨x,H1,I1,r1,q1⟩ => ?_
  obtain ⟨a,e,⟨xs,hq⟩,q⟩:=q1
  subst e
  cases r1
  obtain ⟨its,rv,p,hz⟩:=I1.tuple hq
  refine wpAny_pyIter_tuple (show s1.heap.IsTuple a its.toArray from p) ?_
  refine ⟨s1.heap.objs.size,[s1.heap.objs.size],_,_,H1,rfl,I1.kept (t':=s1.toks) fun b o e => Heap.get?_push_of_some _ e,turn_tuple a _,⟨_,Heap.get?_push_size _ rfl,rfl,rfl⟩,fun b hb => ?_,q⟩
  have e : b = s1.heap.objs.size:=by simpa using hb
  subst e
  exact I1.fpOk (Nat.le_refl _) (I1.hok.fresh (Nat.le_refl _))
theorem range_it {pins : List (Addr × Obj)} {σ : St} {H : Hp} {s : Shared} {R : It → Hp → Prop} {E : Value → Shared → Prop} {lo hi : Int} {t u v : Tok} {tk : Nat} (I : Inv X pins σ H s) (h1 : -(2 ^ 62) ≤ lo) (h2 : lo < 2 ^ 62) (h3 : -(2 ^ 62) ≤ hi) (h4 : hi < 2 ^ 62)
    (q : R (Itr lo (hi - lo).toNat) H) : wpAny (model X.prog X.w) X.A (pyIter (.ref s.heap.objs.size)) (PIE X pins σ tg R) E { s with heap:=s.heap.push { cls:=.type "range",data:=.fields #[.int lo t,.int hi u,.int 1 v] },toks:=tk }:=by
  refine wpAny_pyIter_range (IsRange.new ..) (small_one h1 h2 h3 h4) ?_
  have I1 : Inv X pins σ H { s with heap:=s.heap.push { cls:=.type "range",data:=.fields #[.int lo t,.int hi u,.int 1 v] },toks:=tk }:=I.kept fun b o e => Heap.get?_push_of_some _ e
  refine ⟨(s.heap.push { cls:=.type "range",data:=.fields #[.int lo t,.int hi u,.int 1 v] }).objs.size,[(s.heap.push { cls:=.type "range",data:=.fields #[.int lo t,.int hi u,.int 1 v] }).objs.size],_,_,H,rfl,
    I1.kept (t':=tk) fun b o e => Heap.get?_push_of_some _ e,turn_range _ lo (hi - lo).toNat,?_,fun b hb => ?_,q⟩
  · have e1 : lo + ((0 : Nat) : Int) * 1 = lo:=by simp
    have e2 : (((hi - lo).toNat : Nat) : Int) - ((0 : Nat) : Int) = Builtin.Range.rangeSize lo hi 1:=by rw [rangeSize_one]; split <;> omega
    show IsRangeIter _ _ (lo + ((0 : Nat) : Int) * 1) ((((hi - lo).toNat : Nat) : Int) - ((0 : Nat) : Int)) 1
    rw [e1,e2]
    exact Heap.get?_push_size _ rfl
  · have e : b = (s.heap.push { cls:=.type "range",data:=.fields #[.int lo t,.int hi u,.int 1 v] }).objs.size:=by simpa using hb
    subst e
    exact I1.fpOk (Nat.le_refl _) (I1.hok.fresh (Nat.le_refl _))
def iRng1 (ta : TA) : TI:=fun σ H R => ta σ H fun vs H1 => ∃ j : Int,vs = [.int j] ∧ -(2 ^ 62) ≤ j ∧ j < 2 ^ 62 ∧ R (Itr 0 j.toNat) H1
def iRng2 (ta : TA) : TI:=fun σ H R => ta σ H fun vs H1 => ∃ i j : Int,vs = [.int i,.int j] ∧ (-(2 ^ 62) ≤ i ∧ i < 2 ^ 62 ∧ -(2 ^ 62) ≤ j ∧ j < 2 ^ 62) ∧ R (Itr i (j - i).toNat) H1
theorem pi_range1 {a : Expr} {ta : TA} {p pos : Pos} (hg : Gl X "range") (hm : X.mg "range" = none) (ha : PA X [a] ta) (hs : starEach [a] X.env = [(false,eval a X.env)]:=by rfl) : PI X tg (.Call (.Name "range" p) [a] [] pos) (iRng1 ta):=by
  intro pins s σ H R I h
  refine Call_ (ld_blt I hg hm boot_range (PyProof.Rows.callWith_type1 (thn (ha pos pins s σ H _ I h) fun us s1 ⟨vs,H1,I1,r1,q1⟩ => ?_) hs rfl))
  obtain ⟨j,e,q1,q2,q⟩:=q1
  subst e
  cases r1 with
  | cons r rr =>
    cases rr
    obtain ⟨t,rfl⟩:=r
    exact call_range_1 (range_it I1 (by omega) (by omega) q1 q2 (by simpa using q))
theorem pi_range2 {a b : Expr} {ta : TA} {p pos : Pos} (hg : Gl X "range") (hm : X.mg "range" = none) (ha : PA X [a,b] ta) (hs : starEach [a,b] X.env = [(false,eval a X.env),(false,eval b X.env)]:=by rfl) (hs2 : starEach [b] X.env = [(false,eval b X.env)]:=by rfl) :
    PI X tg (.Call (.Name "range" p) [a,b] [] pos) (iRng2 ta):=by
  intro pins s σ H R I h
  refine Call_ (ld_blt I hg hm boot_range (PyProof.Rows.callWith_type1 (thn (ha pos pins s σ H _ I h) fun us s1 ⟨vs,H1,I1,r1,q1⟩ => ?_) (by rw [hs,hs2]) (by rw [hs2]; rfl)))
  obtain ⟨i,j,e,⟨q1,q2,q3,q4⟩,q⟩:=q1
  subst e
  cases r1 with
  | cons r rr =>
    cases rr with
    | cons r' rr =>
      cases rr
      obtain ⟨t,rfl⟩:=r
      obtain ⟨t',rfl⟩:=r'
      exact call_range_2 (range_it I1 q1 q2 q3 q4 q)
def tFor (wi : TI) (g : TG) (tb : TS) : TS:=fun D σ H => wi σ H fun J H1 => ∃ W : Nat → Nat → St → Hp → Prop,(∃ m,W 0 m σ H1) ∧ ∀ i m σ H,W i m σ H →
  (J.stop i H ∧ D.nx σ H) ∨ (J.go i H ∧ ∃ N : St → Hp → Prop,(∀ σ' H',N σ' H' → ∃ m',m' < m ∧ W (i + 1) m' σ' H') ∧ ∀ x H',J.yld i H x H' → g x σ H' fun σ2 H2 => tb { D with nx:=N,ct:=N,bk:=D.nx } σ2 H2)
def pinsAt (fp : List Addr) (h : Heap) : List (Addr × Obj):=fp.filterMap fun b => (h.get? b).map fun o => (b,o)
theorem mem_pinsAt {fp : List Addr} {h : Heap} {b : Addr} {o : Obj} (hb : b ∈ fp) (e : h.get? b = some o) : (b,o) ∈ pinsAt fp h:=List.mem_filterMap.mpr ⟨b,hb,by rw [e]; rfl⟩
theorem of_pinsAt {fp : List Addr} {h : Heap} {p : Addr × Obj} (hp : p ∈ pinsAt fp h) : p.1 ∈ fp ∧ h.get? p.1 = some p.2:=by
  obtain ⟨b,hb,e⟩:=List.mem_filterMap.mp hp
  cases q : h.get? b with
  | none => rw [q] at e; cases e
  | some o =>
    rw [q] at e
    have e' : (b,o) = p:=Option.some.inj e
    subst e'
    exact ⟨hb,q⟩
theorem Inv.pinned {pins : List (Addr × Obj)} {σ : St} {H : Hp} {s : Shared} {fp : List Addr} (I : Inv X pins σ H s) (hf : ∀ b ∈ fp,FpOk X pins H b) (ho : ∀ b ∈ fp,∃ o,s.heap.get? b = some o ∧ ∀ v,o.data ≠ .cell v) : Inv X (pins ++ pinsAt fp s.heap) σ H s :=
  I.pins_of fun p hp => (List.mem_append.mp hp).elim (fun z => I.pin p (List.mem_append_right _ z)) fun z => by
    obtain ⟨hb,e⟩:=of_pinsAt z
    obtain ⟨f0,f1,f2,_⟩:=hf p.1 hb
    obtain ⟨o,e',d⟩:=ho p.1 hb
    rw [e] at e'; cases e'
    exact ⟨e,f0,f1,f2,d⟩
theorem Inv.unpinned {pins pl : List (Addr × Obj)} {σ : St} {H : Hp} {s : Shared} (I : Inv X (pins ++ pl) σ H s) : Inv X pins σ H s:=I.pins_of fun p hp => I.pin p (List.mem_append_right _ (List.mem_append_left _ hp))
theorem ps_for {iter : Expr} {body : List Stmt} {wi : TI} {g : TG} {tb : TS} {pos : Pos} (hp : PassesOwn (model X.prog X.w) X.A X.env X.xe) (hc : X.calm = true) (hi : PI X tg iter wi) (hg : PG X tg g) (hb : PSs X body tb)
    (hs : ∀ x,foldedSetIterable iter X.env x = pure x:=by intro _; rfl) : PS X (.For tg iter body [] pos) (tFor wi g tb):=by
  intro pins s σ H D I h
  refine wpAny_For (thn (hi pins s σ H _ I h) fun v s1 h1 => thn h1 fun itv s2 h2 => ?_) hs
  obtain ⟨it,fp,tn,J,H2,e,I2,T,st2,f2,W,⟨m0,w0⟩,turn⟩:=h2
  subst e
  -- what stays true of the iterator's objects through the loop
  have stat : ∀ {H' : Hp},(∀ b ∈ fp,H' b = none) → ∀ b ∈ fp,FpOk X pins H' b:=fun hn b hb => ⟨hn b hb,(f2 b hb).2⟩
  refine codeAny_forLoop_any (fun n s' => ∃ i σ' H',Inv X pins σ' H' s' ∧ tn i s'.heap ∧ (∀ b ∈ fp,H' b = none) ∧ W i n σ' H') ?_ m0 ⟨0,σ,H2,I2,st2,fun b hb => (f2 b hb).1,w0⟩
  rintro n s3 ⟨i,σ3,H3,I3,st3,fr3,w3⟩
  rcases turn i n σ3 H3 w3 with ⟨stop,qn⟩ | ⟨go,N,hN,step⟩
  · refine wpAny_passesOwn hp (thn (T.done X rfl rfl rfl hc i pins s3 σ3 H3 X.xe I3 (stat fr3) st3 stop) fun r s4 ⟨hr,I4⟩ => ?_)
    subst hr
    exact wpAny_execs_nil ⟨σ3,H3,I4,qn⟩
  · refine wpAny_passesOwn hp (thn (T.item X rfl rfl rfl hc i pins s3 σ3 H3 X.xe I3 (stat fr3) st3 go) fun r s4 ⟨u,hr,h4⟩ => ?_)
    subst hr
    refine wpAny_passesOwn hp (thn h4 fun _ s5 ⟨x,H5,I5,r5,y5,st5,fr5⟩ => ?_)
    have I5':=I5.pinned (stat fr5) (T.obj _ _ st5)
    refine wpAny_passesOwn hp (thn (hg _ s5 σ3 H5 x u _ I5' r5 (step x H5 y5)) fun _ s6 ⟨σ6,H6,I6,q6⟩ => ?_)
    refine wpAny_passesOwn hp (thn (hb _ s6 σ6 H6 _ I6 q6) fun f s7 q7 => ?_)
    have again : ∀ {σ7 : St} {H7 : Hp},Inv X (pins ++ pinsAt fp s5.heap) σ7 H7 s7 → N σ7 H7 → ∃ m,m < n ∧ ∃ i σ' H',Inv X pins σ' H' s7 ∧ tn i s7.heap ∧ (∀ b ∈ fp,H' b = none) ∧ W i m σ' H':=fun {σ7 H7} I7 n7 => by
      obtain ⟨m',hm,w7⟩:=hN σ7 H7 n7
      refine ⟨m',hm,i + 1,σ7,H7,I7.unpinned,T.keep _ _ _ st5 fun b hb o e => (I7.pin (b,o) (List.mem_append_right _ (List.mem_append_right _ (mem_pinsAt hb e)))).1,fun b hb => ?_,w7⟩
      obtain ⟨o,e,d⟩:=T.obj _ _ st5 b hb
      exact (I7.pin (b,o) (List.mem_append_right _ (List.mem_append_right _ (mem_pinsAt hb e)))).2.1
    cases f with
    | next => obtain ⟨σ7,H7,I7,n7⟩:=q7; exact again I7 n7
    | cont => obtain ⟨σ7,H7,I7,n7⟩:=q7; exact again I7 n7
    | brk => obtain ⟨σ7,H7,I7,q7⟩:=q7; exact ⟨σ7,H7,I7.unpinned,q7⟩
    | ret v => obtain ⟨x7,σ7,H7,I7,r7,q7⟩:=q7; exact ⟨x7,σ7,H7,I7.unpinned,r7,q7⟩
end
theorem for_list {K : PySem.W.Frag} {a : Addr} {xs : List V} {g : TG} {tb : TS} {D : Ends} {σ : St} {H : Hp} (Pv : Nat → St → Hp → Prop) (h0 : Pv 0 σ H) (hl : ∀ i σ H,i ≤ xs.length → Pv i σ H → SqL K H a xs)
    (hs : ∀ i x σ H,xs[i]? = some x → Pv i σ H → g x σ H fun σ2 H2 => tb { D with nx:=Pv (i + 1),ct:=Pv (i + 1),bk:=D.nx } σ2 H2) (hd : ∀ σ H,Pv xs.length σ H → D.nx σ H) :
    ∃ W : Nat → Nat → St → Hp → Prop,(∃ m,W 0 m σ H) ∧ ∀ i m σ H,W i m σ H →
      ((Itl K a).stop i H ∧ D.nx σ H) ∨ ((Itl K a).go i H ∧ ∃ N : St → Hp → Prop,(∀ σ' H',N σ' H' → ∃ m',m' < m ∧ W (i + 1) m' σ' H') ∧ ∀ x H',(Itl K a).yld i H x H' → g x σ H' fun σ2 H2 => tb { D with nx:=N,ct:=N,bk:=D.nx } σ2 H2):=by
  refine ⟨fun i m σ H => m = xs.length - i ∧ i ≤ xs.length ∧ Pv i σ H,⟨xs.length,by simp,Nat.zero_le _,h0⟩,?_⟩
  rintro i m σ H ⟨rfl,hi,p⟩
  have q:=hl i σ H hi p
  by_cases hlt : i < xs.length
  · refine .inr ⟨⟨xs,xs[i],q,by simp [hlt]⟩,Pv (i + 1),fun σ' H' p' => ⟨xs.length - (i + 1),by omega,rfl,hlt,p'⟩,fun x H' y => ?_⟩
    obtain ⟨e,y⟩:=y
    subst e
    exact hs i x σ _ (y xs q) p
  · have e : i = xs.length:=by omega
    subst e
    exact .inl ⟨⟨xs,q,Nat.le_refl _⟩,hd σ H p⟩
theorem for_range {lo : Int} {n : Nat} {g : TG} {tb : TS} {D : Ends} {σ : St} {H : Hp} (Pv : Nat → St → Hp → Prop) (h0 : Pv 0 σ H)
    (hs : ∀ i σ H,i < n → Pv i σ H → g (.int (lo + i)) σ H fun σ2 H2 => tb { D with nx:=Pv (i + 1),ct:=Pv (i + 1),bk:=D.nx } σ2 H2) (hd : ∀ σ H,Pv n σ H → D.nx σ H) :
    ∃ W : Nat → Nat → St → Hp → Prop,(∃ m,W 0 m σ H) ∧ ∀ i m σ H,W i m σ H →
      ((Itr lo n).stop i H ∧ D.nx σ H) ∨ ((Itr lo n).go i H ∧ ∃ N : St → Hp → Prop,(∀ σ' H',N σ' H' → ∃ m',m' < m ∧ W (i + 1) m' σ' H') ∧ ∀ x H',(Itr lo n).yld i H x H' → g x σ H' fun σ2 H2 => tb { D with nx:=N,ct:=N,bk:=D.nx } σ2 H2):=by
  refine ⟨fun i m σ H => m = n - i ∧ i ≤ n ∧ Pv i σ H,⟨n,by simp,Nat.zero_le _,h0⟩,?_⟩
  rintro i m σ H ⟨rfl,hi,p⟩
  by_cases hlt : i < n
  · refine .inr ⟨hlt,Pv (i + 1),fun σ' H' p' => ⟨n - (i + 1),by omega,rfl,hlt,p'⟩,fun x H' y => ?_⟩
    obtain ⟨e,y⟩:=y
    subst e y
    exact hs i σ _ hlt p
  · have e : i = n:=by omega
    subst e
    exact .inl ⟨Nat.le_refl _,hd σ H p⟩
end L2
namespace L2
open PySem PySem.Spec PyProof.Rows
abbrev R2:=V → V → Hp → VK → Prop
def OpR (X : Cx) (f : Value → Value → Sem Value) (r : R2) : Prop :=
  ∀ (pins : List (Addr × Obj)) (s : Shared) (σ : St) (H : Hp) (x y : V) (v u : Value) (Q : VK),Inv X pins σ H s → RelV x v → RelV y u → r x y H Q →
    wpAny (model X.prog X.w) X.A (f v u) (EP X pins σ Q) X.xe s
def UnR (X : Cx) (f : Value → Sem Value) (r : V → Hp → VK → Prop) : Prop :=
  ∀ (pins : List (Addr × Obj)) (s : Shared) (σ : St) (H : Hp) (x : V) (v : Value) (Q : VK),Inv X pins σ H s → RelV x v → r x H Q →
    wpAny (model X.prog X.w) X.A (f v) (EP X pins σ Q) X.xe s
def CallR (X : Cx) (f : Value) (r : List V → Hp → VK → Prop) : Prop :=
  ∀ (pins : List (Addr × Obj)) (s : Shared) (σ : St) (H : Hp) (xs : List V) (us : List Value) (Q : VK),Inv X pins σ H s → Vals xs us → r xs H Q →
    wpAny (model X.prog X.w) X.A (call f us) (EP X pins σ Q) X.xe s
def TruR (X : Cx) (r : V → Hp → (Bool → Hp → Prop) → Prop) : Prop :=
  ∀ (pins : List (Addr × Obj)) (s : Shared) (σ : St) (H : Hp) (x : V) (v : Value) (Q : Bool → Hp → Prop),Inv X pins σ H s → RelV x v → r x H Q →
    wpAny (model X.prog X.w) X.A (truthy v) (TP X pins σ Q) X.xe s
def tOp (r : R2) (ta tb : TE) : TE:=fun σ H Q => ta σ H fun x H1 => tb σ H1 fun y H2 => r x y H2 Q
def tUn (r : V → Hp → VK → Prop) (ta : TE) : TE:=fun σ H Q => ta σ H fun x H1 => r x H1 Q
def rI (C : Int → Int → Prop) (g : Int → Int → V) : R2:=fun x y H Q => ∃ i j,x = .int i ∧ y = .int j ∧ C i j ∧ Q (g i j) H
def rI0 (g : Int → Int → V) : R2:=fun x y H Q => ∃ i j,x = .int i ∧ y = .int j ∧ Q (g i j) H
def rU (g : Int → V) : V → Hp → VK → Prop:=fun x H Q => ∃ i,x = .int i ∧ Q (g i) H
section
variable {X : Cx} {a b c : Expr} {ta tb tc : TE} {pos : Pos}
theorem binT (ha : PE X a ta) (hb : PE X b tb) {pins : List (Addr × Obj)} {s : Shared} {σ : St} {H : Hp} {R : V → V → Hp → Prop} (I : Inv X pins σ H s)
    (h : ta σ H fun x H1 => tb σ H1 fun y H2 => R x y H2) {Q : Value → Shared → Prop} {f : Value → Value → Sem Value}
    (hf : ∀ v u s2 x y H2,Inv X pins σ H2 s2 → RelV x v → RelV y u → R x y H2 → wpAny (model X.prog X.w) X.A (f v u) Q X.xe s2) :
    wpAny (model X.prog X.w) X.A (eval a X.env) (fun v s₁ => wpAny (model X.prog X.w) X.A (eval b X.env) (fun u s₂ => wpAny (model X.prog X.w) X.A (f v u) Q X.xe s₂) X.xe s₁) X.xe s:=by
  refine thn (ha pins s σ H _ I h) fun v s1 ⟨x,H1,I1,r1,q1⟩ => ?_
  refine thn (hb pins s1 σ H1 _ I1 q1) fun u s2 ⟨y,H2,I2,r2,q2⟩ => ?_
  exact hf v u s2 x y H2 I2 r1 r2 q2
theorem pe_op {op : Operator} {r : R2} (ho : OpR X (binaryOp op) r) (ha : PE X a ta) (hb : PE X b tb) : PE X (.BinOp a op b pos) (tOp r ta tb):=by
  intro pins s σ H Q I h
  exact wpAny_BinOp (binT ha hb I h fun v u s2 x y H2 I2 rx ry q => ho pins s2 σ H2 x y v u Q I2 rx ry q)
theorem pe_un {op : UnaryOp} {r : V → Hp → VK → Prop} (ho : UnR X (unaryOp op) r) (ha : PE X a ta) : PE X (.UnaryOp op a pos) (tUn r ta):=by
  intro pins s σ H Q I h
  exact UnaryOp_ (thn (ha pins s σ H _ I h) fun v s1 ⟨x,H1,I1,r1,q1⟩ => ho pins s1 σ H1 x v Q I1 r1 q1)
theorem opI {f : Value → Value → Sem Value} {C : Int → Int → Prop} {g : Int → Int → Int}
    (rule : ∀ (i j : Int) (t u : Tok) (s : Shared) (Q : Value → Shared → Prop) (E : Value → Shared → Prop),C i j → Q (.int (g i j) s.toks) { s with toks:=s.toks + 1 } → wpAny (model X.prog X.w) X.A (f (.int i t) (.int j u)) Q E s) :
    OpR X f (rI C fun i j => .int (g i j)):=by
  intro pins s σ H x y v u Q I rx ry h
  obtain ⟨i,j,rfl,rfl,hc,q⟩:=h
  obtain ⟨t,rfl⟩:=rx
  obtain ⟨t',rfl⟩:=ry
  exact rule i j t t' s _ _ hc ⟨.int (g i j),H,I.tok _,⟨_,rfl⟩,q⟩
theorem opI0 {f : Value → Value → Sem Value} {g : Int → Int → Int}
    (rule : ∀ (i j : Int) (t u : Tok) (s : Shared) (Q : Value → Shared → Prop) (E : Value → Shared → Prop),Q (.int (g i j) s.toks) { s with toks:=s.toks + 1 } → wpAny (model X.prog X.w) X.A (f (.int i t) (.int j u)) Q E s) :
    OpR X f (rI0 fun i j => .int (g i j)):=by
  intro pins s σ H x y v u Q I rx ry h
  obtain ⟨i,j,rfl,rfl,q⟩:=h
  obtain ⟨t,rfl⟩:=rx
  obtain ⟨t',rfl⟩:=ry
  exact rule i j t t' s _ _ ⟨.int (g i j),H,I.tok _,⟨_,rfl⟩,q⟩
theorem opB0 {f : Value → Value → Sem Value} {g : Int → Int → Bool}
    (rule : ∀ (i j : Int) (t u : Tok) (s : Shared) (Q : Value → Shared → Prop) (E : Value → Shared → Prop),Q (.bool (g i j)) s → wpAny (model X.prog X.w) X.A (f (.int i t) (.int j u)) Q E s) :
    OpR X f (rI0 fun i j => .bl (g i j)):=by
  intro pins s σ H x y v u Q I rx ry h
  obtain ⟨i,j,rfl,rfl,q⟩:=h
  obtain ⟨t,rfl⟩:=rx
  obtain ⟨t',rfl⟩:=ry
  exact rule i j t t' s _ _ ⟨.bl (g i j),H,I,rfl,q⟩
def CPow (i j : Int) : Prop:=0 ≤ j ∧ j ≤ 1000000 ∧ i.natAbs < 2 ^ 64
def CMul (i j : Int) : Prop:=(-(2 ^ 64) < i ∧ i < 2 ^ 64) ∨ (-(2 ^ 64) < j ∧ j < 2 ^ 64)
theorem CMul.ok {i j : Int} (h : CMul i j) : IntMulOk i j:=by
  rcases h with ⟨h1,h2⟩ | ⟨h1,h2⟩
  · exact .of_left (intBits_le_64 h1 h2)
  · exact .of_right (intBits_le_64 h1 h2)
theorem two_pow_nn (k : Nat) : (0 : Int) ≤ 2 ^ k:=by
  rw [two_pow_cast]
  exact Int.natCast_nonneg _
theorem op_add : OpR X (binaryOp .Add) (rI0 fun i j => .int (i + j)):=opI0 fun _ _ _ _ _ _ _ q => add_int q
theorem op_sub : OpR X (binaryOp .Sub) (rI0 fun i j => .int (i - j)):=opI0 fun _ _ _ _ _ _ _ q => sub_int q
theorem op_mul : OpR X (binaryOp .Mult) (rI CMul fun i j => .int (i * j)):=opI fun _ _ _ _ _ _ _ hc q => mul_int q hc.ok
theorem op_mod : OpR X (binaryOp .Mod) (rI (fun _ j => 0 < j) fun i j => .int (i % j)):=opI fun i j _ _ _ _ _ hc q => by
  have h1 : (0 : Int) < j:=hc
  exact mod_int' (by omega) (by rw [Int.fmod_eq_emod_of_nonneg i (by omega)]; exact q)
theorem op_pow : OpR X (binaryOp .Pow) (rI CPow fun i j => .int (i ^ j.toNat)):=opI fun _ _ _ _ _ _ _ hc q => pow_int_small hc.1 hc.2.1 hc.2.2 q
theorem op_shl : OpR X (binaryOp .LShift) (rI CPow fun i j => .int (i * 2 ^ j.toNat)):=opI fun _ _ _ _ _ _ _ hc q => lshift_int_small hc.1 hc.2.1 hc.2.2 q
theorem op_shr : OpR X (binaryOp .RShift) (rI (fun _ j => 0 ≤ j) fun i j => .int (i / 2 ^ j.toNat)):=opI fun i j _ _ _ _ _ hc q =>
  rshift_int hc (by rw [Int.fdiv_eq_ediv_of_nonneg i (two_pow_nn _)]; exact q)
theorem op_and : OpR X (binaryOp .BitAnd) (rI0 fun i j => .int (Builtin.bitAnd i j)):=opI0 fun _ _ _ _ _ _ _ q => and_int q
theorem unI {f : Value → Sem Value} {g : Int → Int}
    (rule : ∀ (i : Int) (t : Tok) (s : Shared) (Q : Value → Shared → Prop) (E : Value → Shared → Prop),Q (.int (g i) s.toks) { s with toks:=s.toks + 1 } → wpAny (model X.prog X.w) X.A (f (.int i t)) Q E s) :
    UnR X f (rU fun i => .int (g i)):=by
  intro pins s σ H x v Q I rx h
  obtain ⟨i,rfl,q⟩:=h
  obtain ⟨t,rfl⟩:=rx
  exact rule i t s _ _ ⟨.int (g i),H,I.tok _,⟨_,rfl⟩,q⟩
theorem un_neg : UnR X (unaryOp .USub) (rU fun i => .int (-i)):=unI fun _ _ _ _ _ q => neg_int q
end
def scal : V → V → Bool
  | .non,.non => true | .non,.int _ => true | .int _,.non => true | .non,.bl _ => true | .bl _,.non => true | .non,.str _ => true | .str _,.non => true
  | .int _,.int _ => true | .bl _,.bl _ => true | .str _,.str _ => true | .byt _,.byt _ => true
  | .int _,.str _ => true | .str _,.int _ => true | .bl _,.str _ => true | .str _,.bl _ => true
  | _,_ => false
def rEq : R2:=fun x y H Q => scal x y = true ∧ Q (.bl (decide (x = y))) H
def rNe : R2:=fun x y H Q => scal x y = true ∧ Q (.bl (!decide (x = y))) H
theorem dec_int {i j : Int} : decide (V.int i = V.int j) = (i == j):=by
  rw [Bool.eq_iff_iff]
  simp
theorem dec_bl {i j : Bool} : decide (V.bl i = V.bl j) = (i == j):=by
  rw [Bool.eq_iff_iff]
  simp
theorem dec_str {i j : Str} : decide (V.str i = V.str j) = (i == j):=by
  rw [Bool.eq_iff_iff]
  simp
theorem dec_byt {i j : Array UInt8} : decide (V.byt i = V.byt j) = (i.toList == j.toList):=by
  rw [Bool.eq_iff_iff]
  cases i
  cases j
  simp
section
variable {X : Cx} {a b c : Expr} {ta tb tc : TE} {pos : Pos}
theorem fin_bl {pins : List (Addr × Obj)} {σ : St} {H : Hp} {s : Shared} {Q : VK} {k k' : Bool} (I : Inv X pins σ H s) (q : Q (.bl k) H) (e : k = k') : EP X pins σ Q (.bool k') s:=by
  subst e
  exact ⟨.bl k,H,I,rfl,q⟩
theorem op_eq : OpR X (compareOp .Eq) rEq:=by
  intro pins s σ H x y v u Q I rx ry h
  obtain ⟨hs,q⟩:=h
  cases x with
  | non =>
    cases rx
    cases y with
    | non => cases ry; exact PySem.EqNone.eq_none_none (fin_bl I q (by simp))
    | bl j => cases ry; exact PySem.EqNone.eq_none_bool (fin_bl I q (by simp))
    | int j => obtain ⟨t',rfl⟩:=ry; exact PySem.EqNone.eq_none_int (fin_bl I q (by simp))
    | str j => obtain ⟨t',rfl⟩:=ry; exact PySem.EqNone.eq_none_str (fin_bl I q (by simp))
    | _ => exact absurd (show false = true from hs) Bool.false_ne_true
  | bl i =>
    cases rx
    cases y with
    | non => cases ry; exact PySem.EqNone.eq_bool_none (fin_bl I q (by simp))
    | bl j => cases ry; exact eq_bool (fin_bl I q dec_bl)
    | str j => obtain ⟨t',rfl⟩:=ry; exact PySem.EqMixed.eq_bool_str (fin_bl I q (by simp))
    | _ => exact absurd (show false = true from hs) Bool.false_ne_true
  | int i =>
    obtain ⟨t,rfl⟩:=rx
    cases y with
    | non => cases ry; exact PySem.EqNone.eq_int_none (fin_bl I q (by simp))
    | int j => obtain ⟨t',rfl⟩:=ry; exact eq_int (fin_bl I q dec_int)
    | str j => obtain ⟨t',rfl⟩:=ry; exact PySem.EqMixed.eq_int_str (fin_bl I q (by simp))
    | _ => exact absurd (show false = true from hs) Bool.false_ne_true
  | str i =>
    obtain ⟨t,rfl⟩:=rx
    cases y with
    | non => cases ry; exact PySem.EqNone.eq_str_none (fin_bl I q (by simp))
    | bl j => cases ry; exact PySem.EqMixed.eq_str_bool (fin_bl I q (by simp))
    | int j => obtain ⟨t',rfl⟩:=ry; exact PySem.EqMixed.eq_str_int (fin_bl I q (by simp))
    | str j => obtain ⟨t',rfl⟩:=ry; exact eq_str (fin_bl I q dec_str)
    | _ => exact absurd (show false = true from hs) Bool.false_ne_true
  | byt i =>
    obtain ⟨t,rfl⟩:=rx
    cases y with
    | byt j => obtain ⟨t',rfl⟩:=ry; exact PySem.W.eq_bytes (fin_bl I q dec_byt)
    | _ => exact absurd (show false = true from hs) Bool.false_ne_true
  | _ => cases y <;> exact absurd (show false = true from hs) Bool.false_ne_true
theorem op_ne : OpR X (compareOp .NotEq) rNe:=by
  intro pins s σ H x y v u Q I rx ry h
  obtain ⟨hs,q⟩:=h
  cases x with
  | non =>
    cases rx
    cases y with
    | non => cases ry; exact PySem.EqNone.ne_none_none (fin_bl I q (by simp))
    | bl j => cases ry; exact PySem.EqNone.ne_none_bool (fin_bl I q (by simp))
    | int j => obtain ⟨t',rfl⟩:=ry; exact PySem.EqNone.ne_none_int (fin_bl I q (by simp))
    | str j => obtain ⟨t',rfl⟩:=ry; exact PySem.EqNone.ne_none_str (fin_bl I q (by simp))
    | _ => exact absurd (show false = true from hs) Bool.false_ne_true
  | bl i =>
    cases rx
    cases y with
    | non => cases ry; exact PySem.EqNone.ne_bool_none (fin_bl I q (by simp))
    | bl j => cases ry; exact ne_bool (fin_bl I q (congrArg not dec_bl))
    | str j => obtain ⟨t',rfl⟩:=ry; exact PySem.EqMixed.ne_bool_str (fin_bl I q (by simp))
    | _ => exact absurd (show false = true from hs) Bool.false_ne_true
  | int i =>
    obtain ⟨t,rfl⟩:=rx
    cases y with
    | non => cases ry; exact PySem.EqNone.ne_int_none (fin_bl I q (by simp))
    | int j => obtain ⟨t',rfl⟩:=ry; exact ne_int (fin_bl I q (congrArg not dec_int))
    | str j => obtain ⟨t',rfl⟩:=ry; exact PySem.EqMixed.ne_int_str (fin_bl I q (by simp))
    | _ => exact absurd (show false = true from hs) Bool.false_ne_true
  | str i =>
    obtain ⟨t,rfl⟩:=rx
    cases y with
    | non => cases ry; exact PySem.EqNone.ne_str_none (fin_bl I q (by simp))
    | bl j => cases ry; exact PySem.EqMixed.ne_str_bool (fin_bl I q (by simp))
    | int j => obtain ⟨t',rfl⟩:=ry; exact PySem.EqMixed.ne_str_int (fin_bl I q (by simp))
    | str j => obtain ⟨t',rfl⟩:=ry; exact ne_str (fin_bl I q (congrArg not dec_str))
    | _ => exact absurd (show false = true from hs) Bool.false_ne_true
  | byt i =>
    obtain ⟨t,rfl⟩:=rx
    cases y with
    | byt j => obtain ⟨t',rfl⟩:=ry; exact PySem.W.ne_bytes (fin_bl I q (congrArg not dec_byt))
    | _ => exact absurd (show false = true from hs) Bool.false_ne_true
  | _ => cases y <;> exact absurd (show false = true from hs) Bool.false_ne_true
theorem op_lt : OpR X (compareOp .Lt) (rI0 fun i j => .bl (decide (i < j))):=opB0 fun _ _ _ _ _ _ _ q => lt_int q
theorem op_gt : OpR X (compareOp .Gt) (rI0 fun i j => .bl (decide (j < i))):=opB0 fun _ _ _ _ _ _ _ q => gt_int q
theorem op_ge : OpR X (compareOp .GtE) (rI0 fun i j => .bl (decide (j ≤ i))):=opB0 fun _ _ _ _ _ _ _ q => ge_int q
theorem nomark (b : Expr) {op : CmpOp} (h : op ≠ .In:=by decide) (h2 : op ≠ .NotIn:=by decide) : behindInMarks op b = false:=by
  have e1 : (op == CmpOp.In) = false:=by cases op <;> first | rfl | exact absurd rfl h
  have e2 : (op == CmpOp.NotIn) = false:=by cases op <;> first | rfl | exact absurd rfl h2
  cases b <;> simp [behindInMarks,e1,e2]
theorem pe_cmpR {op : CmpOp} {r : R2} (ho : OpR X (compareOp op) r) (ha : PE X a ta) (hb : PE X b tb) (hm : behindInMarks op b = false) : PE X (.Compare a [op] [b] pos) (tOp r ta tb):=by
  intro pins s σ H Q I h
  exact wpAny_Compare1 (binT ha hb I h fun v u s2 x y H2 I2 rx ry q => ho pins s2 σ H2 x y v u Q I2 rx ry q) hm
def tTest (t : TE) : TT:=fun σ H Q => t σ H fun x H' => ∃ k,x = .bl k ∧ Q k H'
theorem pt_cmpR {op : CmpOp} {r : R2} (ho : OpR X (compareOp op) r) (ha : PE X a ta) (hb : PE X b tb) (hm : behindInMarks op b = false) : PT X (.Compare a [op] [b] pos) (tTest (tOp r ta tb)):=by
  intro pins s σ H Q I h
  refine wpAny_isTrue_Compare1 (thn (ha pins s σ H _ I h) fun v s1 ⟨x,H1,I1,r1,q1⟩ => thn (hb pins s1 σ H1 _ I1 q1) fun u s2 ⟨y,H2,I2,r2,q2⟩ =>
    thn (ho pins s2 σ H2 x y v u _ I2 r1 r2 q2) fun c s3 ⟨z,H3,I3,r3,k,e,q3⟩ => ?_) hm
  subst e
  cases r3
  exact wpAny_truthy_bool ⟨H3,I3,q3⟩
def TruV (K : PySem.W.Frag) (x : V) (H : Hp) (k : Bool) : Prop :=
  match x with
  | .non => k = false
  | .bl b => k = b
  | .int i => k = (i != 0)
  | .str y => y.length ≤ sizeLine ∧ k = ((y.length : Int) != 0)
  | .byt y => y.size ≤ sizeLine ∧ k = ((y.size : Int) != 0)
  | .ref p => (∃ xs,SqL K H p xs ∧ k = !xs.isEmpty) ∨ (∃ xs,SqT K H p xs ∧ k = !xs.isEmpty) ∨ ∃ kvs,H p = some (.dK kvs) ∧ k = !kvs.isEmpty
  | _ => False
theorem isEmpty_kv {κ : Type} {kvs : List (κ × V)} {vs : List (κ × Value)} (r : KV kvs vs) : (!vs.isEmpty) = !kvs.isEmpty:=by
  cases r <;> rfl
theorem isEmpty_of {xs : List V} {its : List Value} (r : Vals xs its) : (!its.toArray.isEmpty) = !xs.isEmpty:=by
  cases r <;> simp
theorem line63 : (sizeLine : Nat) < 2 ^ 63:=by rw [sizeLine_eq]; decide
theorem tru_ok : TruR X (fun x H Q => ∃ k,TruV X.K x H k ∧ Q k H):=by
  intro pins s σ H x v Q I rx h
  obtain ⟨k,e,q⟩:=h
  have hl:=line63
  have hs : sizeLine = 16777216:=sizeLine_eq
  cases x with
  | non =>
    cases rx
    have e' : k = false:=e
    subst e'
    exact truthy_none ⟨H,I,q⟩
  | bl b =>
    cases rx
    have e' : k = b:=e
    subst e'
    exact wpAny_truthy_bool ⟨H,I,q⟩
  | int i =>
    obtain ⟨t,rfl⟩:=rx
    have e' : k = (i != 0):=e
    subst e'
    exact PySem.P.truthy_int ⟨H,I,q⟩
  | str y =>
    obtain ⟨t,rfl⟩:=rx
    obtain ⟨hy,e'⟩ : y.length ≤ sizeLine ∧ k = ((y.length : Int) != 0):=e
    subst e'
    exact PySem.P.truthy_str (by omega) ⟨H,I.tok _,q⟩
  | byt y =>
    obtain ⟨t,rfl⟩:=rx
    obtain ⟨hy,e'⟩ : y.size ≤ sizeLine ∧ k = ((y.size : Int) != 0):=e
    subst e'
    exact PySem.W.truthy_bytes (by omega) ⟨H,I.tok _,q⟩
  | ref p =>
    cases rx
    have e' : (∃ xs,SqL X.K H p xs ∧ k = !xs.isEmpty) ∨ (∃ xs,SqT X.K H p xs ∧ k = !xs.isEmpty) ∨ ∃ kvs,H p = some (.dK kvs) ∧ k = !kvs.isEmpty:=e
    rcases e' with ⟨xs,hx,e'⟩ | ⟨xs,hx,e'⟩ | ⟨kvs,hx,e'⟩
    · subst e'
      obtain ⟨its,r,pl,hz⟩:=I.list hx
      have hlen:=r.length
      exact wpAny_truthy_list pl.isList (by simp only [List.size_toArray]; omega) ⟨H,I.tok _,by rw [isEmpty_of r]; exact q⟩
    · subst e'
      obtain ⟨its,r,pl,hz⟩:=I.tuple hx
      have hlen:=r.length
      exact truthy_tuple pl (by simp only [List.size_toArray]; omega) ⟨H,I.tok _,by rw [isEmpty_of r]; exact q⟩
    · subst e'
      obtain ⟨hz,hS,vs,r,m⟩ : kvs.length ≤ sizeLine ∧ (p == sysModules) = false ∧ ∃ vs,KV kvs vs ∧ s.heap.DictOf (mixKind X.prog X.w) p vs:=I.hok p _ hx
      have hlen : kvs.length = vs.length:=Paired.length r
      exact wpAny_truthy_dict hS m (by omega) ⟨H,I.tok _,by rw [isEmpty_kv r]; exact q⟩
  | _ => exact (show False from e).elim
theorem pt_truth (ha : PE X a ta) (he : ∀ whole,isTrue a X.env whole = (do let v ← whole; standAt a.pos; holding [v] (truthy v))) :
    PT X a (fun σ H Q => ta σ H fun x H' => ∃ k,TruV X.K x H' k ∧ Q k H'):=by
  intro pins s σ H Q I h
  exact isTrue_plain (thn (ha pins s σ H _ I h) fun v s1 ⟨x,H1,I1,r1,q1⟩ => tru_ok pins s1 σ H1 x v Q I1 r1 q1) (he _)
theorem vals1 {x : V} {us : List Value} (r : Vals [x] us) : ∃ u,us = [u] ∧ RelV x u:=by
  cases r with
  | cons r1 r2 => cases r2; exact ⟨_,rfl,r1⟩
theorem vals2 {x y : V} {us : List Value} (r : Vals [x,y] us) : ∃ u w',us = [u,w'] ∧ RelV x u ∧ RelV y w':=by
  cases r with
  | cons r1 r2 =>
    cases r2 with
    | cons r3 r4 => cases r4; exact ⟨_,_,rfl,r1,r3⟩
theorem call_max2 (hc : X.calm = true) : CallR X (.builtin "max") (fun xs H Q => ∃ i j,xs = [.int i,.int j] ∧ Q (.int (if j > i then j else i)) H):=by
  intro pins s σ H xs us Q I r h
  obtain ⟨i,j,rfl,q⟩:=h
  obtain ⟨u,w',rfl,⟨t,rfl⟩,⟨t',rfl⟩⟩:=vals2 r
  refine max_two_ints (I.ok.hd hc) fun h' tk k => ⟨_,H,I.kept k,?_,q⟩
  by_cases hj : j > i
  · rw [if_pos hj,if_pos hj]; exact ⟨_,rfl⟩
  · rw [if_neg hj,if_neg hj]; exact ⟨_,rfl⟩
theorem call_min2 (hc : X.calm = true) : CallR X (.builtin "min") (fun xs H Q => ∃ i j,xs = [.int i,.int j] ∧ Q (.int (if j < i then j else i)) H):=by
  intro pins s σ H xs us Q I r h
  obtain ⟨i,j,rfl,q⟩:=h
  obtain ⟨u,w',rfl,⟨t,rfl⟩,⟨t',rfl⟩⟩:=vals2 r
  refine min_two_ints (I.ok.hd hc) fun h' tk k => ⟨_,H,I.kept k,?_,q⟩
  by_cases hj : j < i
  · rw [if_pos hj,if_pos hj]; exact ⟨_,rfl⟩
  · rw [if_neg hj,if_neg hj]; exact ⟨_,rfl⟩
theorem call_int1 : CallR X (.type "int") (fun xs H Q => (∃ i,xs = [.int i] ∧ Q (.int i) H) ∨ ∃ k,xs = [.bl k] ∧ Q (.int (if k then 1 else 0)) H):=by
  intro pins s σ H xs us Q I r h
  rcases h with ⟨i,rfl,q⟩ | ⟨k,rfl,q⟩
  · obtain ⟨u,rfl,t,rfl⟩:=vals1 r
    exact call_int_int ⟨.int i,H,I,⟨_,rfl⟩,q⟩
  · obtain ⟨u,rfl,r1⟩:=vals1 r
    cases r1
    exact call_int_bool ⟨.int (if k then 1 else 0),H,I.tok _,⟨_,rfl⟩,q⟩
end
end L2
namespace L2
open PySem PySem.Spec PyProof.Rows
structure ObjM (h : Heap) (x dx C : Addr) (mA : Str → Option Value) : Prop where
  obj : h.get? x = some (PySem.W.instObj C dx)
  ns : h.Ns1 dx mA
  ne : dx ≠ x
theorem lookIn_ns {h : Heap} {dx : Addr} {mA : Str → Option Value} (n : h.Ns1 dx mA) : ∃ od,h.get? dx = some od ∧ ∀ name,PySem.W.lookIn name od = some (mA name):=by
  obtain ⟨o,es,ep,ho,hd,hk,_,hm⟩:=n
  refine ⟨o,ho,fun name => ?_⟩
  have e:=hm name
  unfold nsFind findBy at e
  rw [← Array.find?_toList] at e
  unfold PySem.W.lookIn
  rw [hd]
  dsimp only
  split
  · rename_i y q
    rw [q] at e
    exact congrArg some e
  · rename_i q
    rw [q] at e
    have a : es.toList.any (·.refKey) = false:=by
      rw [List.any_eq_false]
      intro y hy
      obtain ⟨z,t,hkey⟩:=hk y (Array.mem_toList_iff.mp hy)
      simp [DictEntry.refKey,hkey]
    have a' : ¬ es.toList.any (·.refKey) = true:=by rw [a]; exact Bool.false_ne_true
    rw [if_neg a']
    exact congrArg some e
theorem ObjM.look {h : Heap} {x dx C : Addr} {mA : Str → Option Value} (I : ObjM h x dx C mA) : ∃ od,PySem.W.InstAt h x (PySem.W.instObj C dx) C (some od) ∧ ∀ name,PySem.W.lookIn name od = some (mA name) :=
  let ⟨od,ho,hl⟩:=lookIn_ns I.ns
  ⟨od,⟨I.obj,rfl,rfl,ho⟩,hl⟩
section
variable {prog : Program} {w : World} {A : Around} {E : Value → Shared → Prop} {s : Shared} {K : PySem.W.Frag} {x dx C f : Addr} {mA : Str → Option Value} {name : Str} {v : Value}
theorem get_map {expr : Bool} {Q : Value → Shared → Prop} (X : K.In s.heap) (I : ObjM s.heap x dx C mA) (hg : PySem.W.plainGet K C name = true) (hh : PySem.W.hasDictIn K C = true)
    (ha : PySem.W.findIn K (.ref C) name = some none) (hv : mA name = some v) (hv' : PySem.W.handedIn v = true) (h : Q v { s with toks:=s.toks + 1 }) :
    wpAny (model prog w) A (getAttr (.ref x) name expr) Q E s:=by
  obtain ⟨od,J,hl⟩:=I.look
  exact PySem.W.get_value X J (PySem.W.plainGet_of hg).1 (PySem.W.findObj_own hh ha rfl (by rw [hl,hv])) hv' h
theorem get_meth {pl : Sem Bool} {Q : Value × List Value → Shared → Prop} (X : K.In s.heap) (I : ObjM s.heap x dx C mA) (hg : PySem.W.plainGet K C name = true)
    (hf : PySem.W.findIn K (.ref C) name = some (some (.ref f))) (ht : PySem.W.isFn K (.ref f) = true) (hv : mA name = none) (h : Q (.ref f,[.ref x]) s) :
    wpAny (model prog w) A (getMethod (.ref x) name pl) Q E s:=by
  obtain ⟨od,J,hl⟩:=I.look
  exact PySem.W.method_fn X J (PySem.W.plainGet_of hg).1 (PySem.W.plainGet_of hg).2 hf (beq_iff_eq.mp ht) (by show (PySem.W.lookIn name od).map (·.isSome) = some false; rw [hl,hv]; rfl) h
theorem set_map {ns : List Str} {Q : Unit → Shared → Prop} (X : K.In s.heap) (I : ObjM s.heap x dx C mA)
    (hs : PySem.W.findIn K (.ref C) "__setattr__" = some (some (.builtin "object.__setattr__"))) (hp : PySem.W.plainOver K C = true) (ht : PySem.W.takerIn K C name = some none) (hh : PySem.W.hasDictIn K C = true)
    (hw : PySem.Within mA ns) (hsz : ns.length ≤ sizeLine)
    (h : ∀ h',ObjM h' x dx C (fun y => if y = name then some v else mA y) → Heap.SameBut dx s.heap h' → Q () { s with heap:=h',toks:=s.toks + 2 }) :
    wpAny (model prog w) A (setAttr (.ref x) name v) Q E s:=by
  obtain ⟨od,J,hl⟩:=I.look
  refine PySem.W.set_plain X J hs (PySem.W.osa_open (s:={ s with toks:=s.toks + 1 }) (r:=none) X J hp ht fun b => ?_)
  obtain ⟨cd,hc,hd'⟩:=PySem.W.any_some hh
  have hx : s.heap.get? x = some ⟨.ref C,some dx,.plain,#[]⟩:=I.obj
  refine wpAny_bind (wpAny_pure (wpAny_bind (wpAny_bind (wpAny_loadPart hx (wpAny_bind (PySem.W.Looks.here (s:={ s with toks:=s.toks + 1 }) (PySem.W.looks_clsIn X hc) ?_))))))
  rw [hd']
  refine wpAny_pure (a:=some dx) (wpAny_bind (wpAny_pure (wpAny_bind ?_)))
  refine wpAny_nsSet1 (s:={ s with toks:=s.toks + 1 }) I.ns fun h' hn2 hs2 => ?_
  obtain ⟨oD,esD,epD,hoD,hdD,hcD⟩:=hn2.count (PySem.Within.cons name v hw)
  refine wpAny_bind (wpAny_lookBehind hoD (by rw [hdD]; exact pastItsLine_dict (Nat.le_trans hcD (by rw [List.length_cons]; omega))) ?_)
  exact wpAny_pure (h _ ⟨(hs2.2 _ (Ne.symm I.ne)).trans I.obj,hn2,I.ne⟩ hs2)
theorem make_map {R : Result → Shared → Prop} {vs : List Value} {kw : List (Str × Value)} (X : K.In s.heap) (hm : PySem.W.makesIn K C = true)
    (hi : PySem.W.findIn K (.ref C) "__init__" = some (some (.ref f))) (hf : PySem.W.typeIn K (.ref f) = some (.type "function"))
    (h : codeAny (model prog w) (A.under (.builtin "type.__call__" ⟨.ref C :: vs,kw⟩)) (.call (.ref f) ⟨.ref (s.heap.objs.size + 1) :: vs,kw⟩) (PySem.W.InitBack (s.heap.objs.size + 1) R)
      { s with heap:=(s.heap.push PySem.W.emptyDict).push (PySem.W.instObj C s.heap.objs.size) }) :
    codeAny (model prog w) A (.call (.ref C) ⟨vs,kw⟩) R s:=by
  obtain ⟨hh,g,d,t,os⟩:=s
  exact PySem.W.make_core (PySem.W.makes_of X hm) (PySem.W.looks_findIn X hi) (fun self => PySem.W.bind_fn X self hf) (.inl rfl) h
end
def putF (f : Str) (v : V) : List (Str × V) → List (Str × V)
  | [] => [(f,v)]
  | (g,x) :: r => if g = f then (g,v) :: r else (g,x) :: putF f v r
theorem lookup_putF (f g : Str) (v : V) : ∀ fs : List (Str × V),(putF f v fs).lookup g = if g = f then some v else fs.lookup g
  | [] => by
    show List.lookup g [(f,v)] = _
    by_cases h : g = f
    · have hb : (g == f) = true:=beq_iff_eq.mpr h
      simp only [List.lookup,hb,if_pos h]
    · have hb : (g == f) = false:=beq_eq_false_iff_ne.mpr h
      simp only [List.lookup,hb,if_neg h]
  | (k,x) :: r => by
    have ih:=lookup_putF f g v r
    rw [show putF f v ((k,x) :: r) = (if k = f then (k,v) :: r else (k,x) :: putF f v r) from rfl]
    by_cases hk : k = f
    · rw [if_pos hk]
      by_cases h : g = k
      · have hb : (g == k) = true:=beq_iff_eq.mpr h
        simp only [List.lookup,hb,if_pos (h.trans hk)]
      · have hb : (g == k) = false:=beq_eq_false_iff_ne.mpr h
        simp only [List.lookup,hb,if_neg (fun e : g = f => h (e.trans hk.symm))]
    · rw [if_neg hk]
      by_cases h : g = k
      · have hb : (g == k) = true:=beq_iff_eq.mpr h
        simp only [List.lookup,hb,if_neg (fun e : g = f => hk (h.symm.trans e))]
      · have hb : (g == k) = false:=beq_eq_false_iff_ne.mpr h
        simp only [List.lookup,hb]
        exact ih
theorem keys_putF (f : Str) (v : V) : ∀ fs : List (Str × V),f ∈ (putF f v fs).map (·.1) ∧ ∀ g,g ∈ fs.map (·.1) → g ∈ (putF f v fs).map (·.1)
  | [] => ⟨by simp [putF],fun g h => by simp at h⟩
  | (k,x) :: r => by
    obtain ⟨i1,i2⟩:=keys_putF f v r
    rw [show putF f v ((k,x) :: r) = (if k = f then (k,v) :: r else (k,x) :: putF f v r) from rfl]
    by_cases hk : k = f
    · rw [if_pos hk]
      subst hk
      exact ⟨by simp,fun g h => by simpa using h⟩
    · rw [if_neg hk]
      refine ⟨?_,fun g h => ?_⟩
      · rw [List.map_cons]
        exact List.mem_cons_of_mem _ i1
      · rw [List.map_cons] at h ⊢
        rcases List.mem_cons.mp h with e | e
        · exact List.mem_cons.mpr (.inl e)
        · exact List.mem_cons_of_mem _ (i2 g e)
theorem length_putF (f : Str) (v : V) : ∀ fs : List (Str × V),(putF f v fs).length ≤ fs.length + 1
  | [] => by simp [putF]
  | (k,x) :: r => by
    have ih:=length_putF f v r
    rw [show putF f v ((k,x) :: r) = (if k = f then (k,v) :: r else (k,x) :: putF f v r) from rfl]
    by_cases hk : k = f
    · rw [if_pos hk,List.length_cons,List.length_cons]; omega
    · rw [if_neg hk,List.length_cons,List.length_cons]; omega
theorem RelO.some_of {v : V} {o : Option Value} (r : RelO (some v) o) : ∃ u,o = some u ∧ RelV v u:=by
  cases o with
  | none => exact (show False from r).elim
  | some u => exact ⟨u,rfl,r⟩
theorem RelO.none_of {o : Option Value} (r : RelO none o) : o = none:=by
  cases o with
  | none => rfl
  | some u => exact (show False from r).elim
theorem handed_of {v : V} {u : Value} (r : RelV v u) : PySem.W.handedIn u = true:=by
  cases v with
  | non => cases (show u = Value.none from r); rfl
  | bl b => cases (show u = Value.bool b from r); rfl
  | int i => obtain ⟨t,e⟩:=(show ∃ t,u = Value.int i t from r); cases e; rfl
  | str x => obtain ⟨t,e⟩:=(show ∃ t,u = Value.str x t from r); cases e; rfl
  | byt b => obtain ⟨t,e⟩:=(show ∃ t,u = Value.bytes b t from r); cases e; rfl
  | flt b => obtain ⟨t,e⟩:=(show ∃ t,u = Value.float b t from r); cases e; rfl
  | ref a => cases (show u = Value.ref a from r); rfl
  | ty n => cases (show u = Value.type n from r); rfl
section
variable {P : Program} {w : World} {H H' : Hp} {h h' : Heap} {a C dx : Addr} {fs fs' : List (Str × V)}
theorem ins_get (hok : HOk P w H h) (e : H a = some (.ins C dx fs)) : ∃ mA,ObjM h a dx C mA ∧ (∀ f,RelO (fs.lookup f) (mA f)) ∧ PySem.Within mA (fs.map (·.1)) ∧ fs.length ≤ 1000 ∧ H dx = some (.own a):=by
  obtain ⟨d,z,ne,ob,mA,n,r,q⟩:=(show ObjOk P w H h a (.ins C dx fs) from hok a _ e)
  exact ⟨mA,⟨ob,n,ne⟩,r,q,z,d⟩
end
structure Cls (K : PySem.W.Frag) (C : Addr) : Prop where
  pg : PySem.W.plainGet K C Str.empty = true
  hd : PySem.W.hasDictIn K C = true
  po : PySem.W.plainOver K C = true
  sa : PySem.W.findIn K (.ref C) "__setattr__" = some (some (.builtin "object.__setattr__"))
theorem Cls.get {K : PySem.W.Frag} {C : Addr} (c : Cls K C) (f : Str) : PySem.W.plainGet K C f = true:=c.pg
def NoAttr (K : PySem.W.Frag) (C : Addr) (f : Str) : Prop:=PySem.W.findIn K (.ref C) f = some none
theorem NoAttr.taker {K : PySem.W.Frag} {C : Addr} {f : Str} (n : NoAttr K C f) : PySem.W.takerIn K C f = some none:=by
  unfold PySem.W.takerIn
  rw [show PySem.W.findIn K (.ref C) f = some none from n]
  rfl
structure Meth (K : PySem.W.Frag) (C : Addr) (m : Str) (f : Addr) : Prop where
  at_ : PySem.W.findIn K (.ref C) m = some (some (.ref f))
  fn : PySem.W.isFn K (.ref f) = true
  kp : PySem.W.keepIn K (.ref f) = true
section
variable {X : Cx} {pins : List (Addr × Obj)} {σ : St} {H : Hp} {s : Shared} {a C dx : Addr} {fs : List (Str × V)} {f : Str} {v : V} {A : Around} {E : Value → Shared → Prop}
theorem getattr_ok {b : Bool} {Q : Value → Shared → Prop} (I : Inv X pins σ H s) (e : H a = some (.ins C dx fs)) (c : Cls X.K C) (n : NoAttr X.K C f) (l : fs.lookup f = some v)
    (h : ∀ u s',Inv X pins σ H s' → RelV v u → Q u s') : wpAny (model X.prog X.w) A (getAttr (.ref a) f b) Q E s:=by
  obtain ⟨mA,O,r,_,_,_⟩:=ins_get I.hok e
  obtain ⟨u,hu,ru⟩:=RelO.some_of (v:=v) (o:=mA f) (by rw [← l]; exact r f)
  exact get_map I.kIn O (c.get f) c.hd n hu (handed_of ru) (h u _ (I.tok _) ru)
theorem getmeth_ok {m : Str} {g : Addr} {pl : Sem Bool} {Q : Value × List Value → Shared → Prop} (I : Inv X pins σ H s) (e : H a = some (.ins C dx fs)) (c : Cls X.K C) (k : Meth X.K C m g) (l : fs.lookup m = none)
    (h : Q (.ref g,[.ref a]) s) : wpAny (model X.prog X.w) A (getMethod (.ref a) m pl) Q E s:=by
  obtain ⟨mA,O,r,_,_,_⟩:=ins_get I.hok e
  have hn : mA m = none:=RelO.none_of (by rw [← l]; exact r m)
  exact get_meth I.kIn O (c.get m) k.at_ k.fn hn h
theorem setattr_ok {y : V} {u : Value} {Q : Unit → Shared → Prop} (I : Inv X pins σ H s) (e : H a = some (.ins C dx fs)) (c : Cls X.K C) (n : NoAttr X.K C f) (hl : fs.length < 1000) (ry : RelV y u)
    (h : ∀ s',Inv X pins σ (upd H a (.ins C dx (putF f y fs))) s' → Q () s') : wpAny (model X.prog X.w) A (setAttr (.ref a) f u) Q E s:=by
  obtain ⟨mA,O,r,wi,_,ho⟩:=ins_get I.hok e
  have hz : (fs.map (·.1)).length ≤ sizeLine:=by rw [List.length_map,sizeLine_eq]; omega
  refine set_map I.kIn O c.sa c.po n.taker c.hd wi hz fun h' O' sb => h _ ?_
  have hd : ∃ o,h'.get? dx = some o:=let ⟨o,_,_,e',_⟩:=O'.ns; ⟨o,e'⟩
  refine I.write (x:=a) (e:=dx) (by rw [e]; exact True.intro) (.inr ho) (fun b q hb z => (sb.2 b hb).trans z) hd ?_
  refine ⟨by rw [upd_ne O.ne]; exact ho,?_,O.ne,O'.obj,_,O'.ns,fun g => ?_,fun g hg => ?_⟩
  · have:=length_putF f y fs; omega
  · show RelO ((putF f y fs).lookup g) (if g = f then some u else mA g)
    rw [lookup_putF]
    by_cases q : g = f
    · rw [if_pos q,if_pos q]; exact ry
    · rw [if_neg q,if_neg q]; exact r g
  · by_cases q : g = f
    · rw [q]; exact (keys_putF f y fs).1
    · refine (keys_putF f y fs).2 g (wi g fun z => hg ?_)
      show (if g = f then some u else mA g) = none
      rw [if_neg q]; exact z
theorem Inv.made (I : Inv X pins σ H s) : Inv X pins σ (upd (upd H s.heap.objs.size (.own (s.heap.objs.size + 1))) (s.heap.objs.size + 1) (.ins C s.heap.objs.size []))
    { s with heap:=(s.heap.push PySem.W.emptyDict).push (PySem.W.instObj C s.heap.objs.size) }:=by
  have e1 : (s.heap.push PySem.W.emptyDict).get? s.heap.objs.size = some PySem.W.emptyDict:=Heap.get?_push_size s.heap rfl
  have e2 : ((s.heap.push PySem.W.emptyDict).push (PySem.W.instObj C s.heap.objs.size)).get? (s.heap.objs.size + 1) = some (PySem.W.instObj C s.heap.objs.size):=by
    have:=Heap.get?_push_size (s.heap.push PySem.W.emptyDict) (o:=PySem.W.instObj C s.heap.objs.size) rfl
    rwa [Heap.size_push] at this
  have e3 : (s.heap.push PySem.W.emptyDict).Ns s.heap.objs.size (fun _ => none):=⟨PySem.W.emptyDict,#[],_,e1,rfl,(fun e he => absurd he (by simp)),fun _ => rfl⟩
  have I1:=I.laid (a:=s.heap.objs.size) (o:=.own (s.heap.objs.size + 1)) (h':=s.heap.push PySem.W.emptyDict) (t':=s.toks) (fun b u q => Heap.get?_push_of_some _ q) (Nat.le_refl _) ⟨_,e1⟩
  refine I1.laid (a:=s.heap.objs.size + 1) (o:=.ins C s.heap.objs.size []) (t':=s.toks) (fun b u q => Heap.get?_push_of_some _ q) (Nat.le_of_eq (Heap.size_push _ _)) ?_
  have ne : s.heap.objs.size ≠ s.heap.objs.size + 1:=Nat.ne_of_lt (Nat.lt_succ_self _)
  refine ⟨by rw [upd_ne ne,upd_same],Nat.zero_le _,ne,e2,fun _ => none,(Heap.Ns1.of_empty e3).at fun o q => Heap.get?_push_of_some _ q,fun _ => True.intro,fun y hy => absurd rfl hy⟩
theorem attr_of {prog : Program} {w : World} {env : Env} {e : Expr} {f : Str} {pos : Pos} {s : Shared} {Q : Value → Shared → Prop} (hb : attributeBase e f env (eval e env) = eval e env)
    (h : wpAny (model prog w) A (eval e env) (fun o s₁ => wpAny (model prog w) A (getAttr o f true) Q E s₁) E s) : wpAny (model prog w) A (eval (.Attribute e f pos) env) Q E s :=
  Attribute_any_ h (by rw [arm_eval_Attribute,hb])
end
def tFld (K : PySem.W.Frag) (ta : TE) (f : Str) : TE:=fun σ H Q => ta σ H fun x H1 => ∃ a C dx fs v,x = .ref a ∧ H1 a = some (.ins C dx fs) ∧ Cls K C ∧ NoAttr K C f ∧ fs.lookup f = some v ∧ Q v H1
def sFld (K : PySem.W.Frag) (ta tv : TE) (f : Str) : TS:=fun D σ H => tv σ H fun y H1 => ta σ H1 fun x H2 => ∃ a C dx fs,x = .ref a ∧ H2 a = some (.ins C dx fs) ∧ Cls K C ∧ NoAttr K C f ∧ fs.length < 1000 ∧
  D.nx σ (upd H2 a (.ins C dx (putF f y fs)))
section
variable {X : Cx} {o e value : Expr} {f : Str} {pos pos' tpos : Pos} {ta tv : TE}
theorem pe_fld (he : PE X e ta) (hb : attributeBase e f X.env (eval e X.env) = eval e X.env) : PE X (.Attribute e f pos) (tFld X.K ta f):=by
  intro pins s σ H Q I h
  refine attr_of hb (thn (he pins s σ H _ I h) fun u s1 ⟨x,H1,I1,rx,a,C,dx,fs,v,ex,ea,c,n,l,q⟩ => ?_)
  subst ex
  obtain rfl : u = Value.ref a:=rx
  exact getattr_ok I1 ea c n l fun u' s2 I2 ru => ⟨v,H1,I2,ru,q⟩
theorem ps_fld (ha : PE X o ta) (hv : PE X value tv) (hs : swapsWith value (some (.Attribute o f pos')) pos.line X.env = pure false) : PS X (.Assign [.Attribute o f pos'] value pos) (sFld X.K ta tv f):=by
  intro pins s σ H D I h
  refine plainObj_wpAny_Assign_Attribute (thn (hv pins s σ H _ I h) fun u s1 ⟨y,H1,I1,ry,q⟩ => thn (ha pins s1 σ H1 _ I1 q) fun ov s2 ⟨x,H2,I2,rx,a,C,dx,fs,ex,ea,c,n,l,q2⟩ => ?_) hs
  subst ex
  obtain rfl : ov = Value.ref a:=rx
  exact setattr_ok I2 ea c n l ry fun s3 I3 => ⟨σ,_,I3,q2⟩
end
section
variable {X : Cx} {pins : List (Addr × Obj)} {σ : St} {H : Hp} {s : Shared} {A : Around} {E : Value → Shared → Prop} {Q : Value → Shared → Prop} {c : Value} {b : Bool}
end
end L2
namespace L2
open PySem PySem.Spec PyProof.Rows
structure Room (k : Nat) (A : Around) : Prop where
  hd : A.handled = none
  dp : A.depth + 3 * k + 5 < recursionLimit
  un : A.units + 16 * k + 200 < cLine
theorem Room.mono {j k : Nat} {A : Around} (r : Room k A) (h : j ≤ k) : Room j A:=⟨r.hd,by have:=r.dp; omega,by have:=r.un; omega⟩
theorem Room.deeper {k : Nat} {A : Around} (r : Room (k + 1) A) (env : Env) : Room k (A.deeper env) :=
  ⟨r.hd,by have:=r.dp; show A.depth + 1 + 3 * k + 5 < _; omega,by have:=r.un; show A.units + 3 + 16 * k + 200 < _; omega⟩
theorem make_depth {A : Around} {C : Addr} {us : List Value} {kw : List (Str × Value)} : (A.under (.builtin "type.__call__" ⟨.ref C :: us,kw⟩)).depth = A.depth + 1:=by
  first | rfl | simp [Around.under,Code.weight,Code.isCreation,Code.isGuard,Code.isCaller,Code.frames,Code.isFrame,guardIds]
theorem make_units {A : Around} {C : Addr} {us : List Value} {kw : List (Str × Value)} : (A.under (.builtin "type.__call__" ⟨.ref C :: us,kw⟩)).units = A.units + 1:=by
  first | rfl | simp [Around.under,Code.cUnits,Code.frames,Code.isFrame]
theorem Room.make {k : Nat} {A : Around} (r : Room (k + 1) A) (C : Addr) (us : List Value) (kw : List (Str × Value)) : Room k (A.under (.builtin "type.__call__" ⟨.ref C :: us,kw⟩)) :=
  ⟨r.hd,by have:=r.dp; rw [make_depth]; omega,by have:=r.un; rw [make_units]; omega⟩
theorem Room.depth {k : Nat} {A : Around} (r : Room k A) : A.depth < recursionLimit:=by have:=r.dp; omega
theorem Room.units {k : Nat} {A : Around} (r : Room k A) : A.units + 64 < cLine:=by have:=r.un; omega
def tNil : TA:=fun _ H Q => Q [] H
def tCons (ta : TE) (tr : TA) : TA:=fun σ H Q => ta σ H fun x H1 => tr σ H1 fun xs H2 => Q (x :: xs) H2
section
variable {X : Cx} {e : Expr} {es : List Expr} {te : TE} {t : TA} {pos : Pos}
theorem pa_nil : PA X [] tNil:=fun _ _ _ _ H Q I h => Calls.spliced_nil ⟨[],H,I,.nil,h⟩
theorem pa_cons (ha : PE X e te) (hr : PA X es t) (hs : starEach (e :: es) X.env = (false,eval e X.env) :: starEach es X.env:=by rfl) : PA X (e :: es) (tCons te t):=by
  intro pos pins s σ H Q I h
  rw [hs]
  show wpAny _ _ (spliced ((false,eval e X.env) :: backTo pos (starEach es X.env))) _ _ s
  refine Calls.spliced_cons (thn (ha pins s σ H _ I h) fun u s1 ⟨x,H1,I1,r1,q1⟩ => ?_)
  exact thn (hr pos pins s1 σ H1 _ I1 q1) fun us s2 ⟨xs,H2,I2,r2,q2⟩ => ⟨x :: xs,H2,I2,.cons r1 r2,q2⟩
def tTup (t : TA) : TE:=fun σ H Q => t σ H fun xs H1 => xs.length ≤ sizeLine ∧ ∀ p,H1 p = none → Q (.ref p) (upd H1 p (.tup xs))
def tLst (t : TA) : TE:=fun σ H Q => t σ H fun xs H1 => xs.length ≤ sizeLine ∧ ∀ p,H1 p = none → Q (.ref p) (upd H1 p (.lst xs))
theorem pe_tup {x1} (h : PA X es t) : PE X (.Tuple es x1 pos) (tTup t):=by
  intro pins s σ H Q I hq
  refine wpAny_Tuple_spliced (thn (h pos pins s σ H _ I hq) fun us s1 ⟨xs,H1,I1,r,z,q⟩ => ⟨by rw [← r.length]; exact z,?_⟩)
  have hf : H1 s1.heap.objs.size = none:=I1.hok.fresh (Nat.le_refl _)
  refine ⟨.ref s1.heap.objs.size,upd H1 s1.heap.objs.size (.tup xs),I1.laid (t':=s1.toks) (fun b u e => Heap.get?_push_of_some _ e) (Nat.le_refl _) ?_,rfl,q _ hf⟩
  exact ⟨z,us,r,⟨_,Heap.get?_push_size _ rfl,rfl,_,rfl⟩⟩
theorem pe_lst (h : PA X es t) : PE X (.List es pos) (tLst t):=by
  intro pins s σ H Q I hq
  refine wpAny_List_spliced (thn (h pos pins s σ H _ I hq) fun us s1 ⟨xs,H1,I1,r,z,q⟩ => ⟨by rw [← r.length]; exact z,?_⟩)
  have hf : H1 s1.heap.objs.size = none:=I1.hok.fresh (Nat.le_refl _)
  refine ⟨.ref s1.heap.objs.size,upd H1 s1.heap.objs.size (.lst xs),I1.laid (t':=s1.toks) (fun b u e => Heap.get?_push_of_some _ e) (Nat.le_refl _) ?_,rfl,q _ hf⟩
  exact ⟨z,us,0,r,Heap.get?_push_size _ rfl⟩
end
abbrev Sp:=List V → Hp → VK → XK → Prop
abbrev CXT:=List Env → Hp → Shared → XK → Value → Shared → Prop
structure Env0 (P : Program) (w : World) (K : PySem.W.Frag) (mg : Str → Option Value) (base : Heap) (A : Around) (outer : List Env) (s : Shared) (H : Hp) : Prop where
  frames : A.frames = some outer
  mod : Mod K mg base
  bs : ∀ b o,base.get? b = some o → s.heap.get? b = some o ∧ H b = none
  bsz : base.objs.size ≤ s.heap.objs.size
  funs : s.heap.FunFrames base outer
  frf : ∀ b ∈ frs outer,H b = none
  hok : HOk P w H s.heap
  bare : AllBare s.gens
def CE (outer : List Env) (P : Program) (w : World) (H : Hp) (s : Shared) (Q : VK) (u : Value) (s' : Shared) : Prop :=
  ∃ v H',s'.os = s.os ∧ AllBare s'.gens ∧ Un (frs outer) [] H H' s.heap s'.heap ∧ HOk P w H' s'.heap ∧ RelV v u ∧ Q v H'
def CR (CX : CXT) (outer : List Env) (P : Program) (w : World) (H : Hp) (s : Shared) (Q : VK) (E : XK) (r : Result) (s' : Shared) : Prop :=
  match r with
  | .ok (.ret u) => CE outer P w H s Q u s'
  | .ok _ => False
  | .error e => CX outer H s E e s'
structure FnOk (P : Program) (w : World) (K : PySem.W.Frag) (mg : Str → Option Value) (base : Heap) (CX : CXT) (k : Nat) (f : Addr) (fd : FuncData) (ps : List Str) (sp : Sp) : Prop where
  len : ∀ vs H Q E,sp vs H Q E → vs.length = ps.length
  run : ∀ (A : Around) (outer : List Env) (s : Shared) (H : Hp) (args : Args) (us : List Value) (vs : List V) (Q : VK) (E : XK),Room k A → Env0 P w K mg base A outer s H → BindsTo s fd args (ps.zip us) → Vals vs us → sp vs H Q E →
    codeAny (model P w) A (.call (.ref f) args) (CR CX outer P w H s Q E) s
theorem FnOk.mono {P : Program} {w : World} {K : PySem.W.Frag} {mg : Str → Option Value} {base : Heap} {CX : CXT} {j k : Nat} {f : Addr} {fd : FuncData} {ps : List Str} {sp : Sp} (F : FnOk P w K mg base CX j f fd ps sp) (h : j ≤ k) :
    FnOk P w K mg base CX k f fd ps sp:=⟨F.len,fun A outer s H args us vs Q E hr => F.run A outer s H args us vs Q E (hr.mono h)⟩
theorem Env0.make {P : Program} {w : World} {K : PySem.W.Frag} {mg : Str → Option Value} {base : Heap} {A : Around} {outer : List Env} {s : Shared} {H : Hp} (e : Env0 P w K mg base A outer s H) (C : Addr) (us : List Value) (kw : List (Str × Value)) :
    Env0 P w K mg base (A.under (.builtin "type.__call__" ⟨.ref C :: us,kw⟩)) outer s H:=⟨by first | exact e.frames | (simpa [Around.under,Code.envs,Code.isFrame,pushEnvs] using e.frames),e.mod,e.bs,e.bsz,e.funs,e.frf,e.hok,e.bare⟩
section
variable {X : Cx} {pins : List (Addr × Obj)} {σ : St} {H : Hp} {s s' : Shared}
theorem Inv.env0 (I : Inv X pins σ H s) : Env0 X.prog X.w X.K X.mg X.base X.A X.stack s H :=
  ⟨I.ok.frames,I.ok.mod,I.bs,Nat.le_trans I.ok.bsz I.sz,I.stack,I.stkFree,I.hok,I.bare⟩
theorem Inv.after {Q : VK} {u : Value} (I : Inv X pins σ H s) (h : CE X.stack X.prog X.w H s Q u s') : EP X pins σ Q u s':=by
  obtain ⟨v,H',os,bare,un,hok,r,q⟩:=h
  obtain ⟨hh,g,d,t,os'⟩:=s'
  obtain rfl : os' = s.os:=os
  exact ⟨v,H',I.call (h':=hh) (g':=g) (d':=d) (t':=t) (ch:=[]) un hok bare (fun b z => absurd z (by simp)),r,q⟩
end
def tCall (sp : Sp) (dvs : List V) (E : XK) (t : TA) : TE:=fun σ H Q => t σ H fun vs H1 => sp (vs ++ dvs) H1 Q E
def tMeth (C : Addr) (m : Str) (sp : Sp) (dvs : List V) (E : XK) (ta : TE) (t : TA) : TE:=fun σ H Q => ta σ H fun x H1 => ∃ a dx fs,x = .ref a ∧ H1 a = some (.ins C dx fs) ∧ fs.lookup m = none ∧
  t σ H1 fun vs H2 => sp (x :: (vs ++ dvs)) H2 Q E
def tMake (C : Addr) (sp : Sp) (dvs : List V) (E : XK) (t : TA) : TE:=fun σ H Q => t σ H fun vs H1 => ∀ x dx,H1 x = none → H1 dx = none → dx ≠ x →
  sp (.ref x :: (vs ++ dvs)) (upd (upd H1 dx (.own x)) x (.ins C dx [])) (fun v H2 => v = .non ∧ Q (.ref x) H2) E
def Binds (K : PySem.W.Frag) (fd : FuncData) (ps : List Str) (ds : List Value) : Prop :=
  ∀ (s : Shared) (us : List Value),K.In s.heap → (us ++ ds).length = ps.length → BindsTo s fd ⟨us,[]⟩ (ps.zip (us ++ ds))
theorem Binds.all {K : PySem.W.Frag} {fd : FuncData} {ps : List Str} (h : ∀ us : List Value,us.length = ps.length → bindArgs fd ⟨us,[]⟩ = pure (ps.zip us)) : Binds K fd ps []:=fun s us _ hl => by
  rw [List.append_nil] at hl ⊢
  exact .of_eq (h us hl)
def Passes (CX : CXT) (X : Cx) (E : XK) : Prop:=∀ (pins : List (Addr × Obj)) (σ : St) (H : Hp) (s : Shared) (e : Value) (s' : Shared),Inv X pins σ H s → CX X.stack H s E e s' → X.xe e s'
section
variable {X : Cx} {CX : CXT} {k : Nat} {f C : Addr} {fd : FuncData} {ps : List Str} {sp : Sp} {dvs : List V} {ds : List Value} {E : XK} {x m : Str} {p pos apos : Pos} {e o : Expr} {es : List Expr} {ta : TE} {t : TA}
theorem run_fn {pins : List (Addr × Obj)} {σ : St} {H : Hp} {s : Shared} {Q : VK} {us : List Value} {vs : List V} (F : FnOk X.prog X.w X.K X.mg X.base CX k f fd ps sp) (hr : Room k X.A) (hb : Binds X.K fd ps ds) (hd : Vals dvs ds) (hx : Passes CX X E)
    (I : Inv X pins σ H s) (r : Vals vs us) (h : sp (vs ++ dvs) H Q E) : wpAny (model X.prog X.w) X.A (call (.ref f) us) (EP X pins σ Q) X.xe s:=by
  have r2 : Vals (vs ++ dvs) (us ++ ds):=r.append hd
  have hl : (us ++ ds).length = ps.length:=by rw [← r2.length]; exact F.len _ _ _ _ h
  refine wpAny_call (codeAny_mono (F.run X.A X.stack s H ⟨us,[]⟩ (us ++ ds) (vs ++ dvs) Q E hr I.env0 (hb s us I.kIn hl) r2 h) fun r s' hq => ?_)
  cases r with
  | error e => exact hx pins σ H s e s' I hq
  | ok fl =>
    cases fl with
    | ret u => exact I.after hq
    | next => exact False.elim hq
    | brk => exact False.elim hq
    | cont => exact False.elim hq
theorem pe_call (F : FnOk X.prog X.w X.K X.mg X.base CX k f fd ps sp) (hr : Room k X.A) (hg : Gl X x) (hm : X.mg x = some (.ref f)) (hk : PySem.W.keepIn X.K (.ref f) = true) (hb : Binds X.K fd ps ds) (hd : Vals dvs ds) (hx : Passes CX X E)
    (ha : PA X (e :: es) t) (hdb : (x == ("__debug__" : Str)) = false:=by decide) (he : starEach (e :: es) X.env = (false,eval e X.env) :: starEach es X.env:=by rfl) (hpl : (backTo pos (starEach es X.env)).any (·.1) = false:=by rfl) :
    PE X (.Call (.Name x p) (e :: es) [] pos) (tCall sp dvs E t):=by
  intro pins s σ H Q I h
  refine wpAny_Call_Name_kw (ld_glob I hg hm ?_ hdb)
  refine PySem.W.callWith_K (h₀:=X.base) I.ok.mod.kin hk (thn (ha pos pins s σ H _ I h) fun us s1 ⟨vs,H1,I1,r,q⟩ => ⟨I1.kIn,?_⟩) he hpl
  exact run_fn F hr hb hd hx I1 r q
theorem pe_meth {pl : Sem Bool} (he : PE X o ta) (c : Cls X.K C) (hm : Meth X.K C m f) (F : FnOk X.prog X.w X.K X.mg X.base CX k f fd ps sp) (hr : Room k X.A) (hb : Binds X.K fd ps ds) (hd : Vals dvs ds) (hx : Passes CX X E) (ha : PA X (e :: es) t)
    (hst : starEach (e :: es) X.env = (false,eval e X.env) :: starEach es X.env:=by rfl) (hpl : (backTo pos (starEach es X.env)).any (·.1) = false:=by rfl)
    (ht : eval (.Call (.Attribute o m apos) (e :: es) [] pos) X.env = (do
      let ov ← eval o X.env
      standAt apos.atName
      let (f,first) ← holding [ov] (getMethod ov m pl)
      callWith pos f first (backTo pos (starEach (e :: es) X.env)) (backToKw pos (keywordEach [] X.env))):=by rfl) :
    PE X (.Call (.Attribute o m apos) (e :: es) [] pos) (tMeth C m sp dvs E ta t):=by
  intro pins s σ H Q I h
  refine PySem.W.methodCall_KW (pl:=pl) (thn (he pins s σ H _ I h) fun u s1 ⟨x,H1,I1,rx,a,dx,fs,ex,ea,l,q⟩ => ?_) ht
  subst ex
  obtain rfl : u = Value.ref a:=rx
  refine getmeth_ok I1 ea c hm l ?_
  refine PySem.W.callWith_K (first:=[.ref a]) (h₀:=X.base) I.ok.mod.kin hm.kp (thn (ha pos pins s1 σ H1 _ I1 q) fun us s2 ⟨vs,H2,I2,r,q2⟩ => ⟨I2.kIn,?_⟩) hst hpl
  exact run_fn (us:=.ref a :: us) (vs:=.ref a :: vs) F hr hb hd hx I2 (.cons rfl r) q2
theorem pe_meth0 {pl : Sem Bool} (he : PE X o ta) (c : Cls X.K C) (hm : Meth X.K C m f) (F : FnOk X.prog X.w X.K X.mg X.base CX k f fd ps sp) (hr : Room k X.A) (hb : Binds X.K fd ps ds) (hd : Vals dvs ds) (hx : Passes CX X E)
    (ht : eval (.Call (.Attribute o m apos) [] [] pos) X.env = (do
      let ov ← eval o X.env
      standAt apos.atName
      let (f,first) ← holding [ov] (getMethod ov m pl)
      callWith pos f first (backTo pos (starEach [] X.env)) (backToKw pos (keywordEach [] X.env))):=by rfl) :
    PE X (.Call (.Attribute o m apos) [] [] pos) (tMeth C m sp dvs E ta tNil):=by
  intro pins s σ H Q I h
  refine PySem.W.methodCall_KW (pl:=pl) (thn (he pins s σ H _ I h) fun u s1 ⟨x,H1,I1,rx,a,dx,fs,ex,ea,l,q⟩ => ?_) ht
  subst ex
  obtain rfl : u = Value.ref a:=rx
  refine getmeth_ok I1 ea c hm l ?_
  exact PySem.W.callWith_K0 (first:=[.ref a]) I1.kIn hm.kp (run_fn (us:=[.ref a]) (vs:=[.ref a]) F hr hb hd hx I1 (.cons rfl .nil) q)
structure Mk (K : PySem.W.Frag) (C f : Addr) : Prop where
  makes : PySem.W.makesIn K C = true
  init : PySem.W.findIn K (.ref C) "__init__" = some (some (.ref f))
  fn : PySem.W.isFn K (.ref f) = true
  kp : PySem.W.keepIn K (.ref C) = true
theorem run_make {pins : List (Addr × Obj)} {σ : St} {H : Hp} {s : Shared} {Q : VK} {us : List Value} {vs : List V} (M : Mk X.K C f) (F : FnOk X.prog X.w X.K X.mg X.base CX k f fd ps sp) (hr : Room (k + 1) X.A) (hb : Binds X.K fd ps ds) (hd : Vals dvs ds)
    (hx : Passes CX X E) (I : Inv X pins σ H s) (r : Vals vs us)
    (h : ∀ x dx,H x = none → H dx = none → dx ≠ x → sp (.ref x :: (vs ++ dvs)) (upd (upd H dx (.own x)) x (.ins C dx [])) (fun v H2 => v = .non ∧ Q (.ref x) H2) E) :
    wpAny (model X.prog X.w) X.A (call (.ref C) us) (EP X pins σ Q) X.xe s:=by
  have hq:=h (s.heap.objs.size + 1) s.heap.objs.size (I.hok.fresh (Nat.le_succ _)) (I.hok.fresh (Nat.le_refl _)) (Nat.ne_of_lt (Nat.lt_succ_self _))
  have I2:=Inv.made (C:=C) I
  have r2 : Vals (V.ref (s.heap.objs.size + 1) :: (vs ++ dvs)) (Value.ref (s.heap.objs.size + 1) :: (us ++ ds)):=.cons rfl (r.append hd)
  have hl : (Value.ref (s.heap.objs.size + 1) :: us ++ ds).length = ps.length:=by
    have e:=r2.length
    rw [F.len _ _ _ _ hq] at e
    exact e.symm
  refine wpAny_call (make_map (f:=f) I.kIn M.makes M.init (beq_iff_eq.mp M.fn) (codeAny_mono (F.run _ X.stack _ _ ⟨Value.ref (s.heap.objs.size + 1) :: us,[]⟩ (Value.ref (s.heap.objs.size + 1) :: (us ++ ds)) _ _ E (hr.make C us [])
    (I2.env0.make C us []) (hb _ (Value.ref (s.heap.objs.size + 1) :: us) I2.kIn hl) r2 hq) fun r s' hq' => ?_))
  cases r with
  | error e => exact hx pins σ _ _ e s' I2 hq'
  | ok fl =>
    cases fl with
    | ret u =>
      obtain ⟨v,H',I3,rv,ev,q3⟩:=I2.after hq'
      subst ev
      exact ⟨rv,⟨V.ref (s.heap.objs.size + 1),H',I3,rfl,q3⟩⟩
    | next => exact False.elim hq'
    | brk => exact False.elim hq'
    | cont => exact False.elim hq'
theorem pe_make (M : Mk X.K C f) (F : FnOk X.prog X.w X.K X.mg X.base CX k f fd ps sp) (hr : Room (k + 1) X.A) (hg : Gl X x) (hm : X.mg x = some (.ref C)) (hb : Binds X.K fd ps ds) (hd : Vals dvs ds) (hx : Passes CX X E)
    (ha : PA X (e :: es) t) (hdb : (x == ("__debug__" : Str)) = false:=by decide) (he : starEach (e :: es) X.env = (false,eval e X.env) :: starEach es X.env:=by rfl) (hpl : (backTo pos (starEach es X.env)).any (·.1) = false:=by rfl) :
    PE X (.Call (.Name x p) (e :: es) [] pos) (tMake C sp dvs E t):=by
  intro pins s σ H Q I h
  refine wpAny_Call_Name_kw (ld_glob I hg hm ?_ hdb)
  refine PySem.W.callWith_K (h₀:=X.base) I.ok.mod.kin M.kp (thn (ha pos pins s σ H _ I h) fun us s1 ⟨vs,H1,I1,r,q⟩ => ⟨I1.kIn,?_⟩) he hpl
  exact run_make M F hr hb hd hx I1 r q
theorem pe_make0 (M : Mk X.K C f) (F : FnOk X.prog X.w X.K X.mg X.base CX k f fd ps sp) (hr : Room (k + 1) X.A) (hg : Gl X x) (hm : X.mg x = some (.ref C)) (hb : Binds X.K fd ps ds) (hd : Vals dvs ds) (hx : Passes CX X E)
    (hdb : (x == ("__debug__" : Str)) = false:=by decide) : PE X (.Call (.Name x p) [] [] pos) (tMake C sp dvs E tNil):=by
  intro pins s σ H Q I h
  refine wpAny_Call_Name_kw (ld_glob I hg hm ?_ hdb)
  exact PySem.W.callWith_K0 I.kIn M.kp (run_make (us:=[]) M F hr hb hd hx I .nil h)
end
section
variable {X : Cx} {CX : CXT} {k : Nat} {f C : Addr} {fd : FuncData} {ps ks : List Str} {sp : Sp} {E : XK} {x m : Str} {p pos apos kpos : Pos} {e o : Expr} {es : List Expr} {kws : List Keyword} {te ta : TE} {t tk : TA} {nm : Option Str}
variable {g : List Value → List Value → List Value} {gV : List V → List V → List V}
end
structure FnScope (N P : List Str) (sc : Scope) : Prop where
  kind : sc.kind = .function
  co : sc.isCoroutine = false
  gen : sc.isGenerator = false
  nd : N.Nodup
  pre : N.take P.length = P
  par : ∀ x ∈ P,sc.names.lookup x = some .local ∨ sc.names.lookup x = some .cell
  nofree : ∀ y ∈ sc.names,y.2 ≠ .free
theorem bindL_out {kindOf : Str → Option NameKind} {x : Str} : ∀ {binds : List (Str × Value)} {m : Str → Option Value},(∀ v,(x,v) ∉ binds) → bindL kindOf binds m x = m x
  | [],_,_ => rfl
  | (n,v) :: r,m,h => by
    unfold bindL
    rw [bindL_out fun w hw => h w (List.mem_cons_of_mem _ hw)]
    split
    · have : x ≠ n:=by rintro rfl; exact h v List.mem_cons_self
      simp [this]
    · rfl
theorem bindC_out {kindOf : Str → Option NameKind} {x : Str} : ∀ {binds : List (Str × Value)} {m : Str → Option Value},(∀ v,(x,v) ∉ binds) → bindC kindOf binds m x = m x
  | [],_,_ => rfl
  | (n,v) :: r,m,h => by
    unfold bindC
    rw [bindC_out fun w hw => h w (List.mem_cons_of_mem _ hw)]
    split
    · rfl
    · have : x ≠ n:=by rintro rfl; exact h v List.mem_cons_self
      simp [this]
theorem bindL_get {kindOf : Str → Option NameKind} {x : Str} {v : Value} : ∀ {P : List Str} {vs : List Value} {i : Nat} {m : Str → Option Value},P.Nodup → P[i]? = some x → vs[i]? = some v → kindOf x = some .local →
    bindL kindOf (P.zip vs) m x = some v
  | [],_,_,_,_,h,_,_ => by simp at h
  | _ :: _,[],_,_,_,_,h,_ => by simp at h
  | p :: P,w :: vs,0,m,nd,h1,h2,hk => by
    simp at h1 h2; subst h1; subst h2
    show bindL kindOf ((p,w) :: P.zip vs) m p = _
    unfold bindL
    rw [bindL_out fun v hv => (List.nodup_cons.mp nd).1 (List.of_mem_zip hv).1,if_pos hk]
    simp
  | p :: P,w :: vs,i + 1,m,nd,h1,h2,hk => by
    show bindL kindOf ((p,w) :: P.zip vs) m x = _
    unfold bindL
    exact bindL_get (i:=i) (List.nodup_cons.mp nd).2 (by simpa using h1) (by simpa using h2) hk
theorem bindC_get {kindOf : Str → Option NameKind} {x : Str} {v : Value} : ∀ {P : List Str} {vs : List Value} {i : Nat} {m : Str → Option Value},P.Nodup → P[i]? = some x → vs[i]? = some v → kindOf x ≠ some .local →
    bindC kindOf (P.zip vs) m x = some v
  | [],_,_,_,_,h,_,_ => by simp at h
  | _ :: _,[],_,_,_,_,h,_ => by simp at h
  | p :: P,w :: vs,0,m,nd,h1,h2,hk => by
    simp at h1 h2; subst h1; subst h2
    show bindC kindOf ((p,w) :: P.zip vs) m p = _
    unfold bindC
    rw [bindC_out fun v hv => (List.nodup_cons.mp nd).1 (List.of_mem_zip hv).1,if_neg hk]
    simp
  | p :: P,w :: vs,i + 1,m,nd,h1,h2,hk => by
    show bindC kindOf ((p,w) :: P.zip vs) m x = _
    unfold bindC
    exact bindC_get (i:=i) (List.nodup_cons.mp nd).2 (by simpa using h1) (by simpa using h2) hk
def start (N : List Str) (vs : List V) : St:=vs.map some ++ List.replicate (N.length - vs.length) none
def cxOf (CX : CXT) (P : Program) (w : World) (K : PySem.W.Frag) (mg : Str → Option Value) (base : Heap) (N : List Str) (qual : Str) (scope : Scope) (f : Addr) (cd : Value) (A : Around) (outer : List Env) (s : Shared) (H : Hp) (E : XK) : Cx where
  prog:=P
  w:=w
  K:=K
  mg:=mg
  base:=base
  A:=A.deeper (envOfC qual scope s.heap.objs.size f cd)
  N:=N
  s₀:=s
  H₀:=H
  env:=envOfC qual scope s.heap.objs.size f cd
  outer:=outer
  stack:=envOfC qual scope s.heap.objs.size f cd :: outer
  ex:=[]
  calm:=true
  fn:=fun _ => true
  pn:=[]
  xe:=fun e s' => wpAny (model P w) (A.deeper (envOfC qual scope s.heap.objs.size f cd)) (leaving (envOfC qual scope s.heap.objs.size f cd) e) (fun _ s'' => CX outer H s E e s'') (fun e' s'' => CX outer H s E e' s'') s'
theorem cell_has {sc : Scope} {n : Nat} {x : Str} (h : sc.names.lookup x = some .cell) : ∃ c,(cellsFrom n sc.names []).lookup x = some c:=by
  have q:=PySem.W.cellsFrom_some sc.names n [] (.inl h)
  exact Option.isSome_iff_exists.mp q
theorem inv_start {CX : CXT} {P : Program} {w : World} {K : PySem.W.Frag} {mg : Str → Option Value} {base : Heap} {N ps : List Str} {qual : Str} {scope : Scope} {f : Addr} {cd : Value} {A : Around} {outer : List Env} {s s1 : Shared} {H : Hp} {E : XK} {us : List Value} {vs : List V}
    (S : FnScope N ps scope) (hd : A.handled = none) (e0 : Env0 P w K mg base A outer s H) (hl : vs.length = ps.length) (r : Vals vs us)
    (x : InCallC s s.heap.objs.size (bindL (envOfC qual scope s.heap.objs.size f cd).kindOf (ps.zip us) fun _ => none) (cellsFrom (s.heap.objs.size + 1) scope.names []) (bindC (envOfC qual scope s.heap.objs.size f cd).kindOf (ps.zip us) fun _ => none) s1) :
    Inv (cxOf CX P w K mg base N qual scope f cd A outer s H E) [] (start N vs) H s1:=by
  have hpl : ps.length ≤ N.length:=by have:=congrArg List.length S.pre; rw [List.length_take] at this; omega
  obtain ⟨h1,tk,rfl,hk⟩:=x.done
  have noA : ∀ b : Addr,b ∉ (cxOf CX P w K mg base N qual scope f cd A outer s H E).ex:=fun b z => absurd (show b ∈ ([] : List Addr) from z) (by simp)
  refine ⟨⟨e0.mod,S.kind,rfl,rfl,Nat.le_refl _,fun y z c h1 h2 => ?_,fun y hy => ?_,fun y c _ h => ?_,fun _ => hd,Around.frames_deeper e0.frames,.inr ⟨rfl,rfl⟩,fun b z => absurd z (noA b),e0.bs,e0.bsz,fun b _ _ => noA b,fun b z => absurd z (noA b),e0.funs,e0.frf⟩,
    rfl,e0.bare,Un.kept hk,⟨_,x.toInCall.ns,fun i y v h1 h2 h3 => ?_⟩,fun y c h => ⟨_,x.cell y c h⟩,e0.hok.fresh (Nat.le_refl _),fun y c h => ?_,fun p hp => absurd (show p ∈ ([] : List (Addr × Obj)) from hp) (by simp),e0.hok.kept hk,?_⟩
  · exact name_of_addr x.apart (PySem.mem_of_lookup h1) (PySem.mem_of_lookup h2)
  · have hy : scope.names.lookup y = some .cell ∨ scope.names.lookup y = some .free:=hy
    rcases hy with hy | hy
    · exact cell_has hy
    · exact absurd rfl (S.nofree _ (PySem.mem_of_lookup hy))
  · exact Nat.le_of_lt (x.above y c (PySem.mem_of_lookup h))
  · have hi : i < vs.length:=by
      unfold start at h2
      by_cases hi : i < vs.length
      · exact hi
      · rw [List.getElem?_append_right (by simpa using hi)] at h2
        rw [List.getElem?_replicate] at h2
        split at h2 <;> cases h2
    have ha : vs[i]? = some v:=by
      unfold start at h2
      rw [List.getElem?_append_left (by simpa using hi),List.getElem?_map] at h2
      cases e : vs[i]? with
      | none => rw [e] at h2; cases h2
      | some a => rw [e] at h2; cases h2; rfl
    obtain ⟨u,hu,rv⟩:=r.get ha
    have hp : ps[i]? = some y:=by
      rw [← S.pre,List.getElem?_take_of_lt (by omega)]; exact h1
    have ndP : ps.Nodup:=by rw [← S.pre]; exact S.nd.sublist (List.take_sublist _ _)
    refine ⟨u,rv,?_⟩
    rcases S.par y (List.mem_of_getElem? hp) with k | k
    · exact .inl ⟨k,bindL_get ndP hp hu k⟩
    · obtain ⟨c,e⟩:=cell_has (n:=s.heap.objs.size + 1) k
      refine .inr ⟨.inl k,c,e,?_⟩
      have q:=x.cell y c e
      rw [bindC_get ndP hp hu (by show scope.names.lookup y ≠ _; rw [k]; decide)] at q
      exact q
  · exact e0.hok.fresh (Nat.le_of_lt (x.above y c (PySem.mem_of_lookup h)))
  · unfold start
    show _ = N.length
    rw [List.length_append,List.length_map,List.length_replicate]
    omega
theorem fn_of {CX : CXT} {P : Program} {w : World} {K : PySem.W.Frag} {mg : Str → Option Value} {base : Heap} {k : Nat} {f : Addr} {name qual : Str} {params : Arguments} {body : List Stmt} {scope : Scope} {dV kV doc pm cdv ct oc : Value} {an od : Option Addr}
    {osl : Array (Option Value)} {N ps : List Str} {sp : Sp} (lk : K.lookup f = some ⟨oc,od,.func (PySem.W.fnOf name qual params body scope dV kV doc pm an cdv ct),osl⟩) (hcd : PySem.W.codeIn K cdv qual = true) (S : FnScope N ps scope)
    (len : ∀ vs H Q E,sp vs H Q E → vs.length = ps.length)
    (hbody : ∀ (A : Around) (outer : List Env) (s : Shared) (H : Hp) (vs : List V) (Q : VK) (E : XK),Room k (A.deeper (envOfC qual scope s.heap.objs.size f cdv)) → sp vs H Q E →
      ∃ t,PSs (cxOf CX P w K mg base N qual scope f cdv A outer s H E) body t ∧ t { nx:=fun _ H' => Q .non H',rt:=Q } (start N vs) H) :
    FnOk P w K mg base CX (k + 1) f (PySem.W.fnOf name qual params body scope dV kV doc pm an cdv ct) ps sp:=by
  refine ⟨len,fun A outer s H args us vs Q E hr e0 hb r hsp => ?_⟩
  have hl:=len _ _ _ _ hsp
  have KX : K.In s.heap:=e0.mod.kin.keeps fun b o e => (e0.bs b o e).1
  have lim : s.heap.NoLimit:=e0.mod.nolimit.keeps fun b o e => (e0.bs b o e).1
  have hkind : ∀ y ∈ ps.zip us,scope.names.lookup y.1 = some .local ∨ (scope.names.lookup y.1 = some .cell ∧ ((cellsFrom (s.heap.objs.size + 1) scope.names []).lookup y.1).isSome = true):=fun ⟨n,v⟩ hy => by
    rcases S.par n (List.of_mem_zip hy).1 with q | q
    · exact .inl q
    · exact .inr ⟨q,PySem.W.cellsFrom_some _ _ _ (.inl q)⟩
  refine codeAny_call_function hr.depth (KX _ _ lk) rfl S.co S.gen rfl (PySem.W.codeRec_of KX hcd) (hb _ _ _ _ ?_)
  refine wpAny_newFunctionEnv_cells S.kind hkind fun env he s1 x => ?_
  subst he
  refine ⟨lim.keeps x.toInCall.keep,codeAny_func ?_⟩
  obtain ⟨t,ht,hq⟩:=hbody A outer s H vs Q E (hr.deeper _) hsp
  have I : Inv (cxOf CX P w K mg base N qual scope f cdv A outer s H E) [] (start N vs) H s1:=inv_start S hr.hd e0 hl r x
  refine wpAny_mono (ht [] s1 (start N vs) H _ I hq) (fun fl s' hs => ?_) fun e s' hs => hs
  have fin : ∀ {σ' : St} {H' : Hp} {v : V} {u : Value},Inv (cxOf CX P w K mg base N qual scope f cdv A outer s H E) [] σ' H' s' → RelV v u → Q v H' → CE outer P w H s Q u s' :=
    fun {σ' H' v u} J rv q => ⟨v,H',J.os,J.bare,J.base,J.hok,rv,q⟩
  cases fl with
  | ret u =>
    obtain ⟨v,σ',H',J,rv,q⟩:=hs
    exact fin J rv q
  | next =>
    obtain ⟨σ',H',J,q⟩:=hs
    exact fin (v:=V.non) (u:=Value.none) J rfl q
  | brk =>
    obtain ⟨_,_,_,q⟩:=hs
    exact False.elim q
  | cont =>
    obtain ⟨_,_,_,q⟩:=hs
    exact False.elim q
end L2
namespace L2
open PySem PySem.Spec PyProof.Rows
section
variable {X : Cx} {x : Str} {p pos : Pos} {e : Expr} {es : List Expr} {t : TA} {id T : String} {r : List V → Hp → VK → Prop}
def tCB (r : List V → Hp → VK → Prop) (t : TA) : TE:=fun σ H Q => t σ H fun vs H1 => r vs H1 Q
theorem pe_callB (hc : CallR X (.builtin id) r) (hg : Gl X x) (hm : X.mg x = none) (hv : bootBuiltins x = some (.builtin id)) (ha : PA X (e :: es) t) (hn : x ≠ "__name__":=by decide) (hdb : (x == ("__debug__" : Str)) = false:=by decide)
    (he : starEach (e :: es) X.env = (false,eval e X.env) :: starEach es X.env:=by rfl) (hpl : (backTo pos (starEach es X.env)).any (·.1) = false:=by rfl) : PE X (.Call (.Name x p) (e :: es) [] pos) (tCB r t):=by
  intro pins s σ H Q I h
  refine wpAny_Call_Name_kw (ld_blt I hg hm hv ?_ hn hdb)
  exact PyProof.Rows.callWith_builtin1 (thn (ha pos pins s σ H _ I h) fun us s1 ⟨vs,H1,I1,r1,q1⟩ => hc pins s1 σ H1 vs us Q I1 r1 q1) he hpl
theorem pe_callTy (hc : CallR X (.type T) r) (hg : Gl X x) (hm : X.mg x = none) (hv : bootBuiltins x = some (.type T)) (ha : PA X (e :: es) t) (hn : x ≠ "__name__":=by decide) (hdb : (x == ("__debug__" : Str)) = false:=by decide)
    (he : starEach (e :: es) X.env = (false,eval e X.env) :: starEach es X.env:=by rfl) (hpl : (backTo pos (starEach es X.env)).any (·.1) = false:=by rfl) : PE X (.Call (.Name x p) (e :: es) [] pos) (tCB r t):=by
  intro pins s σ H Q I h
  refine wpAny_Call_Name_kw (ld_blt I hg hm hv ?_ hn hdb)
  exact PyProof.Rows.callWith_type1 (thn (ha pos pins s σ H _ I h) fun us s1 ⟨vs,H1,I1,r1,q1⟩ => hc pins s1 σ H1 vs us Q I1 r1 q1) he hpl
end
end L2
namespace HT
open PySem PyProof.Rows
section
open PySem.SeqAt
open PySem.AutoSeq1 (wpAny_loadPart')
open PySem.MeetsSeq PySem.MeetsSeq2 PySem.MeetsSeq3
end
section
variable {prog : Program} {w : World} {A : Around} {E : Value → Shared → Prop} {s : Shared}
theorem cat_tup {t b : Addr} {vs ws : List Value} {Q : Value → Shared → Prop} (ht : IsTup s.heap t vs.toArray) (hb : IsTup s.heap b ws.toArray) (hv : vs ≠ [])
    (h1 : ws = [] → Q (.ref t) s) (h2 : ws ≠ [] → Q (.ref s.heap.objs.size) { s with heap:=s.heap.push { cls:=.type "tuple",data:=.seq (vs ++ ws).toArray } })
    (hsz : vs.length + ws.length ≤ sizeLine) : wpAny (model prog w) A (binaryOp .Add (.ref t) (.ref b)) Q E s:=by
  obtain ⟨⟨cls,dd,data,sl⟩,ho,hc,n,hd⟩:=id ht
  obtain ⟨⟨cls2,dd2,data2,sl2⟩,ho2,hc2,n2,hd2⟩:=id hb
  simp only at hc hd hc2 hd2
  subst hc hd hc2 hd2
  have e : vs.toArray ++ ws.toArray = (vs ++ ws).toArray:=by simp
  by_cases hw : ws = []
  · exact concat_meets ⟨_,ho,rfl⟩ ⟨_,ho2,rfl⟩ noFill_tuple_add seq_tuple_add PySem.F.slot_tuple_add PySem.F.entry_tuple_add (PySem.F.args_tuple_add_2 _ _)
      (tuple_addW1 t b vs.toArray ws.toArray n n2 dd dd2 sl sl2 (by simpa using hv) (by simp [hw])) ⟨ho,ho2,h1 hw⟩
  · refine concat_meets ⟨_,ho,rfl⟩ ⟨_,ho2,rfl⟩ noFill_tuple_add seq_tuple_add PySem.F.slot_tuple_add PySem.F.entry_tuple_add (PySem.F.args_tuple_add_2 _ _)
      (tuple_addW2 t b vs.toArray ws.toArray n n2 dd dd2 sl sl2 (by simpa using hv) (by simpa using hw) (by rw [List.size_toArray,List.size_toArray]; exact hsz)) ⟨ho,ho2,?_⟩
    rw [e]
    exact h2 hw
def sIx (n d : Nat) : Option Int → Nat
  | none => d
  | some v => if v < 0 then (v + (n : Int)).toNat else min v.toNat n
theorem sIx_nat (n d k : Nat) : sIx n d (some (k : Int)) = min k n:=by
  show (if (k : Int) < 0 then ((k : Int) + (n : Int)).toNat else min (k : Int).toNat n) = min k n
  rw [if_neg (by omega),Int.toNat_natCast]
end
end HT
namespace L2
open PySem PySem.Spec PyProof.Rows
abbrev TO:=St → Hp → (Option Int → Hp → Prop) → Prop
def PO (X : Cx) (e : Option Expr) (t : TO) : Prop :=
  ∀ (pins : List (Addr × Obj)) (s : Shared) (σ : St) (H : Hp) (Q : Option Int → Hp → Prop),Inv X pins σ H s → t σ H Q →
    wpAny (model X.prog X.w) X.A (evalPart e X.env) (fun u s' => ∃ o H',Inv X pins σ H' s' ∧ IsPart u o ∧ Q o H') X.xe s
def tPart (t : TE) : TO:=fun σ H Q => t σ H fun x H1 => ∃ i,x = .int i ∧ Q (some i) H1
section
variable {X : Cx} {e : Expr} {te : TE} {lo hi : Option Expr} {tl th : TO} {pos p2 : Pos}
theorem po_some (h : PE X e te) : PO X (some e) (tPart te):=by
  intro pins s σ H Q I hw
  rw [evalPart_some]
  refine thn (h pins s σ H _ I hw) fun u s1 ⟨x,H1,I1,r1,q1⟩ => ?_
  obtain ⟨i,rfl,q⟩:=q1
  obtain ⟨t,rfl⟩:=r1
  exact ⟨some i,H1,I1,.int i t,q⟩
def SlR (X : Cx) (r : V → Option Int → Option Int → Hp → VK → Prop) : Prop :=
  ∀ (pins : List (Addr × Obj)) (s : Shared) (σ : St) (H : Hp) (x : V) (v vl vu : Value) (lo hi : Option Int) (sl : Addr) (Q : VK),Inv X pins σ H s → RelV x v → s.heap.IsSliceOf sl vl vu .none → IsPart vl lo → IsPart vu hi → r x lo hi H Q →
    ∃ T id,typeLookup (.type T) "__getitem__" = pure (some (.builtin id)) ∧ s.TypeIs v T ∧ wpAny (model X.prog X.w) X.A (getItem v (.ref sl)) (EP X pins σ Q) X.xe s
def tSl (r : V → Option Int → Option Int → Hp → VK → Prop) (te : TE) (tl th : TO) : TE:=fun σ H Q => te σ H fun x H1 => tl σ H1 fun l H2 => th σ H2 fun u H3 => r x l u H3 Q
theorem pe_slice {r : V → Option Int → Option Int → Hp → VK → Prop} (hr : SlR X r) (he : PE X e te) (hl : PO X lo tl) (hu : PO X hi th) : PE X (.Subscript e (.Slice lo hi none p2) pos) (tSl r te tl th):=by
  intro pins s σ H Q I h
  refine Subscript_ (thn (he pins s σ H _ I h) fun v s1 ⟨x,H1,I1,r1,q1⟩ => ?_)
  refine wpAny_Slice (thn (hl pins s1 σ H1 _ I1 q1) fun vl s2 ⟨l,H2,I2,pl,q2⟩ => thn (hu pins s2 σ H2 _ I2 q2) fun vu s3 ⟨u,H3,I3,pu,q3⟩ => ?_)
  rw [evalPart_none]
  refine wpAny_pure ?_
  have I4 : Inv X pins σ H3 { s3 with heap:=s3.heap.push { cls:=.type "slice",data:=.fields #[vl,vu,.none] } }:=I3.kept (t':=s3.toks) fun b ob q => Heap.get?_push_of_some _ q
  obtain ⟨T,id,hT,ht,hg⟩:=hr pins { s3 with heap:=s3.heap.push { cls:=.type "slice",data:=.fields #[vl,vu,.none] } } σ H3 x v vl vu l u s3.heap.objs.size Q I4 r1 (Heap.IsSliceOf.new ..) pl pu q3
  show wpAny (model X.prog X.w) X.A (subscriptTail e (.Slice lo hi none p2) v (.ref s3.heap.objs.size)) (EP X pins σ Q) X.xe { s3 with heap:=s3.heap.push { cls:=.type "slice",data:=.fields #[vl,vu,.none] } }
  exact tail_any (ops:=[.ref s3.heap.objs.size,v]) ht hT hg (by with_unfolding_all rfl)
def cutV (xs : List V) (lo hi : Option Int) : List V:=(xs.drop (HT.sIx xs.length 0 lo)).take (HT.sIx xs.length xs.length hi - HT.sIx xs.length 0 lo)
theorem cutV_length (xs : List V) (lo hi : Option Int) : (cutV xs lo hi).length ≤ xs.length:=by
  unfold cutV
  rw [List.length_take,List.length_drop]
  omega
def rCatT (K : PySem.W.Frag) : R2:=fun x y H Q => ∃ a b xs ys,x = .ref a ∧ y = .ref b ∧ SqT K H a xs ∧ SqT K H b ys ∧ xs ≠ [] ∧ xs.length + ys.length ≤ sizeLine ∧
  (ys = [] → Q (.ref a) H) ∧ (ys ≠ [] → ∀ p,H p = none → Q (.ref p) (upd H p (.tup (xs ++ ys))))
theorem Vals.nil_iff {xs : List V} {us : List Value} (r : Vals xs us) : us = [] ↔ xs = []:=by
  cases r with
  | nil => simp
  | cons _ _ => simp
theorem op_catT : OpR X (binaryOp .Add) (rCatT X.K):=by
  intro pins s σ H x y v u Q I rx ry h
  obtain ⟨a,b,xs,ys,rfl,rfl,ha,hb,hx,hz,q1,q2⟩:=h
  cases rx
  cases ry
  obtain ⟨its,r1,p1,_⟩:=I.tuple ha
  obtain ⟨its2,r2,p2,_⟩:=I.tuple hb
  refine HT.cat_tup p1 p2 (fun z => hx (r1.nil_iff.mp z)) (fun z => ⟨.ref a,H,I,rfl,q1 (r2.nil_iff.mp z)⟩) (fun z => ?_) (by rw [← r1.length,← r2.length]; exact hz)
  refine ⟨.ref s.heap.objs.size,_,I.laid (t':=s.toks) (o:=.tup (xs ++ ys)) (fun b ob q => Heap.get?_push_of_some _ q) (Nat.le_refl _) ?_,rfl,q2 (fun w => z (r2.nil_iff.mpr w)) _ (I.hok.fresh (Nat.le_refl _))⟩
  exact ⟨by rw [List.length_append]; exact hz,_,r1.append r2,IsTup.new _ _⟩
end
end L2
namespace L2
open PySem PySem.Spec PyProof.Rows
def ixN (n : Nat) (i : Int) : Option Nat:=if 0 ≤ i then (if i < n then some i.toNat else none) else if -(n : Int) ≤ i then some (i + n).toNat else none
def atI {α : Type} (xs : List α) (i : Int) : Option α:=(ixN xs.length i).bind fun j => xs[j]?
theorem ixN_seq {n : Nat} {i : Int} {j : Nat} (h : ixN n i = some j) : seqIndex? i n = some j ∧ j < n ∧ -(n : Int) ≤ i ∧ i < n:=by
  unfold ixN at h
  by_cases h0 : 0 ≤ i
  · rw [if_pos h0] at h
    by_cases h1 : i < n
    · rw [if_pos h1] at h
      have e : i.toNat = j:=Option.some.inj h
      exact ⟨by rw [seqIndex_of h0 h1,e],by omega,by omega,h1⟩
    · rw [if_neg h1] at h; cases h
  · rw [if_neg h0] at h
    by_cases h1 : -(n : Int) ≤ i
    · rw [if_pos h1] at h
      have e : (i + n).toNat = j:=Option.some.inj h
      exact ⟨by rw [seqIndex_neg (by omega) h1,e],by omega,h1,by omega⟩
    · rw [if_neg h1] at h; cases h
theorem atI_get {α : Type} {xs : List α} {i : Int} {v : α} (h : atI xs i = some v) : ∃ j,seqIndex? i xs.length = some j ∧ xs[j]? = some v ∧ j < xs.length ∧ -(xs.length : Int) ≤ i ∧ i < xs.length:=by
  unfold atI at h
  cases e : ixN xs.length i with
  | none => rw [e] at h; cases h
  | some j =>
    rw [e] at h
    obtain ⟨h1,h2,h3,h4⟩:=ixN_seq e
    exact ⟨j,h1,h,h2,h3,h4⟩
theorem atI_nat {α : Type} {xs : List α} {j : Nat} {v : α} (h : xs[j]? = some v) : atI xs (j : Int) = some v:=by
  have hj : j < xs.length:=(List.getElem?_eq_some_iff.mp h).1
  have e : ixN xs.length (j : Int) = some j:=by
    unfold ixN
    rw [if_pos (by omega),if_pos (by omega)]; simp
  unfold atI; rw [e]; exact h
def PlainIx (b : Expr) : Prop:=∀ o i,subscripted b false o i = operate [o,i] (getItem o i)
def IxR (X : Cx) (r : R2) : Prop :=
  ∀ (value slice : Expr) (pins : List (Addr × Obj)) (s : Shared) (σ : St) (H : Hp) (x y : V) (v u : Value) (Q : VK),Inv X pins σ H s → RelV x v → RelV y u → r x y H Q →
    subscripted slice false v u = operate [v,u] (getItem v u) → wpAny (model X.prog X.w) X.A (subscriptTail value slice v u) (EP X pins σ Q) X.xe s
def MtR (X : Cx) (id : String) (r : V → List V → Hp → VK → Prop) : Prop :=
  ∀ (pins : List (Addr × Obj)) (s : Shared) (σ : St) (H : Hp) (x : V) (xs : List V) (v : Value) (us : List Value) (Q : VK),Inv X pins σ H s → RelV x v → Vals xs us → r x xs H Q →
    wpAny (model X.prog X.w) X.A (call (.builtin id) (v :: us)) (EP X pins σ Q) X.xe s
section
variable {X : Cx} {a b : Expr} {ta tb : TE} {pos : Pos}
theorem pe_ix {r : R2} (hr : IxR X r) (ha : PE X a ta) (hb : PE X b tb) (hs : PlainIx b) : PE X (.Subscript a b pos) (tOp r ta tb):=by
  intro pins s σ H Q I h
  exact Subscript_ (binT ha hb I h fun v u s2 x y H2 I2 rx ry q => hr a b pins s2 σ H2 x y v u Q I2 rx ry q (hs _ _))
def rIxL (K : PySem.W.Frag) : R2:=fun x y H Q => ∃ p xs i v,x = .ref p ∧ y = .int i ∧ SqL K H p xs ∧ atI xs i = some v ∧ Q v H
def rIxT (K : PySem.W.Frag) : R2:=fun x y H Q => ∃ p xs i v,x = .ref p ∧ y = .int i ∧ SqT K H p xs ∧ atI xs i = some v ∧ Q v H
theorem ix_list : IxR X (rIxL X.K):=by
  intro value slice pins s σ H x y v u Q I rx ry h hs
  obtain ⟨p,xs,i,z,rfl,rfl,hq,he,q⟩:=h
  cases rx
  obtain ⟨t,rfl⟩:=ry
  obtain ⟨its,r,pl,hz⟩:=I.list hq
  obtain ⟨j,h1,h2,h3,h4,h5⟩:=atI_get he
  obtain ⟨w,ew,rw'⟩:=r.get h2
  have hl:=r.length
  have hn:=line63
  have fin : EP X pins σ Q w s:=⟨z,H,I,rw',q⟩
  by_cases h0 : 0 ≤ i
  · have hj : i.toNat = j:=by
      rw [seqIndex_of h0 h5] at h1
      exact Option.some.inj h1
    exact item_listR pl.isList h0 (by omega) (by rw [hj]; simpa using ew) fin hs
  · have hj : (i + (its.toArray.size : Int)).toNat = j:=by
      rw [seqIndex_neg (by omega) h4] at h1
      rw [List.size_toArray,← hl]
      exact Option.some.inj h1
    exact subscriptTail_builtinR (x:=w) pl.isList.typeIs slot_list_getitem.lookup
      (wpAny_getItem_list_neg (Q:=fun r s' => r = w ∧ EP X pins σ Q r s') pl.isList (by omega) (by rw [List.size_toArray] <;> omega) (by omega) (by rw [hj]; simpa using ew) ⟨rfl,fin⟩) hs
theorem ix_tup : IxR X (rIxT X.K):=by
  intro value slice pins s σ H x y v u Q I rx ry h hs
  obtain ⟨p,xs,i,z,rfl,rfl,hq,he,q⟩:=h
  cases rx
  obtain ⟨t,rfl⟩:=ry
  obtain ⟨its,r,pl,hz⟩:=I.tuple hq
  obtain ⟨j,h1,h2,h3,h4,h5⟩:=atI_get he
  obtain ⟨w,ew,rw'⟩:=r.get h2
  have hl:=r.length
  have hn:=line63
  have fin : EP X pins σ Q w s:=⟨z,H,I,rw',q⟩
  exact subscriptTail_builtinR (x:=w) pl.typeIs slot_tuple_getitem.lookup
    (getItem_tuple (j:=j) (Q:=fun r s' => r = w ∧ EP X pins σ Q r s') pl (by omega) (by omega) (by rw [List.size_toArray,← hl]; exact h1) (by simpa using ew) ⟨rfl,fin⟩) hs
theorem slice_bounds (lo hi : Option Int) (n : Nat) : (sliceBounds lo hi none n).1 = ((HT.sIx n 0 lo : Nat) : Int) ∧ (sliceBounds lo hi none n).2.1 = ((HT.sIx n n hi : Nat) : Int) ∧ (sliceBounds lo hi none n).2.2 = 1:=by
  refine ⟨?_,?_,rfl⟩
  · cases lo with
    | none => simp [sliceBounds,HT.sIx]
    | some i =>
      simp only [sliceBounds,HT.sIx,Option.getD_none,show (1 : Int) > 0 by decide,if_true]
      by_cases h : i < 0
      · simp only [h,if_true] <;> omega
      · simp only [h,if_false] <;> omega
  · cases hi with
    | none => simp [sliceBounds,HT.sIx]
    | some i =>
      simp only [sliceBounds,HT.sIx,Option.getD_none,show (1 : Int) > 0 by decide,if_true]
      by_cases h : i < 0
      · simp only [h,if_true] <;> omega
      · simp only [h,if_false] <;> omega
theorem slicePick_cut (its : List Value) (lo hi : Option Int) : slicePick its.toArray lo hi none = ((its.drop (HT.sIx its.length 0 lo)).take (HT.sIx its.length its.length hi - HT.sIx its.length 0 lo)).toArray:=by
  obtain ⟨h1,h2,h3⟩:=slice_bounds lo hi its.toArray.size
  unfold slicePick
  rw [h1,h2,h3]
  simp only [sliceRange_one,pick_run,List.size_toArray] <;> rfl
def rSlL (K : PySem.W.Frag) : V → Option Int → Option Int → Hp → VK → Prop:=fun x lo hi H Q => ∃ a xs,x = .ref a ∧ SqL K H a xs ∧ ∀ p,H p = none → Q (.ref p) (upd H p (.lst (cutV xs lo hi)))
theorem sl_list : SlR X (rSlL X.K):=by
  intro pins s σ H x v vl vu lo hi sl Q I rx hs pl pu h
  obtain ⟨a,xs,rfl,hx,q⟩:=h
  cases rx
  obtain ⟨its,r,ht,hz⟩:=I.list hx
  have hlen:=r.length
  refine ⟨"list",_,slot_list_getitem.lookup,ht.isList.typeIs,?_⟩
  refine wpAny_getItem_list_slice ht.isList hs pl pu .none (by simp) ?_ (by rw [List.size_toArray] <;> omega)
  rw [slicePick_cut,← hlen]
  refine ⟨.ref s.heap.objs.size,_,I.laid (t':=s.toks) (o:=.lst (cutV xs lo hi)) (fun b ob q => Heap.get?_push_of_some _ q) (Nat.le_refl _) ?_,rfl,q _ (I.hok.fresh (Nat.le_refl _))⟩
  exact ⟨Nat.le_trans (cutV_length xs lo hi) hz,_,0,(r.drop (HT.sIx xs.length 0 lo)).take (HT.sIx xs.length xs.length hi - HT.sIx xs.length 0 lo),Heap.get?_push_size _ rfl⟩
def flatV : V → Bool
  | .non => true
  | .bl _ => true
  | .int _ => true
  | .str _ => true
  | _ => false
def eqV : V → V → Bool
  | .non,.non => true
  | .bl a,.bl b => a == b
  | .bl a,.int b => (if a then 1 else 0) == b
  | .int a,.bl b => a == (if b then 1 else 0)
  | .int a,.int b => a == b
  | .str a,.str b => a == b
  | _,_ => false
theorem eqAt_V {A : Around} {s : Shared} {y x : V} {u v : Value} (ry : RelV y u) (rx : RelV x v) (fy : flatV y = true) (fx : flatV x = true) : SeqAt.EqAt A s u v (eqV y x):=by
  cases y with
  | non =>
    cases ry
    cases x with
    | non => cases rx; exact SeqAt.EqAt.same _
    | bl b => cases rx; exact SeqAt.EqAt.none_bool b
    | int b => obtain ⟨t,rfl⟩:=rx; exact SeqAt.EqAt.none_int b t
    | str b => obtain ⟨t,rfl⟩:=rx; exact SeqAt.EqAt.none_str b t
    | _ => exact absurd (show false = true from fx) Bool.false_ne_true
  | bl a =>
    cases ry
    cases x with
    | non => cases rx; exact SeqAt.EqAt.bool_none a
    | bl b => cases rx; exact SeqAt.EqAt.bool_bool a b
    | int b => obtain ⟨t,rfl⟩:=rx; exact SeqAt.EqAt.bool_int a b t
    | str b => obtain ⟨t,rfl⟩:=rx; exact SeqAt.EqAt.bool_str a b t
    | _ => exact absurd (show false = true from fx) Bool.false_ne_true
  | int a =>
    obtain ⟨t',rfl⟩:=ry
    cases x with
    | non => cases rx; exact SeqAt.EqAt.int_none a t'
    | bl b => cases rx; exact SeqAt.EqAt.int_bool a t' b
    | int b => obtain ⟨t,rfl⟩:=rx; exact SeqAt.EqAt.int_int a t' b t
    | str b => obtain ⟨t,rfl⟩:=rx; exact SeqAt.EqAt.int_str a t' b t
    | _ => exact absurd (show false = true from fx) Bool.false_ne_true
  | str a =>
    obtain ⟨t',rfl⟩:=ry
    cases x with
    | non => cases rx; exact SeqAt.EqAt.str_none a t'
    | bl b => cases rx; exact SeqAt.EqAt.str_bool a t' b
    | int b => obtain ⟨t,rfl⟩:=rx; exact SeqAt.EqAt.str_int a t' b t
    | str b => obtain ⟨t,rfl⟩:=rx; exact SeqAt.EqAt.str_str a t' b t
    | _ => exact absurd (show false = true from fx) Bool.false_ne_true
  | _ => exact absurd (show false = true from fy) Bool.false_ne_true
def eqU (x : V) (u : Value) : Bool:=match u with
  | .none => eqV .non x
  | .bool b => eqV (.bl b) x
  | .int i _ => eqV (.int i) x
  | .str z _ => eqV (.str z) x
  | _ => false
theorem eqU_of {x y : V} {u : Value} (r : RelV y u) (f : flatV y = true) : eqU x u = eqV y x:=by
  cases y with
  | non => cases r; rfl
  | bl b => cases r; rfl
  | int i => obtain ⟨t,rfl⟩:=r; rfl
  | str z => obtain ⟨t,rfl⟩:=r; rfl
  | _ => exact absurd (show false = true from f) Bool.false_ne_true
theorem any_eqU {x : V} : ∀ {xs : List V} {us : List Value},Vals xs us → xs.all flatV = true → us.any (eqU x) = xs.any fun y => eqV y x
  | _,_,.nil,_ => rfl
  | y :: xs,u :: us,.cons r t,f => by
    rw [List.all_cons,Bool.and_eq_true] at f
    rw [List.any_cons,List.any_cons,eqU_of r f.1,any_eqU t f.2]
theorem mem_eqAt {A : Around} {s : Shared} {x : V} {v : Value} (rx : RelV x v) (fx : flatV x = true) : ∀ {xs : List V} {us : List Value},Vals xs us → xs.all flatV = true → ∀ u ∈ us,SeqAt.EqAt A s u v (eqU x u)
  | _,_,.nil,_ => fun u hu => by cases hu
  | y :: xs,u :: us,.cons r t,f => fun u' hu => by
    rw [List.all_cons,Bool.and_eq_true] at f
    rcases List.mem_cons.mp hu with rfl | hu
    · rw [eqU_of r f.1]; exact eqAt_V r rx f.1 fx
    · exact mem_eqAt rx fx t f.2 u' hu
def inV (x : V) (xs : List V) : Bool:=xs.any fun y => eqV y x
def rIn (K : PySem.W.Frag) (neg : Bool) : R2:=fun x y H Q => ∃ p xs,y = .ref p ∧ (SqL K H p xs ∨ SqT K H p xs) ∧ flatV x = true ∧ xs.all flatV = true ∧ Q (.bl (if neg then !inV x xs else inV x xs)) H
theorem op_in_seq : OpR X (compareOp .In) (rIn X.K false):=by
  intro pins s σ H x y v u Q I rx ry h
  obtain ⟨p,xs,rfl,hq,fx,fs,q⟩:=h
  cases ry
  rcases hq with hq | hq
  · obtain ⟨its,r,pl,hz⟩:=I.list hq
    refine SeqAt.in_listAt (eqU x) pl.isList (fun w hw => mem_eqAt rx fx r fs w (by simpa using hw)) ⟨.bl _,H,I,rfl,?_⟩
    rw [show its.toArray.any (eqU x) = its.any (eqU x) by simp,any_eqU r fs]
    exact q
  · obtain ⟨its,r,pl,hz⟩:=I.tuple hq
    refine SeqAt.in_tupleAt (eqU x) pl (fun w hw => mem_eqAt rx fx r fs w (by simpa using hw)) ⟨.bl _,H,I,rfl,?_⟩
    rw [show its.toArray.any (eqU x) = its.any (eqU x) by simp,any_eqU r fs]
    exact q
theorem op_notIn_seq : OpR X (compareOp .NotIn) (rIn X.K true):=by
  intro pins s σ H x y v u Q I rx ry h
  obtain ⟨p,xs,rfl,hq,fx,fs,q⟩:=h
  cases ry
  rcases hq with hq | hq
  · obtain ⟨its,r,pl,hz⟩:=I.list hq
    refine SeqAt.notIn_listAt (eqU x) pl.isList (fun w hw => mem_eqAt rx fx r fs w (by simpa using hw)) ⟨.bl _,H,I,rfl,?_⟩
    rw [show its.toArray.any (eqU x) = its.any (eqU x) by simp,any_eqU r fs]
    exact q
  · obtain ⟨its,r,pl,hz⟩:=I.tuple hq
    refine SeqAt.notIn_tupleAt (eqU x) pl (fun w hw => mem_eqAt rx fx r fs w (by simpa using hw)) ⟨.bl _,H,I,rfl,?_⟩
    rw [show its.toArray.any (eqU x) = its.any (eqU x) by simp,any_eqU r fs]
    exact q
theorem call_len_seq : CallR X (.builtin "len") (fun xs H Q => ∃ p ys,xs = [.ref p] ∧ (SqL X.K H p ys ∨ SqT X.K H p ys) ∧ Q (.int ys.length) H):=by
  intro pins s σ H xs us Q I r h
  obtain ⟨p,ys,rfl,hq,q⟩:=h
  obtain ⟨u,rfl,rx⟩:=vals1 r
  cases rx
  have hn:=line63
  rcases hq with hq | hq
  · obtain ⟨its,r',pl,hz⟩:=I.list hq
    have hlen:=r'.length
    exact Calls.call_len_list pl.isList (by simp only [List.size_toArray] <;> omega) ⟨.int ys.length,H,I.tok _,⟨s.toks + 1,by rw [List.size_toArray,hlen]⟩,q⟩
  · obtain ⟨its,r',pl,hz⟩:=I.tuple hq
    have hlen:=r'.length
    exact len_tuple pl (by simp only [List.size_toArray] <;> omega) ⟨.int ys.length,H,I.tok _,⟨s.toks + 1,by rw [List.size_toArray,hlen]⟩,q⟩
theorem call_tuple_of : CallR X (.type "tuple") (fun xs H Q => ∃ p ys,xs = [.ref p] ∧ ((SqL X.K H p ys ∧ ∀ l,H l = none → Q (.ref l) (upd H l (.tup ys))) ∨ (SqT X.K H p ys ∧ Q (.ref p) H))):=by
  intro pins s σ H xs us Q I r h
  obtain ⟨p,ys,rfl,h⟩:=h
  obtain ⟨u,rfl,rx⟩:=vals1 r
  cases rx
  rcases h with ⟨hq,q⟩ | ⟨hq,q⟩
  · obtain ⟨its,r',pl,hz⟩:=I.list hq
    have hlen:=r'.length
    refine call_tuple_list pl.isList (fun h' kp => ?_) (by simp only [List.size_toArray] <;> omega)
    have I1 : Inv X pins σ H { s with heap:=h' }:=I.kept (t':=s.toks) kp
    have I2 : Inv X pins σ (upd H h'.objs.size (.tup ys)) { s with heap:=h'.push { cls:=.type "tuple",data:=.seq its.toArray } } :=
      I1.laid (t':=s.toks) (fun b o e => Heap.get?_push_of_some _ e) (Nat.le_refl _) (show ObjOk X.prog X.w _ _ _ (.tup ys) from ⟨hz,its,r',IsTup.new _ _⟩)
    exact ⟨.ref h'.objs.size,_,I2,rfl,q _ (I1.hok.fresh (Nat.le_refl _))⟩
  · obtain ⟨its,r',pl,hz⟩:=I.tuple hq
    exact call_tuple_same pl ⟨.ref p,H,I,rfl,q⟩
def tyV (K : PySem.W.Frag) (T : String) (x : V) (H : Hp) : Prop:=match x with
  | .str _ => T = "str"
  | .int _ => T = "int"
  | .ref p => (T = "list" ∧ ∃ xs,SqL K H p xs) ∨ (T = "tuple" ∧ ∃ o,K.lookup p = some o ∧ o.cls = .type "tuple" ∧ o.dict = none) ∨
      (T = "dict" ∧ ((∃ kvs,H p = some (.dK kvs)) ∨ ∃ kvs,H p = some (.dT kvs))) ∨ (T = "set" ∧ ∃ S n,H p = some (.set S n))
  | _ => False
theorem tyV_is {pins : List (Addr × Obj)} {σ : St} {H : Hp} {s : Shared} {T : String} {x : V} {v : Value} (I : Inv X pins σ H s) (r : RelV x v) (ty : tyV X.K T x H) :
    s.TypeIs v T ∧ ∀ a,v = .ref a → ∃ ob,s.heap.get? a = some ob ∧ ob.dict = none:=by
  cases x with
  | str z =>
    obtain ⟨t,rfl⟩:=r
    cases (show T = "str" from ty)
    exact ⟨typeIs_str s z t,fun _ e => nomatch e⟩
  | int i =>
    obtain ⟨t,rfl⟩:=r
    cases (show T = "int" from ty)
    exact ⟨typeIs_int s i t,fun _ e => nomatch e⟩
  | ref p =>
    cases r
    rcases ty with ⟨rfl,xs,hq⟩ | ⟨rfl,o,hk,hc,hd⟩ | ⟨rfl,hk⟩ | ⟨rfl,S,n,hk⟩
    · obtain ⟨its,_,pl,_⟩:=I.list hq
      refine ⟨pl.isList.typeIs,fun a e => ?_⟩
      cases e
      obtain ⟨o,n,e,c,hd,_⟩:=pl
      exact ⟨o,e,hd⟩
    · refine ⟨⟨o,I.kIn p o hk,hc⟩,fun a e => ?_⟩
      cases e
      exact ⟨o,I.kIn _ o hk,hd⟩
    · have z : ∃ o,s.heap.get? p = some o ∧ o.ExactDict:=by
        rcases hk with ⟨kvs,hk⟩ | ⟨kvs,hk⟩
        · obtain ⟨_,_,_,_,o,_,_,e,ex,_⟩:=I.hok p _ hk
          exact ⟨o,e,ex⟩
        · obtain ⟨_,_,_,_,o,_,_,e,ex,_⟩:=I.hok p _ hk
          exact ⟨o,e,ex⟩
      obtain ⟨o,e,ex⟩:=z
      refine ⟨⟨o,e,ex.1⟩,fun a e2 => ?_⟩
      cases e2
      exact ⟨o,e,ex.2.1⟩
    · obtain ⟨o,_,_,_,e,ex,_⟩:=I.hok p _ hk
      refine ⟨⟨o,e,ex.1⟩,fun a e2 => ?_⟩
      cases e2
      exact ⟨o,e,ex.2.1⟩
  | _ => exact False.elim ty
def tBM0 (K : PySem.W.Frag) (T : String) (r : V → List V → Hp → VK → Prop) (to : TE) : TE:=fun σ H Q => to σ H fun x H1 => tyV K T x H1 ∧ r x [] H1 Q
def tBM (K : PySem.W.Frag) (T : String) (r : V → List V → Hp → VK → Prop) (to : TE) (t : TA) : TE:=fun σ H Q => to σ H fun x H1 => tyV K T x H1 ∧ t σ H1 fun xs H2 => r x xs H2 Q
variable {o e : Expr} {es : List Expr} {to : TE} {t : TA} {name : Str} {apos cpos : Pos} {T id : String} {r : V → List V → Hp → VK → Prop}
theorem pe_bm0 (pa : PlainAttrs T) (slot : Slot T name id) (hty : typeOf (.builtin id) = pure (.type "method_descriptor")) (hm : MtR X id r) (ho : PE X o to)
    (hbase : attributeBase o name X.env (eval o X.env) = eval o X.env:=by rfl) (hline : (apos.endLine == cpos.line) = true:=by rfl) : PE X (.Call (.Attribute o name apos) [] [] cpos) (tBM0 X.K T r to):=by
  intro pins s σ H Q I h
  refine wpAny_Call_method0_late hbase hline (thn (ho pins s σ H _ I h) fun v s1 ⟨x,H1,I1,r1,ty,q1⟩ => ?_)
  obtain ⟨h1,h2⟩:=tyV_is I1 r1 ty
  exact ⟨T,id,pa,slot,hty,h1,h2,Calls.callWith_builtin rfl (PySem.evalArgs_none (hm pins s1 σ H1 x [] v [] Q I1 r1 .nil q1))⟩
theorem pe_bm (pa : PlainAttrs T) (slot : Slot T name id) (hty : typeOf (.builtin id) = pure (.type "method_descriptor")) (hm : MtR X id r) (ho : PE X o to) (ha : PA X (e :: es) t)
    (hbase : attributeBase o name X.env (eval o X.env) = eval o X.env:=by rfl)
    (hfew : ((backTo cpos (starEach (e :: es) X.env)).all (fun x => !x.1) && (backToKw cpos (keywordEach [] X.env)).all (fun x => x.1.isSome)
      && decide ((e :: es).length + ([] : List Keyword).length + (if ([] : List Keyword).isEmpty then 0 else 1) < 30)) = true:=by rfl)
    (hline : (apos.endLine == cpos.line) = true:=by rfl) (hs : starEach (e :: es) X.env = (false,eval e X.env) :: starEach es X.env:=by rfl) (hplain : (backTo cpos (starEach es X.env)).any (·.1) = false:=by rfl) :
    PE X (.Call (.Attribute o name apos) (e :: es) [] cpos) (tBM X.K T r to t):=by
  intro pins s σ H Q I h
  refine wpAny_Call_method_late hbase hfew hline rfl (thn (ho pins s σ H _ I h) fun v s1 ⟨x,H1,I1,r1,ty,q1⟩ => ?_)
  obtain ⟨h1,h2⟩:=tyV_is I1 r1 ty
  refine ⟨T,id,pa,slot,hty,h1,h2,?_⟩
  have hA:=ha cpos pins s1 σ H1 _ I1 q1
  rw [hs] at hA ⊢
  refine Calls.callWith_builtin (by show (false || (backTo cpos (starEach es X.env)).any (·.1)) = false; rw [hplain] <;> rfl) (Calls.evalArgs_plain ?_)
  exact thn hA fun us s2 ⟨vs,H2,I2,r2,q2⟩ => hm pins s2 σ H2 x vs v us Q I2 r1 r2 q2
end
end L2
namespace L2
open PySem PySem.Spec PyProof.Rows
def MtM (X : Cx) (id : String) (r : V → List V → Hp → VK → Prop) : Prop :=
  ∀ (pins : List (Addr × Obj)) (s : Shared) (σ : St) (H : Hp) (x : V) (xs : List V) (v : Value) (us : List Value) (Q : VK),Inv X pins σ H s → RelV x v → Vals xs us → r x xs H Q →
    wpAny (model X.prog X.w) X.A (call (.builtin id) (v :: us)) (EP X pins σ Q) X.xe s
theorem Vals.one : ∀ {x : V} {us : List Value},Vals [x] us → ∃ u,us = [u] ∧ RelV x u
  | _,_,.cons r .nil => ⟨_,rfl,r⟩
theorem Vals.two : ∀ {x y : V} {us : List Value},Vals [x,y] us → ∃ u v,us = [u,v] ∧ RelV x u ∧ RelV y v
  | _,_,_,.cons r (.cons q .nil) => ⟨_,_,rfl,r,q⟩
theorem Vals.zero : ∀ {us : List Value},Vals [] us → us = []
  | _,.nil => rfl
theorem Vals.eraseIdx : ∀ {xs : List V} {us : List Value} (i : Nat),Vals xs us → Vals (xs.eraseIdx i) (us.eraseIdx i)
  | _,_,_,.nil => .nil
  | _,_,0,.cons _ t => t
  | _,_,i + 1,.cons r t => .cons r (Vals.eraseIdx i t)
theorem len_erase {α : Type} : ∀ (l : List α) (i : Nat),(l.eraseIdx i).length ≤ l.length
  | [],_ => Nat.le_refl _
  | _ :: _,0 => Nat.le_succ _
  | _ :: r,i + 1 => Nat.succ_le_succ (len_erase r i)
section
variable {X : Cx} {pins : List (Addr × Obj)} {σ : St} {H : Hp} {s : Shared} {l b : Addr} {xs ys zs : List V}
theorem Inv.lset {its its' : List Value} {n : Nat} {f : Array Value → Array Value} {t' : Nat} (I : Inv X pins σ H s) (hH : H l = some (.lst xs))
    (e : s.heap.get? l = some { cls:=.type "list",data:=.seq its.toArray n }) (hf : f its.toArray = its'.toArray) (hv : Vals ys its') (hz : ys.length ≤ sizeLine) :
    Inv X pins σ (upd H l (.lst ys)) { s with heap:=s.heap.update l (Obj.mapSeq f),toks:=t' }:=by
  have q:=PySem.IsL.update e f
  rw [hf] at q
  refine I.write (x:=l) (e:=l) (by rw [hH]; exact trivial) (.inl rfl) (fun b' u hb hu => (Heap.get?_update_other s.heap (Obj.mapSeq f) (Ne.symm hb)).trans hu) ⟨_,q⟩ ?_
  exact ⟨hz,its',_,hv,q⟩
theorem Inv.lstM (I : Inv X pins σ H s) (hH : H l = some (.lst xs)) : xs.length ≤ sizeLine ∧ ∃ (its : List Value) (n : Nat),Vals xs its ∧ xs.length = its.length ∧ s.heap.get? l = some { cls:=.type "list",data:=.seq its.toArray n }:=by
  obtain ⟨z,its,n,r,e⟩:=I.hok l _ hH
  exact ⟨z,its,n,r,r.length,e⟩
theorem notLongL {n : Nat} (h : n ≤ sizeLine) : Builtin.List.listTooLong n = false:=by
  unfold Builtin.List.listTooLong
  exact decide_eq_false (by omega)
end
section
variable {X : Cx}
def rAppend : V → List V → Hp → VK → Prop:=fun x vs H Q => ∃ l xs y,x = .ref l ∧ vs = [y] ∧ H l = some (.lst xs) ∧ xs.length < sizeLine ∧ Q .non (upd H l (.lst (xs ++ [y])))
theorem mt_append : MtM X "list.append" rAppend:=by
  intro pins s σ H x vs v us Q I rx rv h
  obtain ⟨l,xs,y,rfl,rfl,hH,hz,q⟩:=h
  cases rx
  obtain ⟨u,rfl,ru⟩:=rv.one
  obtain ⟨z,its,n,r,hl,e⟩:=I.lstM hH
  refine call_meets F.slot_list_append ⟨_,e,rfl⟩ F.entry_list_append (F.args_list_append_2 _ _) (PySem.list_append l its.toArray n u (by rw [List.size_toArray]; omega)) ⟨e,?_⟩
  refine ⟨.non,_,I.lset (its':=its ++ [u]) hH e (by simp) (r.append (.cons ru .nil)) ?_,rfl,q⟩
  rw [List.length_append,List.length_singleton]
  omega
def rExtend : V → List V → Hp → VK → Prop:=fun x vs H Q => ∃ l b xs zs,x = .ref l ∧ vs = [.ref b] ∧ H l = some (.lst xs) ∧ H b = some (.lst zs) ∧ xs.length + zs.length ≤ sizeLine ∧ Q .non (upd H l (.lst (xs ++ zs)))
theorem mt_extend : MtM X "list.extend" rExtend:=by
  intro pins s σ H x vs v us Q I rx rv h
  obtain ⟨l,b,xs,zs,rfl,rfl,hH,hB,hz,q⟩:=h
  cases rx
  obtain ⟨u,rfl,ru⟩:=rv.one
  cases ru
  obtain ⟨z,its,n,r,hl,e⟩:=I.lstM hH
  obtain ⟨z2,its2,n2,r2,hl2,e2⟩:=I.lstM hB
  have hsz : its.toArray.size + its2.toArray.size ≤ sizeLine:=by rw [List.size_toArray,List.size_toArray]; omega
  have hlong : ¬ (!its.toArray.isEmpty && Builtin.List.listTooLong (its.toArray.size + its2.toArray.size)) = true:=by
    rw [notLongL hsz,Bool.and_false]
    exact Bool.false_ne_true
  refine call_meets F.slot_list_extend ⟨_,e,rfl⟩ F.entry_list_extend (F.args_list_extend_2 _ _)
    (AutoSeq1.list_extend_list_list_0 l its.toArray n b its2.toArray n2 hlong (by rw [List.size_toArray]; omega) (by omega)) ⟨e,e2,?_⟩
  refine ⟨.non,_,I.lset (its':=its ++ its2) hH e (by simp) (r.append r2) ?_,rfl,q⟩
  rw [List.length_append]
  omega
def rPopAt : V → List V → Hp → VK → Prop:=fun x vs H Q => ∃ l xs i k y,x = .ref l ∧ vs = [.int i] ∧ H l = some (.lst xs) ∧ -(2 ^ 63) ≤ i ∧ i < 2 ^ 63 ∧ seqIndex? i xs.length = some k ∧ xs[k]? = some y ∧ Q y (upd H l (.lst (xs.eraseIdx k)))
theorem mt_popAt : MtM X "list.pop" rPopAt:=by
  intro pins s σ H x vs v us Q I rx rv h
  obtain ⟨l,xs,i,k,y,rfl,rfl,hH,h1,h2,hk,hy,q⟩:=h
  cases rx
  obtain ⟨u,rfl,ru⟩:=rv.one
  obtain ⟨t,rfl⟩:=ru
  obtain ⟨z,its,n,r,hl,e⟩:=I.lstM hH
  obtain ⟨w,hw,rw'⟩:=r.get hy
  refine call_meets F.slot_list_pop ⟨_,e,rfl⟩ F.entry_list_pop (F.args_list_pop_2 _ _)
    (MeetsSeq.list_pop_at l its.toArray n i t k w (fitsIndex_both h1 h2) (by rw [List.size_toArray,← hl]; exact hk) (by rw [← Array.getElem?_toList]; exact hw) (by rw [List.size_toArray]; omega)) ⟨e,?_⟩
  refine ⟨y,_,I.lset (its':=its.eraseIdx k) hH e ?_ (r.eraseIdx k) ?_,rw',q⟩
  · show its.toArray.eraseIdxIfInBounds k = (its.eraseIdx k).toArray
    rw [List.eraseIdxIfInBounds_toArray]
  · have:=len_erase xs k
    omega
end
section
variable {prog : Program} {w : World} {A : Around} {E : Value → Shared → Prop} {s : Shared}
end
section
variable {X : Cx}
end
end L2
namespace L2
open PySem PySem.Spec PyProof.Rows
section
variable {κ : Type} [DecidableEq κ]
def valV (kvs : List (κ × V)) (k : κ) : Option V:=(kvs.find? fun kv => decide (kv.1 = k)).map (·.2)
def putK (kvs : List (κ × V)) (k : κ) (v : V) : List (κ × V) :=
  if (kvs.any fun kv => decide (kv.1 = k)) = true then kvs.map (fun kv => if kv.1 = k then (kv.1,v) else kv) else kvs ++ [(k,v)]
def dropK (kvs : List (κ × V)) (k : κ) : List (κ × V):=kvs.filter fun kv => decide (kv.1 ≠ k)
theorem valV_pos {p : κ × V} {r : List (κ × V)} {k : κ} (e : p.1 = k) : valV (p :: r) k = some p.2:=by simp [valV,List.find?_cons,e]
theorem valV_neg {p : κ × V} {r : List (κ × V)} {k : κ} (e : ¬ p.1 = k) : valV (p :: r) k = valV r k:=by simp [valV,List.find?_cons,e]
theorem valV_any (k : κ) : ∀ kvs : List (κ × V),(kvs.any fun kv => decide (kv.1 = k)) = (valV kvs k).isSome
  | [] => rfl
  | p :: r => by
    rw [List.any_cons]
    by_cases e : p.1 = k
    · simp only [valV_pos e,decide_eq_true e,Bool.true_or,Option.isSome_some]
    · rw [valV_neg e,decide_eq_false e,Bool.false_or]; exact valV_any k r
theorem valV_map (k j : κ) (y : V) : ∀ kvs : List (κ × V),valV (kvs.map fun kv => if kv.1 = k then (kv.1,y) else kv) j = (valV kvs j).map fun x => if j = k then y else x
  | [] => rfl
  | p :: r => by
    have ih:=valV_map k j y r
    rw [List.map_cons]
    by_cases h : p.1 = k
    · rw [if_pos h]
      by_cases e : p.1 = j
      · rw [valV_pos (p:=(p.1,y)) e,valV_pos e,Option.map_some,if_pos (e.symm.trans h)]
      · rw [valV_neg (p:=(p.1,y)) e,valV_neg e,ih]
    · rw [if_neg h]
      by_cases e : p.1 = j
      · rw [valV_pos (p:=p) e,valV_pos e,Option.map_some,if_neg (fun z => h (e.trans z))]
      · rw [valV_neg (p:=p) e,valV_neg e,ih]
theorem valV_snoc (k j : κ) (y : V) : ∀ kvs : List (κ × V),valV kvs k = none → valV (kvs ++ [(k,y)]) j = if j = k then some y else valV kvs j
  | [],_ => by
    by_cases e : k = j
    · rw [if_pos e.symm]; exact valV_pos (p:=(k,y)) e
    · rw [if_neg (fun z => e z.symm)]; exact valV_neg (p:=(k,y)) e
  | p :: r,hn => by
    rw [List.cons_append]
    have hk : ¬ p.1 = k:=fun z => by rw [valV_pos z] at hn; cases hn
    rw [valV_neg hk] at hn
    have ih:=valV_snoc k j y r hn
    by_cases e : p.1 = j
    · rw [valV_pos e,valV_pos e,if_neg (fun z => hk (e.trans z))]
    · rw [valV_neg e,valV_neg e,ih]
theorem valV_put (kvs : List (κ × V)) (k j : κ) (y : V) : valV (putK kvs k y) j = if j = k then some y else valV kvs j:=by
  unfold putK
  by_cases a : (kvs.any fun kv => decide (kv.1 = k)) = true
  · rw [if_pos a,valV_map]
    rw [valV_any] at a
    by_cases e : j = k
    · obtain ⟨x,hx⟩:=Option.isSome_iff_exists.mp a
      rw [if_pos e,e,hx,Option.map_some,if_pos rfl]
    · rw [if_neg e]
      cases valV kvs j with
      | none => rfl
      | some x => rw [Option.map_some,if_neg e]
  · rw [if_neg a]
    refine valV_snoc k j y kvs ?_
    rw [valV_any] at a
    cases q : valV kvs k with
    | none => rfl
    | some x => rw [q] at a; exact (a rfl).elim
theorem length_putK (kvs : List (κ × V)) (k : κ) (v : V) : (putK kvs k v).length ≤ kvs.length + 1:=by
  unfold putK
  split
  · rw [List.length_map]; omega
  · rw [List.length_append,List.length_cons,List.length_nil]; omega
theorem putK_new {kvs : List (κ × V)} {k : κ} (v : V) (h : valV kvs k = none) : putK kvs k v = kvs ++ [(k,v)]:=by
  unfold putK
  rw [valV_any,h]
  exact if_neg (by decide)
theorem RelO.isSome_eq {o : Option V} {u : Option Value} (r : RelO o u) : o.isSome = u.isSome:=by
  cases o with
  | none => cases u with
    | none => rfl
    | some _ => exact (show False from r).elim
  | some _ => cases u with
    | none => exact (show False from r).elim
    | some _ => rfl
theorem RelO.getD {o : Option V} {u : Option Value} {d : V} {d' : Value} (r : RelO o u) (rd : RelV d d') : RelV (o.getD d) (u.getD d'):=by
  cases o with
  | none => cases u with
    | none => exact rd
    | some _ => exact (show False from r).elim
  | some _ => cases u with
    | none => exact (show False from r).elim
    | some _ => exact r
theorem KV.val {kvs : List (κ × V)} {vs : List (κ × Value)} (r : KV kvs vs) (k : κ) : RelO (valV kvs k) (valueAt vs k):=by
  unfold KV at r
  induction r with
  | nil => exact True.intro
  | @cons p q ps qs h t ih =>
    obtain ⟨h1,h2⟩:=h
    by_cases e : p.1 = k
    · have e' : q.1 = k:=h1.symm.trans e
      have b : valueAt (q :: qs) k = some q.2:=by simp [valueAt,List.find?_cons,e']
      rw [valV_pos e,b]; exact h2
    · have e' : ¬ q.1 = k:=fun z => e (h1.trans z)
      have b : valueAt (q :: qs) k = valueAt qs k:=by simp [valueAt,List.find?_cons,e']
      rw [valV_neg e,b]; exact ih
theorem KV.any {kvs : List (κ × V)} {vs : List (κ × Value)} (r : KV kvs vs) (k : κ) : (kvs.any fun kv => decide (kv.1 = k)) = vs.any fun kv => decide (kv.1 = k):=by
  unfold KV at r
  induction r with
  | nil => rfl
  | cons h t ih => rw [List.any_cons,List.any_cons,ih,h.1]
theorem KV.repl {kvs : List (κ × V)} {vs : List (κ × Value)} (r : KV kvs vs) (k : κ) {y : V} {u : Value} (ry : RelV y u) :
    KV (kvs.map fun kv => if kv.1 = k then (kv.1,y) else kv) (vs.map fun kv => if kv.1 = k then (kv.1,u) else kv):=by
  unfold KV at r ⊢
  induction r with
  | nil => exact .nil
  | @cons p q ps qs h t ih =>
    rw [List.map_cons,List.map_cons]
    refine .cons ?_ ih
    obtain ⟨h1,h2⟩:=h
    by_cases e : p.1 = k
    · rw [if_pos e,if_pos (h1.symm.trans e)]; exact ⟨h1,ry⟩
    · rw [if_neg e,if_neg (fun z => e (h1.trans z))]; exact ⟨h1,h2⟩
theorem KV.put {kvs : List (κ × V)} {vs : List (κ × Value)} (r : KV kvs vs) (k : κ) {y : V} {u : Value} (ry : RelV y u) : KV (putK kvs k y) (stored vs k u):=by
  unfold putK stored
  rw [r.any k]
  by_cases e : (vs.any fun kv => decide (kv.1 = k)) = true
  · rw [if_pos e,if_pos e]; exact r.repl k ry
  · rw [if_neg e,if_neg e]; exact Paired.snoc r ⟨rfl,ry⟩
theorem KV.drop {kvs : List (κ × V)} {vs : List (κ × Value)} (r : KV kvs vs) (k : κ) : KV (dropK kvs k) (without vs k):=by
  unfold KV at r ⊢
  unfold dropK without
  induction r with
  | nil => exact .nil
  | @cons p q ps qs h t ih =>
    obtain ⟨h1,h2⟩:=h
    rw [List.filter_cons,List.filter_cons]
    by_cases e : p.1 = k
    · have a : ¬ decide (p.1 ≠ k) = true:=by simp [e]
      have b : ¬ decide (q.1 ≠ k) = true:=by simp [h1.symm.trans e]
      rw [if_neg a,if_neg b]; exact ih
    · have e' : ¬ q.1 = k:=fun z => e (h1.trans z)
      have a : decide (p.1 ≠ k) = true:=by simp [e]
      have b : decide (q.1 ≠ k) = true:=by simp [e']
      rw [if_pos a,if_pos b]; exact .cons ⟨h1,h2⟩ ih
theorem KV.keys {kvs : List (κ × V)} {vs : List (κ × Value)} (r : KV kvs vs) : kvs.map (·.1) = vs.map (·.1):=by
  unfold KV at r
  induction r with
  | nil => rfl
  | cons h t ih => rw [List.map_cons,List.map_cons,ih,h.1]
theorem KV.length {kvs : List (κ × V)} {vs : List (κ × Value)} (r : KV kvs vs) : kvs.length = vs.length:=Paired.length r
theorem dropK_le (kvs : List (κ × V)) (k : κ) : (dropK kvs k).length ≤ kvs.length:=List.length_filter_le _ _
end
theorem kV_is {P : Program} {w : World} {k : Key} {u : Value} (r : RelV (kV k) u) : (mixKind P w).is k u = true:=by
  cases k with
  | inl i => obtain ⟨t,e⟩:=(show ∃ t,u = Value.int i t from r); subst e; exact mixKind_int P w i t
  | inr x => obtain ⟨t,e⟩:=(show ∃ t,u = Value.str x t from r); subst e; exact mixKind_str P w x t
theorem items_are {P : Program} {w : World} : ∀ {ks : List Key} {us : List Value},Vals (ks.map kV) us → ItemsAre (mixKind P w) ks us
  | [],_,r => by rw [List.map_nil] at r; cases r; exact .nil
  | k :: ks,_,r => by
    rw [List.map_cons] at r
    cases r with
    | cons h t => exact .cons (kV_is h) (items_are t)
abbrev KT (H : Hp) : List (List Key × V) → List (List Key × Addr × Value) → Prop:=Paired fun p q => p.1 = q.1 ∧ H q.2.1 = some (.tup (p.1.map kV)) ∧ RelV p.2 q.2.2
theorem KT.val {H : Hp} {kvs : List (List Key × V)} {xs : List (List Key × Addr × Value)} (r : KT H kvs xs) (k : List Key) : RelO (valV kvs k) ((atKey xs k).map (·.2)):=by
  induction r with
  | nil => exact True.intro
  | @cons p q ps qs h t ih =>
    obtain ⟨h1,_,h2⟩:=h
    by_cases e : p.1 = k
    · have e' : q.1 = k:=h1.symm.trans e
      have b : atKey (q :: qs) k = some q.2:=by simp [atKey,List.find?_cons,e']
      rw [valV_pos e,b]; exact h2
    · have e' : ¬ q.1 = k:=fun z => e (h1.trans z)
      have b : atKey (q :: qs) k = atKey qs k:=by simp [atKey,List.find?_cons,e']
      rw [valV_neg e,b]; exact ih
theorem KT.repl {H : Hp} {kvs : List (List Key × V)} {xs : List (List Key × Addr × Value)} (r : KT H kvs xs) (k : List Key) {y : V} {u : Value} (ry : RelV y u) :
    KT H (kvs.map fun kv => if kv.1 = k then (kv.1,y) else kv) (xs.map (putAt k u)):=by
  induction r with
  | nil => exact .nil
  | @cons p q ps qs h t ih =>
    rw [List.map_cons,List.map_cons]
    refine .cons ?_ ih
    obtain ⟨h1,h2,h3⟩:=h
    unfold putAt
    by_cases e : p.1 = k
    · rw [if_pos e,if_pos (h1.symm.trans e)]; exact ⟨h1,h2,ry⟩
    · rw [if_neg e,if_neg (fun z => e (h1.trans z))]; exact ⟨h1,h2,h3⟩
theorem KT.put {H : Hp} {kvs : List (List Key × V)} {xs : List (List Key × Addr × Value)} (r : KT H kvs xs) (k : List Key) {b : Addr} {y : V} {u : Value} (hb : H b = some (.tup (k.map kV))) (ry : RelV y u) :
    KT H (putK kvs k y) (storedH xs k b u):=by
  have e : (kvs.any fun kv => decide (kv.1 = k)) = (atKey xs k).isSome:=by
    rw [valV_any,(r.val k).isSome_eq,Option.isSome_map]
  unfold putK storedH
  rw [e]
  by_cases q : (atKey xs k).isSome = true
  · rw [if_pos q,if_pos q]; exact r.repl k ry
  · rw [if_neg q,if_neg q]; exact Paired.snoc r ⟨rfl,hb,ry⟩
theorem KT.keeps {H H' : Hp} {kvs : List (List Key × V)} {xs : List (List Key × Addr × Value)} (r : KT H kvs xs) (ht : ∀ b ys,H b = some (.tup ys) → H' b = some (.tup ys)) : KT H' kvs xs :=
  Paired.mapP r fun _ _ z => ⟨z.1,ht _ _ z.2.1,z.2.2⟩
section
variable {P : Program} {w : World} {H : Hp} {h : Heap} {a : Addr}
theorem rd_of {u : HO} (ok : HOk P w H h) (e : Rd H a u) : ObjOk P w H h a u:=e.ok ok
theorem dk_rd {kvs : List (Key × V)} (ok : HOk P w H h) (e : Rd H a (.dK kvs)) : kvs.length ≤ sizeLine ∧ (a == sysModules) = false ∧ ∃ vs,KV kvs vs ∧ h.DictOf (mixKind P w) a vs :=
  show ObjOk P w H h a (.dK kvs) from rd_of ok e
theorem dk_of {kvs : List (Key × V)} (ok : HOk P w H h) (e : H a = some (.dK kvs)) : kvs.length ≤ sizeLine ∧ (a == sysModules) = false ∧ ∃ vs,KV kvs vs ∧ h.DictOf (mixKind P w) a vs:=dk_rd ok (.inl e)
theorem key_of {ks : List Key} (ok : HOk P w H h) (e : H a = some (.tup (ks.map kV))) : (tupleKind (mixKind P w)).is h ks a:=by
  obtain ⟨_,its,r,o,h1,h2,n,h3⟩:=(show ObjOk P w H h a (.tup (ks.map kV)) from ok a _ e)
  exact ⟨o,its.toArray,n,h1,h2,h3,by simpa using items_are r⟩
theorem dt_rd {kvs : List (List Key × V)} (ok : HOk P w H h) (e : Rd H a (.dT kvs)) : kvs.length ≤ sizeLine ∧ (a == sysModules) = false ∧
    ∃ xs,KT H kvs xs ∧ h.DictOfH (tupleKind (mixKind P w)) a xs:=by
  obtain ⟨z,y,xs,r,o,es,ep,h1,h2,h3,h4,h5⟩:=(show ObjOk P w H h a (.dT kvs) from rd_of ok e)
  refine ⟨z,y,xs,r,o,es,ep,h1,h2,h3,h4,fun x hx => ?_,h5⟩
  have all : ∀ {l : List (List Key × V)} {m : List (List Key × Addr × Value)},KT H l m → ∀ x ∈ m,(tupleKind (mixKind P w)).is h x.1 x.2.1:=by
    intro l m q
    induction q with
    | nil => intro x hx; exact nomatch hx
    | @cons p q ps qs hq t ih =>
      intro x hx
      rcases List.mem_cons.mp hx with e | hx
      · subst e
        exact key_of ok (by rw [← hq.1]; exact hq.2.1)
      · exact ih x hx
  exact all r x hx
theorem dt_of {kvs : List (List Key × V)} (ok : HOk P w H h) (e : H a = some (.dT kvs)) : kvs.length ≤ sizeLine ∧ (a == sysModules) = false ∧
    ∃ xs,KT H kvs xs ∧ h.DictOfH (tupleKind (mixKind P w)) a xs:=dt_rd ok (.inl e)
end
def DGet (H : Hp) (a : Addr) (y : V) (r : Option V) : Prop :=
  (∃ kvs k,Rd H a (.dK kvs) ∧ y = kV k ∧ r = valV kvs k) ∨ ∃ kvs k b,Rd H a (.dT kvs) ∧ y = .ref b ∧ H b = some (.tup (k.map kV)) ∧ r = valV kvs k
def DPut (H : Hp) (a : Addr) (y v : V) (H' : Hp) : Prop :=
  (∃ kvs k,H a = some (.dK kvs) ∧ y = kV k ∧ kvs.length < sizeLine ∧ H' = upd H a (.dK (putK kvs k v))) ∨
  ∃ kvs k b,H a = some (.dT kvs) ∧ y = .ref b ∧ H b = some (.tup (k.map kV)) ∧ kvs.length < sizeLine ∧ H' = upd H a (.dT (putK kvs k v))
theorem DGet.k {H : Hp} {a : Addr} {kvs : List (Key × V)} {k : Key} (e : H a = some (.dK kvs)) : DGet H a (kV k) (valV kvs k):=.inl ⟨kvs,k,.inl e,rfl,rfl⟩
theorem DGet.t {H : Hp} {a b : Addr} {kvs : List (List Key × V)} {k : List Key} (e : H a = some (.dT kvs)) (eb : H b = some (.tup (k.map kV))) : DGet H a (.ref b) (valV kvs k):=.inr ⟨kvs,k,b,.inl e,rfl,eb,rfl⟩
theorem DPut.k {H : Hp} {a : Addr} {kvs : List (Key × V)} {k : Key} {v : V} (e : H a = some (.dK kvs)) (hl : kvs.length < sizeLine) : DPut H a (kV k) v (upd H a (.dK (putK kvs k v))):=.inl ⟨kvs,k,e,rfl,hl,rfl⟩
theorem DPut.t {H : Hp} {a b : Addr} {kvs : List (List Key × V)} {k : List Key} {v : V} (e : H a = some (.dT kvs)) (eb : H b = some (.tup (k.map kV))) (hl : kvs.length < sizeLine) :
    DPut H a (.ref b) v (upd H a (.dT (putK kvs k v))):=.inr ⟨kvs,k,b,e,rfl,eb,hl,rfl⟩
section
variable {X : Cx} {pins : List (Addr × Obj)} {σ : St} {H : Hp} {s : Shared} {a : Addr} {y v : V} {u r : Value} {o : Option V} {A : Around} {E : Value → Shared → Prop}
theorem Inv.big (I : Inv X pins σ H s) : sysModules < s.heap.objs.size:=by
  have h : mainGlobals < s.heap.objs.size:=(I.mod.glob.keeps I.bk).lt
  exact Nat.lt_trans (by decide) h
theorem d_getItem {Q : Value → Shared → Prop} (hu : A.units + 1 < cLine) (I : Inv X pins σ H s) (g : DGet H a y (some v)) (ry : RelV y u) (h : ∀ w' s',Inv X pins σ H s' → RelV v w' → Q w' s') :
    wpAny (model X.prog X.w) A (getItem (.ref a) u) Q E s:=by
  rcases g with ⟨kvs,k,e,ey,l⟩ | ⟨kvs,k,b,e,ey,eb,l⟩
  · subst ey
    obtain ⟨z,hd,vs,rel,dd⟩:=dk_rd I.hok e
    obtain ⟨w',hw,rw'⟩:=RelO.some_of (v:=v) (o:=valueAt vs k) (by rw [l]; exact rel.val k)
    exact wpAny_getItem_of (kV_is ry) dd.mapOf hw (h w' _ (I.tok _) rw')
  · subst ey
    cases (show u = Value.ref b from ry)
    obtain ⟨z,hd,xs,rel,dd⟩:=dt_rd I.hok e
    obtain ⟨w',hw,rw'⟩:=RelO.some_of (v:=v) (o:=(atKey xs k).map (·.2)) (by rw [l]; exact rel.val k)
    obtain ⟨p,hp,hp2⟩:=Option.map_eq_some_iff.mp hw
    refine wpAny_getItem_heap (tupleKind_room_in1 hu) (key_of I.hok eb) dd hp ?_
    rw [hp2]
    exact h w' _ (I.tok _) rw'
theorem d_in {Q : Value → Shared → Prop} (hu : A.units + 1 < cLine) (I : Inv X pins σ H s) (g : DGet H a y o) (ry : RelV y u) (h : ∀ s',Inv X pins σ H s' → Q (.bool o.isSome) s') :
    wpAny (model X.prog X.w) A (compareOp .In u (.ref a)) Q E s:=by
  rcases g with ⟨kvs,k,e,ey,l⟩ | ⟨kvs,k,b,e,ey,eb,l⟩
  · subst ey
    obtain ⟨z,hd,vs,rel,dd⟩:=dk_rd I.hok e
    refine wpAny_in_of (kV_is ry) hd dd.mapOf ?_
    rw [← (rel.val k).isSome_eq,← l]
    exact h _ (I.tok _)
  · subst ey
    cases (show u = Value.ref b from ry)
    obtain ⟨z,hd,xs,rel,dd⟩:=dt_rd I.hok e
    refine wpAny_in_heap (tupleKind_room_in1 hu) (key_of I.hok eb) hd dd ?_
    have q:=(rel.val k).isSome_eq
    rw [Option.isSome_map] at q
    rw [← q,← l]
    exact h _ (I.tok _)
theorem d_notIn {Q : Value → Shared → Prop} (hu : A.units + 1 < cLine) (I : Inv X pins σ H s) (g : DGet H a y o) (ry : RelV y u) (h : ∀ s',Inv X pins σ H s' → Q (.bool (!o.isSome)) s') :
    wpAny (model X.prog X.w) A (compareOp .NotIn u (.ref a)) Q E s:=by
  rcases g with ⟨kvs,k,e,ey,l⟩ | ⟨kvs,k,b,e,ey,eb,l⟩
  · subst ey
    obtain ⟨z,hd,vs,rel,dd⟩:=dk_rd I.hok e
    refine wpAny_notIn_of (kV_is ry) hd dd.mapOf ?_
    rw [← (rel.val k).isSome_eq,← l]
    exact h _ (I.tok _)
  · subst ey
    cases (show u = Value.ref b from ry)
    obtain ⟨z,hd,xs,rel,dd⟩:=dt_rd I.hok e
    refine wpAny_notIn_heap (tupleKind_room_in1 hu) (key_of I.hok eb) hd dd ?_
    have q:=(rel.val k).isSome_eq
    rw [Option.isSome_map] at q
    rw [← q,← l]
    exact h _ (I.tok _)
theorem d_write {h' : Heap} {t' : Nat} {ob : HO} (I : Inv X pins σ H s) (mu : Mut (H a)) (hs : Heap.SameBut a s.heap h') (he : ∃ q,h'.get? a = some q) (new : ObjOk X.prog X.w (upd H a ob) h' a ob) :
    Inv X pins σ (upd H a ob) { s with heap:=h',toks:=t' } :=
  I.write (x:=a) (e:=a) mu (.inl rfl) (fun b q hb z => (hs.2 b hb).trans z) he new
theorem dk_new {P : Program} {w : World} {H' : Hp} {h' : Heap} {kvs : List (Key × V)} {vs : List (Key × Value)} (z : kvs.length ≤ sizeLine) (hd : (a == sysModules) = false) (rel : KV kvs vs) (dd : h'.DictOf (mixKind P w) a vs) :
    ObjOk P w H' h' a (.dK kvs):=⟨z,hd,vs,rel,dd⟩
theorem d_setItem {H' : Hp} {Q : Unit → Shared → Prop} (hu : A.units + 1 < cLine) (I : Inv X pins σ H s) (g : DPut H a y v H') (ry : RelV y u) (rv : RelV v r) (h : ∀ s',Inv X pins σ H' s' → Q () s') :
    wpAny (model X.prog X.w) A (setItem (.ref a) u r) Q E s:=by
  rcases g with ⟨kvs,k,e,ey,l,eH⟩ | ⟨kvs,k,b,e,ey,eb,l,eH⟩
  · subst ey eH
    obtain ⟨z,hd,vs,rel,dd⟩:=dk_of I.hok e
    have hz : vs.length ≤ sizeLine:=by rw [← rel.length]; exact z
    have hl : (putK kvs k v).length ≤ sizeLine:=by have:=length_putK kvs k v; omega
    refine wpAny_setItem_pairs (hsz:=hz) (kV_is ry) dd fun h' dd' hs => h _ ?_
    have he : ∃ q,h'.get? a = some q:=let ⟨q,_,_,hq,_⟩:=dd'; ⟨q,hq⟩
    exact d_write I (by rw [e]; exact True.intro) hs he (dk_new hl hd (rel.put k rv) dd')
  · subst ey eH
    cases (show u = Value.ref b from ry)
    obtain ⟨z,hd,xs,rel,dd⟩:=dt_of I.hok e
    have hz : xs.length ≤ sizeLine:=by rw [← Paired.length rel]; exact z
    have hl : (putK kvs k v).length ≤ sizeLine:=by have:=length_putK kvs k v; omega
    refine wpAny_setItem_heap (hsz:=hz) (tupleKind_room_in1 hu) (key_of I.hok eb) dd fun h' dd' hs => h _ ?_
    obtain ⟨q,es,ep,hq,h2,h3,h4,_,h5⟩:=dd'
    refine d_write I (by rw [e]; exact True.intro) hs ⟨q,hq⟩ ⟨hl,hd,_,(rel.put k eb rv).keeps fun c ys ec => ?_,q,es,ep,hq,h2,h3,h4,h5⟩
    rw [upd_ne (ne_of ec e (fun z => nomatch z))]
    exact ec
end
section
variable {X : Cx} {pins : List (Addr × Obj)} {σ : St} {H : Hp} {s : Shared} {a : Addr} {kvs : List (Key × V)} {k : Key} {u : Value} {A : Around} {E : Value → Shared → Prop}
theorem d_pop {v : V} {more : List Value} {Q : Value → Shared → Prop} (I : Inv X pins σ H s) (e : H a = some (.dK kvs)) (ry : RelV (kV k) u) (l : valV kvs k = some v) (hm : more = [] ∨ ∃ x,more = [x])
    (h : ∀ w' s',Inv X pins σ (upd H a (.dK (dropK kvs k))) s' → RelV v w' → Q w' s') : wpAny (model X.prog X.w) A (call (.builtin "dict.pop") (.ref a :: u :: more)) Q E s:=by
  obtain ⟨z,hd,vs,rel,dd⟩:=dk_of I.hok e
  obtain ⟨w',hw,rw'⟩:=RelO.some_of (v:=v) (o:=valueAt vs k) (by rw [← l]; exact rel.val k)
  have hp : (keyPart u).isSome = true:=by
    cases k with
    | inl i => obtain ⟨t,q⟩:=(show ∃ t,u = Value.int i t from ry); subst q; rfl
    | inr x => obtain ⟨t,q⟩:=(show ∃ t,u = Value.str x t from ry); subst q; rfl
  have ha : argsOk "dict.pop" ⟨.ref a :: u :: more,[]⟩:=by
    rcases hm with q | ⟨x,q⟩
    · subst q; exact PySem.F.args_dict_pop_2 _ _
    · subst q; exact PySem.F.args_dict_pop_3 _ _ _
  refine call_meetsIn PySem.F.slot_dict_pop dd.typeIs PySem.F.entry_dict_pop ha (meets_dict_pop_there (mixKind X.prog X.w) a (kV_is ry) more hm hp)
    ⟨vs,w',dd,by rw [← rel.length]; exact z,hw,fun h' dd' hs => h w' _ ?_ rw'⟩
  have he : ∃ q,h'.get? a = some q:=let ⟨q,_,_,hq,_⟩:=dd'; ⟨q,hq⟩
  exact d_write I (by rw [e]; exact True.intro) hs he (dk_new (Nat.le_trans (dropK_le kvs k) z) hd (rel.drop k) dd')
theorem d_len {Q : Value → Shared → Prop} (I : Inv X pins σ H s) (e : Rd H a (.dK kvs)) (h : ∀ t s',Inv X pins σ H s' → Q (.int kvs.length t) s') : wpAny (model X.prog X.w) A (call (.builtin "len") [.ref a]) Q E s:=by
  obtain ⟨z,hd,vs,rel,dd⟩:=dk_rd I.hok e
  refine call_len_dict hd dd (by rw [← rel.length]; rw [sizeLine_eq] at z; omega) ?_
  rw [← rel.length]
  exact h _ _ (I.tok _)
end
def NoSl (i : Expr) : Prop:=∀ ov iv,subscripted i false ov iv = operate [ov,iv] (getItem ov iv)
theorem subD_of {prog : Program} {w : World} {A : Around} {E : Value → Shared → Prop} {s : Shared} {env : Env} {value slice : Expr} {pos : Pos} {T id : String} {Q : Value → Shared → Prop}
    (hl : typeLookup (.type T) "__getitem__" = pure (some (.builtin id))) (hs : NoSl slice)
    (h : wpAny (model prog w) A (eval value env) (fun o s₁ => wpAny (model prog w) A (eval slice env) (fun i s₂ => s₂.TypeIs o T ∧ wpAny (model prog w) A (getItem o i) Q E s₂) E s₁) E s) :
    wpAny (model prog w) A (eval (.Subscript value slice pos) env) Q E s:=by
  refine Subscript_ (wpAny_mono h (fun o s₁ h₁ => wpAny_mono h₁ (fun i s₂ h₂ => ?_) fun _ _ x => x) fun _ _ x => x)
  obtain ⟨hT,h₂⟩:=h₂
  unfold subscriptTail
  refine wpAny_bind ?_
  rw [getitemInPython_of_ne hT.not_modules]
  refine wpAny_bind (wpAny_specialOf hT hl ?_)
  have fin : wpAny (model prog w) A (subscripted slice false o i) (fun r s₃ => wpAny (model prog w) A (letTemporaryGo value o r >>= fun _ => pure r) Q E s₃) E s₂:=by
    rw [hs o i]
    exact wpAny_operating (wpAny_mono h₂ (fun r s₃ h₃ => wpAny_bind (wpAny_letTemporaryGo (wpAny_pure h₃))) fun _ _ x => x)
  first
    | exact wpAny_pure (wpAny_bind fin)
    | exact wpAny_bind (wpAny_pure (wpAny_bind fin))
    | exact wpAny_bind fin
theorem dict_typeIs {X : Cx} {pins : List (Addr × Obj)} {σ : St} {H : Hp} {s : Shared} {a : Addr} {y : V} {o : Option V} (I : Inv X pins σ H s) (g : DGet H a y o) : s.TypeIs (.ref a) "dict":=by
  rcases g with ⟨kvs,k,e,_,_⟩ | ⟨kvs,k,b,e,_,_,_⟩
  · obtain ⟨_,_,vs,_,dd⟩:=dk_rd I.hok e
    exact dd.typeIs
  · obtain ⟨_,_,xs,_,dd⟩:=dt_rd I.hok e
    exact dd.typeIs
def tDGet (td ty : TE) : TE:=fun σ H Q => td σ H fun x H1 => ty σ H1 fun y H2 => ∃ a v,x = .ref a ∧ DGet H2 a y (some v) ∧ Q v H2
def tDIn (ty td : TE) : TE:=fun σ H Q => ty σ H fun y H1 => td σ H1 fun x H2 => ∃ a o,x = .ref a ∧ DGet H2 a y o ∧ Q (.bl o.isSome) H2
def tDNotIn (ty td : TE) : TE:=fun σ H Q => ty σ H fun y H1 => td σ H1 fun x H2 => ∃ a o,x = .ref a ∧ DGet H2 a y o ∧ Q (.bl (!o.isSome)) H2
def sDPut (td ty tv : TE) : TS:=fun D σ H => tv σ H fun v H1 => td σ H1 fun x H2 => ty σ H2 fun y H3 => ∃ a H4,x = .ref a ∧ DPut H3 a y v H4 ∧ D.nx σ H4
section
variable {X : Cx} {o i e value : Expr} {pos pos' tpos : Pos} {td ty tv : TE}
theorem pe_dget (hu : X.A.units + 1 < cLine) (ho : PE X o td) (hi : PE X i ty) (hs : NoSl i) : PE X (.Subscript o i pos) (tDGet td ty):=by
  intro pins s σ H Q I h
  refine subD_of PySem.F.slot_dict_getitem.lookup hs (thn (ho pins s σ H _ I h) fun u s1 ⟨x,H1,I1,rx,q1⟩ => thn (hi pins s1 σ H1 _ I1 q1) fun iv s2 ⟨y,H2,I2,ry,a,v,ex,g,q2⟩ => ?_)
  subst ex
  obtain rfl : u = Value.ref a:=rx
  exact ⟨dict_typeIs I2 g,d_getItem hu I2 g ry fun w' s3 I3 rw' => ⟨v,H2,I3,rw',q2⟩⟩
theorem pc_din (hu : X.A.units + 1 < cLine) (hi : PE X i ty) (ho : PE X o td) : PC X .In i o (tDIn ty td):=by
  intro pins s σ H Q I h
  refine thn (hi pins s σ H _ I h) fun iv s1 ⟨y,H1,I1,ry,q1⟩ => thn (ho pins s1 σ H1 _ I1 q1) fun u s2 ⟨x,H2,I2,rx,a,ov,ex,g,q2⟩ => ?_
  subst ex
  obtain rfl : u = Value.ref a:=rx
  exact d_in hu I2 g ry fun s3 I3 => ⟨.bl ov.isSome,H2,I3,rfl,q2⟩
theorem pc_dnotin (hu : X.A.units + 1 < cLine) (hi : PE X i ty) (ho : PE X o td) : PC X .NotIn i o (tDNotIn ty td):=by
  intro pins s σ H Q I h
  refine thn (hi pins s σ H _ I h) fun iv s1 ⟨y,H1,I1,ry,q1⟩ => thn (ho pins s1 σ H1 _ I1 q1) fun u s2 ⟨x,H2,I2,rx,a,ov,ex,g,q2⟩ => ?_
  subst ex
  obtain rfl : u = Value.ref a:=rx
  exact d_notIn hu I2 g ry fun s3 I3 => ⟨.bl (!ov.isSome),H2,I3,rfl,q2⟩
theorem ps_dput (hu : X.A.units + 1 < cLine) (ho : PE X o td) (hi : PE X i ty) (hv : PE X value tv) (hs : swapsWith value (some (.Subscript o i pos')) pos.line X.env = pure false) :
    PS X (.Assign [.Subscript o i pos'] value pos) (sDPut td ty tv):=by
  intro pins s σ H D I h
  refine wpAny_Assign_Subscript (thn (hv pins s σ H _ I h) fun r s1 ⟨v,H1,I1,rv,q1⟩ => thn (ho pins s1 σ H1 _ I1 q1) fun u s2 ⟨x,H2,I2,rx,q2⟩ => thn (hi pins s2 σ H2 _ I2 q2) fun iv s3 ⟨y,H3,I3,ry,a,H4,ex,g,q3⟩ => ?_) hs
  subst ex
  obtain rfl : u = Value.ref a:=rx
  exact d_setItem hu I3 g ry rv fun s4 I4 => ⟨σ,H4,I4,q3⟩
end
theorem dk_empty {P : Program} {w : World} {H : Hp} (h : Heap) (hb : sysModules < h.objs.size) : ObjOk P w H (h.push { cls:=.type "dict",data:=.dict #[] }) h.objs.size (.dK []) :=
  ⟨Nat.zero_le _,beq_eq_false_iff_ne.mpr (Ne.symm (Nat.ne_of_lt hb)),[],.nil,Heap.DictOf.new h⟩
theorem dt_empty {P : Program} {w : World} {H : Hp} (h : Heap) (hb : sysModules < h.objs.size) : ObjOk P w H (h.push { cls:=.type "dict",data:=.dict #[] }) h.objs.size (.dT []) :=
  ⟨Nat.zero_le _,beq_eq_false_iff_ne.mpr (Ne.symm (Nat.ne_of_lt hb)),[],.nil,_,#[],0,Heap.get?_push_size _ rfl,⟨rfl,rfl,rfl⟩,rfl,rfl,List.nodup_nil⟩
def tDNewK : TE:=fun _ H Q => ∀ p,H p = none → Q (.ref p) (upd H p (.dK []))
def tDNewT : TE:=fun _ H Q => ∀ p,H p = none → Q (.ref p) (upd H p (.dT []))
section
variable {X : Cx} {pos : Pos}
theorem pe_dnewK : PE X (.Dict [] [] pos) tDNewK:=fun pins s σ H Q I h =>
  wpAny_Dict_empty ⟨.ref s.heap.objs.size,_,I.laid (a:=s.heap.objs.size) (o:=.dK []) (t':=s.toks) (fun _ _ q => Heap.get?_push_of_some _ q) (Nat.le_refl _) (dk_empty s.heap I.big),rfl,h _ (I.hok.fresh (Nat.le_refl _))⟩
theorem pe_dnewT : PE X (.Dict [] [] pos) tDNewT:=fun pins s σ H Q I h =>
  wpAny_Dict_empty ⟨.ref s.heap.objs.size,_,I.laid (a:=s.heap.objs.size) (o:=.dT []) (t':=s.toks) (fun _ _ q => Heap.get?_push_of_some _ q) (Nat.le_refl _) (dt_empty s.heap I.big),rfl,h _ (I.hok.fresh (Nat.le_refl _))⟩
end
def tPairs : List (TE × TE) → St → Hp → (List (V × V) → Hp → Prop) → Prop
  | [],_,H,Q => Q [] H
  | (tk,tv) :: r,σ,H,Q => tk σ H fun x H1 => tv σ H1 fun y H2 => tPairs r σ H2 fun ps H3 => Q ((x,y) :: ps) H3
abbrev VV : List (V × V) → List (Value × Value) → Prop:=Paired fun p q => RelV p.1 q.1 ∧ RelV p.2 q.2
def PPs (X : Cx) (pos : Pos) (keys : List (Option Expr)) (values : List Expr) (trs : List (TE × TE)) : Prop :=
  ∀ (pins : List (Addr × Obj)) (s : Shared) (σ : St) (H : Hp) (Q : List (V × V) → Hp → Prop),Inv X pins σ H s → tPairs trs σ H Q →
    wpAny (model X.prog X.w) X.A (evalPairs (pairTrees keys values X.env pos)) (fun vs s' => ∃ ps H',Inv X pins σ H' s' ∧ VV ps vs ∧ Q ps H') X.xe s
theorem pps_nil {X : Cx} {pos : Pos} : PPs X pos [] [] []:=fun pins s σ H Q I h => pairTrees_nil_walk ⟨[],H,I,.nil,h⟩
theorem pps_cons {X : Cx} {pos : Pos} {k v : Expr} {ks : List (Option Expr)} {vs : List Expr} {tk tv : TE} {trs : List (TE × TE)} (hk : PE X k tk) (hv : PE X v tv) (hr : PPs X pos ks vs trs) :
    PPs X pos (some k :: ks) (v :: vs) ((tk,tv) :: trs):=fun pins s σ H Q I h =>
  pairTrees_cons_walk (thn (hk pins s σ H _ I h) fun u s1 ⟨x,H1,I1,rx,q1⟩ => thn (hv pins s1 σ H1 _ I1 q1) fun w2 s2 ⟨y,H2,I2,ry,q2⟩ =>
    thn (hr pins s2 σ H2 _ I2 q2) fun ws s3 ⟨ps,H3,I3,rel,q3⟩ => ⟨(x,y) :: ps,H3,I3,.cons ⟨rx,ry⟩ rel,q3⟩)
def mergeK (kvs more : List (Key × V)) : List (Key × V):=more.foldl (fun acc kv => putK acc kv.1 kv.2) kvs
theorem KV.merge : ∀ {more : List (Key × V)} {rs : List (Key × Value)} {kvs : List (Key × V)} {vs : List (Key × Value)},KV more rs → KV kvs vs → KV (mergeK kvs more) (merged vs rs):=by
  intro more rs kvs vs r
  unfold KV at r
  induction r generalizing kvs vs with
  | nil => intro q; exact q
  | @cons p q ps qs h t ih =>
    intro r0
    have e : KV (putK kvs p.1 p.2) (stored vs q.1 q.2):=by
      have:=r0.put p.1 h.2
      rw [← h.1]; exact this
    exact ih e
theorem length_mergeK : ∀ (more kvs : List (Key × V)),(mergeK kvs more).length ≤ kvs.length + more.length
  | [],kvs => by show kvs.length ≤ kvs.length + 0; omega
  | p :: r,kvs => by
    have h1:=length_mergeK r (putK kvs p.1 p.2)
    have h2:=length_putK kvs p.1 p.2
    show (mergeK (putK kvs p.1 p.2) r).length ≤ _
    rw [List.length_cons]; omega
theorem carries_of {P : Program} {w : World} : ∀ {kvs : List (Key × V)} {ws : List (Value × Value)},VV (kvs.map fun kv => (kV kv.1,kv.2)) ws → ∃ rs,Carries (mixKind P w) ws rs ∧ KV kvs rs
  | [],_,r => by rw [List.map_nil] at r; cases r; exact ⟨[],True.intro,.nil⟩
  | p :: kvs,_,r => by
    rw [List.map_cons] at r
    cases r with
    | @cons a b as bs h t =>
      obtain ⟨rs,c,q⟩:=carries_of (P:=P) (w:=w) t
      obtain ⟨b1,b2⟩:=b
      exact ⟨(p.1,b2) :: rs,⟨kV_is h.1,rfl,c⟩,.cons ⟨rfl,h.2⟩ q⟩
def tDisp (trs : List (TE × TE)) : TE:=fun σ H Q => ∀ p,H p = none → tPairs trs σ (upd H p (.dK [])) fun ps H2 => H2 p = some (.dK []) ∧ ∃ kvs : List (Key × V),ps = kvs.map (fun kv => (kV kv.1,kv.2)) ∧ kvs.length ≤ 15 ∧ Q (.ref p) (upd H2 p (.dK (mergeK [] kvs)))
theorem pe_disp {X : Cx} {pos : Pos} {keys : List (Option Expr)} {values : List Expr} {trs : List (TE × TE)} (h : PPs X pos keys values trs) (hall : keys.all (·.isSome) = true) (hl : keys.length = values.length) (h0 : keys ≠ [])
    (h15 : keys.length ≤ 15) : PE X (.Dict keys values pos) (tDisp trs):=by
  intro pins s σ H Q I q
  have hn:=I.hok.fresh (Nat.le_refl s.heap.objs.size)
  have I1:=I.laid (a:=s.heap.objs.size) (o:=.dK []) (h':=s.heap.push { cls:=.type "dict",data:=.dict #[] }) (t':=s.toks) (fun _ _ q => Heap.get?_push_of_some _ q) (Nat.le_refl _) (dk_empty s.heap I.big)
  refine wpAny_Dict_walk (knd:=mixKind X.prog X.w) hall hl h0 h15 (thn (h pins _ σ _ _ I1 (q _ hn)) fun ws s2 ⟨ps,H2,I2,rel,e,kvs,ep,lk,q2⟩ => ?_)
  subst ep
  obtain ⟨rs,c,rk⟩:=carries_of (P:=X.prog) (w:=X.w) rel
  obtain ⟨z,hd,vs0,r0,dd⟩:=dk_of I2.hok e
  cases r0
  refine ⟨rs,c,dd,fun h' dd' hs => ⟨.ref s.heap.objs.size,_,?_,rfl,q2⟩⟩
  have hz : (mergeK [] kvs).length ≤ sizeLine:=by
    have h1:=length_mergeK kvs []
    rw [List.length_nil] at h1
    rw [sizeLine_eq]; omega
  have he : ∃ q,h'.get? s.heap.objs.size = some q:=let ⟨q,_,_,hq,_⟩:=dd'; ⟨q,hq⟩
  exact d_write I2 (by rw [e]; exact True.intro) hs he (dk_new hz hd (rk.merge .nil) dd')
structure M1 (X : Cx) (o : Expr) (m : Str) (apos : Pos) (e : Expr) (cpos : Pos) : Prop where
  base : attributeBase o m X.env (eval o X.env) = eval o X.env
  few : ((backTo cpos (starEach [e] X.env)).all (fun x => !x.1) && (backToKw cpos (keywordEach [] X.env)).all (fun x => x.1.isSome)
    && decide (([e] : List Expr).length + ([] : List Keyword).length + (if ([] : List Keyword).isEmpty then 0 else 1) < 30)) = true
  line : (apos.endLine == cpos.line) = true
  trees : backTo cpos (starEach [e] X.env) = [(false,eval e X.env)]
structure M2 (X : Cx) (o : Expr) (m : Str) (apos : Pos) (e f : Expr) (cpos : Pos) : Prop where
  base : attributeBase o m X.env (eval o X.env) = eval o X.env
  few : ((backTo cpos (starEach [e,f] X.env)).all (fun x => !x.1) && (backToKw cpos (keywordEach [] X.env)).all (fun x => x.1.isSome)
    && decide (([e,f] : List Expr).length + ([] : List Keyword).length + (if ([] : List Keyword).isEmpty then 0 else 1) < 30)) = true
  line : (apos.endLine == cpos.line) = true
  trees : backTo cpos (starEach [e,f] X.env) = [(false,eval e X.env),(false,eval f X.env)]
def IsD (H : Hp) (a : Addr) : Prop:=(∃ kvs,Rd H a (.dK kvs)) ∨ ∃ kvs,Rd H a (.dT kvs)
theorem isD_at {X : Cx} {pins : List (Addr × Obj)} {σ : St} {H : Hp} {s : Shared} {a : Addr} (I : Inv X pins σ H s) (d : IsD H a) :
    s.TypeIs (.ref a) "dict" ∧ (∀ b,Value.ref a = .ref b → ∃ ob,s.heap.get? b = some ob ∧ ob.dict = none) ∧ (a == sysModules) = false:=by
  rcases d with ⟨kvs,e⟩ | ⟨kvs,e⟩
  · obtain ⟨_,hd,vs,_,dd⟩:=dk_rd I.hok e
    refine ⟨dd.typeIs,fun b q => ?_,hd⟩
    cases q
    obtain ⟨ob,_,_,h1,h2,_⟩:=dd
    exact ⟨ob,h1,h2.2.1⟩
  · obtain ⟨_,hd,xs,_,dd⟩:=dt_rd I.hok e
    refine ⟨dd.typeIs,fun b q => ?_,hd⟩
    cases q
    obtain ⟨ob,_,_,h1,h2,_⟩:=dd
    exact ⟨ob,h1,h2.2.1⟩
section
variable {X : Cx} {pins : List (Addr × Obj)} {σ : St} {H : Hp} {s : Shared} {a : Addr} {y d : V} {u r : Value} {o : Option V} {A : Around} {E : Value → Shared → Prop}
theorem d_get1 {Q : Value → Shared → Prop} (hu : A.units + 1 < cLine) (I : Inv X pins σ H s) (g : DGet H a y o) (ry : RelV y u) (h : ∀ w' s',Inv X pins σ H s' → RelV (o.getD .non) w' → Q w' s') :
    wpAny (model X.prog X.w) A (call (.builtin "dict.get") [.ref a,u]) Q E s:=by
  rcases g with ⟨kvs,k,e,ey,l⟩ | ⟨kvs,k,b,e,ey,eb,l⟩
  · subst ey
    obtain ⟨z,hd,vs,rel,dd⟩:=dk_rd I.hok e
    refine call_meetsIn PySem.F.slot_dict_get dd.typeIs PySem.F.entry_dict_get (PySem.F.args_dict_get_2 _ _) (meets_dict_get (mixKind X.prog X.w) a (kV_is ry) hd) ⟨_,dd.mapOf,h _ _ (I.tok _) ?_⟩
    rw [l]
    exact (rel.val k).getD rfl
  · subst ey
    cases (show u = Value.ref b from ry)
    obtain ⟨z,hd,xs,rel,dd⟩:=dt_rd I.hok e
    refine call_meetsIn PySem.F.slot_dict_get dd.typeIs PySem.F.entry_dict_get (PySem.F.args_dict_get_2 _ _) (meetsH_dict_get (tupleKind (mixKind X.prog X.w)) a b hd) ⟨tupleKind_room_in1 hu,k,xs,key_of I.hok eb,dd,h _ _ (I.tok _) ?_⟩
    rw [l]
    exact (rel.val k).getD rfl
theorem d_get2 {Q : Value → Shared → Prop} (hu : A.units + 1 < cLine) (I : Inv X pins σ H s) (g : DGet H a y o) (ry : RelV y u) (rd : RelV d r) (h : ∀ w' s',Inv X pins σ H s' → RelV (o.getD d) w' → Q w' s') :
    wpAny (model X.prog X.w) A (call (.builtin "dict.get") [.ref a,u,r]) Q E s:=by
  rcases g with ⟨kvs,k,e,ey,l⟩ | ⟨kvs,k,b,e,ey,eb,l⟩
  · subst ey
    obtain ⟨z,hd,vs,rel,dd⟩:=dk_rd I.hok e
    refine call_meetsIn PySem.F.slot_dict_get dd.typeIs PySem.F.entry_dict_get (PySem.F.args_dict_get_3 _ _ _) (meets_dict_get_default (mixKind X.prog X.w) a (kV_is ry) hd r) ⟨_,dd.mapOf,h _ _ (I.tok _) ?_⟩
    rw [l]
    exact (rel.val k).getD rd
  · subst ey
    cases (show u = Value.ref b from ry)
    obtain ⟨z,hd,xs,rel,dd⟩:=dt_rd I.hok e
    refine call_meetsIn PySem.F.slot_dict_get dd.typeIs PySem.F.entry_dict_get (PySem.F.args_dict_get_3 _ _ _) (meetsH_dict_get_default (tupleKind (mixKind X.prog X.w)) a b hd r) ⟨tupleKind_room_in1 hu,k,xs,key_of I.hok eb,dd,h _ _ (I.tok _) ?_⟩
    rw [l]
    exact (rel.val k).getD rd
end
def tDGet1 (td ty : TE) : TE:=fun σ H Q => td σ H fun x H1 => ∃ a,x = .ref a ∧ IsD H1 a ∧ ty σ H1 fun y H2 => ∃ o,DGet H2 a y o ∧ Q (o.getD .non) H2
def tDGet2 (td ty tx : TE) : TE:=fun σ H Q => td σ H fun x H1 => ∃ a,x = .ref a ∧ IsD H1 a ∧ ty σ H1 fun y H2 => tx σ H2 fun z H3 => ∃ o,DGet H3 a y o ∧ Q (o.getD z) H3
def tDPop1 (td ty : TE) : TE:=fun σ H Q => td σ H fun x H1 => ∃ a,x = .ref a ∧ IsD H1 a ∧ ty σ H1 fun y H2 => ∃ kvs k v,H2 a = some (.dK kvs) ∧ y = kV k ∧ valV kvs k = some v ∧ Q v (upd H2 a (.dK (dropK kvs k)))
section
variable {X : Cx} {o e f : Expr} {apos cpos : Pos} {td ty tx : TE}
theorem pe_dget1 (hu : X.A.units + 1 < cLine) (ho : PE X o td) (he : PE X e ty) (m : M1 X o "get" apos e cpos) : PE X (.Call (.Attribute o "get" apos) [e] [] cpos) (tDGet1 td ty):=by
  intro pins s σ H Q I h
  refine wpAny_Call_method m.base m.few m.line PySem.F.plainAttrs_dict PySem.F.slot_dict_get PySem.F.type_dict_get (thn (ho pins s σ H _ I h) fun u s1 ⟨x,H1,I1,rx,a,ex,d,q1⟩ => ?_)
  subst ex
  obtain rfl : u = Value.ref a:=rx
  obtain ⟨t1,t2,_⟩:=isD_at I1 d
  refine ⟨t1,t2,?_⟩
  rw [m.trees]
  refine Calls.callWith_builtin rfl (Calls.evalArgs_plain (Calls.spliced_cons (thn (he pins s1 σ H1 _ I1 q1) fun iv s2 ⟨y,H2,I2,ry,ov,g,q2⟩ => Calls.spliced_nil ?_)))
  exact d_get1 hu I2 g ry fun w' s3 I3 rw' => ⟨_,H2,I3,rw',q2⟩
theorem pe_dget2 (hu : X.A.units + 1 < cLine) (ho : PE X o td) (he : PE X e ty) (hf : PE X f tx) (m : M2 X o "get" apos e f cpos) : PE X (.Call (.Attribute o "get" apos) [e,f] [] cpos) (tDGet2 td ty tx):=by
  intro pins s σ H Q I h
  refine wpAny_Call_method m.base m.few m.line PySem.F.plainAttrs_dict PySem.F.slot_dict_get PySem.F.type_dict_get (thn (ho pins s σ H _ I h) fun u s1 ⟨x,H1,I1,rx,a,ex,d,q1⟩ => ?_)
  subst ex
  obtain rfl : u = Value.ref a:=rx
  obtain ⟨t1,t2,_⟩:=isD_at I1 d
  refine ⟨t1,t2,?_⟩
  rw [m.trees]
  refine Calls.callWith_builtin rfl (Calls.evalArgs_plain (Calls.spliced_cons (thn (he pins s1 σ H1 _ I1 q1) fun iv s2 ⟨y,H2,I2,ry,q2⟩ =>
    Calls.spliced_cons (thn (hf pins s2 σ H2 _ I2 q2) fun fv s3 ⟨z,H3,I3,rz,ov,g,q3⟩ => Calls.spliced_nil ?_))))
  exact d_get2 hu I3 g ry rz fun w' s4 I4 rw' => ⟨_,H3,I4,rw',q3⟩
theorem pe_dpop1 (ho : PE X o td) (he : PE X e ty) (m : M1 X o "pop" apos e cpos) : PE X (.Call (.Attribute o "pop" apos) [e] [] cpos) (tDPop1 td ty):=by
  intro pins s σ H Q I h
  refine wpAny_Call_method m.base m.few m.line PySem.F.plainAttrs_dict PySem.F.slot_dict_pop PySem.F.type_dict_pop (thn (ho pins s σ H _ I h) fun u s1 ⟨x,H1,I1,rx,a,ex,d,q1⟩ => ?_)
  subst ex
  obtain rfl : u = Value.ref a:=rx
  obtain ⟨t1,t2,_⟩:=isD_at I1 d
  refine ⟨t1,t2,?_⟩
  rw [m.trees]
  refine Calls.callWith_builtin rfl (Calls.evalArgs_plain (Calls.spliced_cons (thn (he pins s1 σ H1 _ I1 q1) fun iv s2 ⟨y,H2,I2,ry,kvs,k,v,ea,ey,l,q2⟩ => Calls.spliced_nil ?_)))
  subst ey
  exact d_pop I2 ea ry l (.inl rfl) fun w' s3 I3 rw' => ⟨v,_,I3,rw',q2⟩
end
section
variable {X : Cx} {pins : List (Addr × Obj)} {σ : St} {H : Hp} {s : Shared} {a : Addr} {kvs : List (Key × V)} {A : Around} {E : Value → Shared → Prop}
end
section
variable {X : Cx} {pins : List (Addr × Obj)} {σ : St} {H : Hp} {s : Shared} {a : Addr} {y : V} {u : Value} {A : Around} {E : Value → Shared → Prop}
end
end L2
namespace Att
open PySem PySem.W PySem.Calls PyProof.Rows
theorem ints_of_wellAll {P : Params} {h : Heap} : ∀ (ns : List Int) (vs : List Value),WellAll P h vs (ns.map WData.int) → IntsAre vs ns:=by
  intro ns
  induction ns with
  | nil =>
    intro vs w
    rw [List.map_nil] at w
    cases w
    exact .nil
  | cons n ns ih =>
    intro vs w
    rw [List.map_cons] at w
    cases w with
    | cons a b =>
      cases a
      exact .cons _ _ (ih _ b)
theorem script_of {l : OpenLaw} {n : Nat} (hn : l.most = some n) {P : Params} {h : Heap} {args : List WData} {vals : List Value}
    (hpre : l.row.toRowW.claim.pre args = true) (hwl : WellAll P h vals args) :
    ∃ a vs ns,vals = [Value.ref a] ∧ args = [WData.list (ns.map WData.int)] ∧ h.get? a = some { cls:=.type "list",data:=.seq vs.toArray } ∧ IntsAre vs ns ∧ ns.length ≤ n:=by
  have hsh : WShape.hasAll [] args [.list .int] = true:=(pre_splitW hpre).1
  have hc : l.pre.holds [] { args:=args } = true:=(pre_splitW hpre).2
  obtain ⟨d,r,rfl,h1,h2⟩:=hasAllW_cons hsh
  obtain rfl:=hasAllW_nil h2
  obtain ⟨xs,rfl,h3⟩:=hasW_list h1
  obtain ⟨ns,rfl⟩:=items_int h3
  have hlen : ns.length ≤ n:=by
    unfold OpenLaw.pre at hc
    have h4 : (WTm.not (.lt (.lit (.int (n : Int))) (.len (.arg 0)))).holds [] { args:=[.list (ns.map .int)] } = true:=by
      have h4:=(holds_andW hc).1
      rw [hn] at h4
      exact h4
    have h5:=condW_of h4 (w_not (w_lt w_lit (w_len_list (w_arg rfl))))
    rw [List.length_map] at h5
    refine Nat.le_of_not_lt fun q => ?_
    have q' : (n : Int) < ((ns.length : Nat) : Int):=by omega
    first
      | (rw [decide_eq_true q'] at h5; exact absurd h5 (by decide))
      | (simp at h5; omega)
  cases hwl with
  | cons w1 w2 =>
    cases w2
    cases w1 with
    | list ho hall => exact ⟨_,_,ns,rfl,rfl,ho,ints_of_wellAll ns _ hall,hlen⟩
theorem post_true (l : OpenLaw) (args : List WData) : l.row.toRowW.claim.post args (.bool true) args = true :=
  postW_of (r:=l.row.toRowW) (X:=(true == true))
    (show WShape.has [] (.bool true) .bool = true by first | rfl | decide | simp [WShape.has,WShape.arms,WShape.armsAll])
    (show (WTm.eq .res (.lit (.bool true))).value [] { args:=args,res:=some (.bool true),after:=args } = some (.bool (true == true)) from w_eq_bool (w_res rfl) w_lit) rfl
theorem attach_call {l : OpenLaw} {n : Nat} {q : Program} {loose : List Str} {XP : (Str → Option Value) → Heap → Prop} {YP : World → Heap → Prop} {d : DefRec}
    (hn : l.most = some n) (hdf : d.params.defaults = [])
    (call : ∀ (w : World) (s₀ s₁ : Shared) (mg mb : Str → Option Value) (fa : Addr) (o : Obj) (pm cd doc : Value) (a : Addr) (vs : List Value) (ns : List Int),
      Ground q loose [] XP w s₀ mg mb s₁.heap → YP w s₁.heap →
      s₁.heap.get? fa = some o → o.data = .func (docDef d.name d.params d.body d.scope pm cd doc) → s₁.heap.CodeRec cd d.name → mg d.name = some (.ref fa) →
      s₁.heap.get? a = some { cls:=.type "list",data:=.seq vs.toArray } → IntsAre vs ns → ns.length ≤ n → s₁.gens = #[] →
      codeAny (model l.prog w) callerA (.call (.ref fa) ⟨[.ref a],[]⟩) (fun r s' => r = .ok (.ret (.bool true)) ∧ OldK s₁.heap s'.heap ∧ s'.os = s₁.os ∧ AllBare s'.gens) s₁) :
    WalkO q loose XP YP l.row.toRowW d [] (fun f vs => PySem.call f vs):=by
  intro w s₀ s₁ mg mb G Y fa o pm cd doc dV kV ho hd hcd hD hmg hg args vals as hpre hlay hrd hwl hlo
  obtain rfl : dV = .none:=Dflts.none hD hdf
  obtain rfl : kV = .none:=Dflts.noKw hD
  obtain ⟨a,vs,ns,rfl,rfl,hobj,hints,hlen⟩:=script_of hn hpre hwl
  refine enter_call (codeAny_mono (call w s₀ s₁ mg mb fa o pm cd doc a vs ns G Y ho (fd_plain hd) hcd hmg hobj hints hlen hg) fun r s' hq => ?_)
  obtain ⟨rfl,h2,h3,h4⟩:=hq
  exact ⟨.inl ⟨.bool true,.bool true,[],rfl,fun _ => rfl,.bool true,post_true l _,fun _ => ⟨List.Pairwise.nil,fun _ hm => (nomatch hm)⟩⟩,h2,h3,h4⟩
section
variable {prog : Program} {w : World} {A : Around} {E : Value → Shared → Prop} {s : Shared} {K : Frag}
end
end Att
namespace L2
open PySem PySem.Spec PyProof.Rows
theorem vals_ints : ∀ {vs : List Value} {ns : List Int},IntsAre vs ns → Vals (ns.map V.int) vs
  | _,_,.nil => .nil
  | _,_,.cons n t h => .cons ⟨t,rfl⟩ (vals_ints h)
def Only (H : Hp) : Prop:=∀ b,H b = none ∨ ∃ o xs,H b = some (.frz o (.lst xs))
theorem law_call {P : Program} {w : World} {K : PySem.W.Frag} {mg mb : Str → Option Value} {CX : CXT} {k : Nat} {fa a : Addr} {fd : FuncData} {x : Str} {sp : Sp} {s₁ : Shared} {vs : List Value} {ns : List Int}
    (KX : K.In s₁.heap) (hns : s₁.heap.Ns mainGlobals mg) (hb : s₁.heap.Ns builtinsNs mb) (hbb : ∀ x : Str,x ≠ "__name__" → mb x = bootBuiltins x) (hlim : s₁.heap.NoLimit) (hg : s₁.gens = #[])
    (ha : s₁.heap.get? a = some { cls:=.type "list",data:=.seq vs.toArray }) (hi : IntsAre vs ns) (hl : ns.length ≤ sizeLine) (hr : Room k callerA)
    (F : ∀ base : Heap,K.In base → base.Ns mainGlobals mg → FnOk P w K mg base CX k fa fd [x] sp) (hbind : ∀ (s : Shared) (u : Value),BindsTo s fd ⟨[u],[]⟩ [(x,u)])
    (hsp : ∀ H : Hp,Only H → SqL K H a (ns.map V.int) → sp [.ref a] H (fun v _ => v = .bl true) fun _ _ _ => False)
    (hCX : ∀ H e s',CX [] H s₁ (fun _ _ _ => False) e s' → False) :
    codeAny (model P w) callerA (.call (.ref fa) ⟨[.ref a],[]⟩) (fun r s' => r = .ok (.ret (.bool true)) ∧ OldK s₁.heap s'.heap ∧ s'.os = s₁.os ∧ AllBare s'.gens) s₁:=by
  have rv:=vals_ints hi
  have lenV:=hi.length
  -- from an abstract heap in which nothing but the script may be tracked
  have core : ∀ H : Hp,Only H → SqL K H a (ns.map V.int) → HOk P w H s₁.heap → (∀ b,H b ≠ none → b = a) → (H a ≠ none → K.lookup a = none) →
      codeAny (model P w) callerA (.call (.ref fa) ⟨[.ref a],[]⟩) (fun r s' => r = .ok (.ret (.bool true)) ∧ OldK s₁.heap s'.heap ∧ s'.os = s₁.os ∧ AllBare s'.gens) s₁:=by
    intro H hO hS hok hA hK
    have base_of : ∀ {b : Addr} {o : Obj},s₁.heap.get? b = some o → H b = none → (hidT s₁.heap H).get? b = some o:=fun e n => hidT_get e n
    have noA : ∀ {b : Addr} {o : Obj} {es : Array DictEntry} {ep : Nat},s₁.heap.get? b = some o → o.data = .dict es ep → H b = none:=fun {b o es ep} e d => by
      cases q : H b with
      | none => rfl
      | some u =>
        have e' : b = a:=hA b (by rw [q]; simp)
        subst e'
        rw [ha] at e; cases e
        have d' : Data.seq vs.toArray _ = Data.dict es ep:=d
        cases d'
    have nsK : ∀ {b : Addr} {m : Str → Option Value},s₁.heap.Ns b m → (hidT s₁.heap H).Ns b m:=fun {b m} ⟨o,es,ep,e,d,r⟩ => ⟨o,es,ep,base_of e (noA e d),d,r⟩
    have hKb : K.In (hidT s₁.heap H):=fun b o e => base_of (KX b o e) (by
      cases q : H b with
      | none => rfl
      | some u =>
        have e' : b = a:=hA b (by rw [q]; simp)
        subst e'
        rw [hK (by rw [q]; simp)] at e; cases e)
    have hM : Mod K mg (hidT s₁.heap H):=⟨hKb,nsK hns,⟨mb,nsK hb,hbb⟩,let ⟨mc,h1,h2⟩:=hlim; ⟨mc,nsK h1,h2⟩⟩
    have e0 : Env0 P w K mg (hidT s₁.heap H) callerA [] s₁ H:=⟨rfl,hM,fun b o e => of_hidT e,Nat.le_of_eq (hidT_size _ _),trivial,fun b hb => absurd (show b ∈ ([] : List Addr) from hb) (by simp),hok,.of_eq hg⟩
    refine codeAny_mono ((F _ hKb (nsK hns)).run callerA [] s₁ H ⟨[.ref a],[]⟩ [.ref a] [.ref a] _ _ hr e0 (hbind s₁ (.ref a)) (.cons rfl .nil) (hsp H hO hS)) fun r s' h => ?_
    cases r with
    | error e => exact (hCX H e s' h).elim
    | ok fl =>
      cases fl with
      | next => exact False.elim h
      | brk => exact False.elim h
      | cont => exact False.elim h
      | ret u =>
        obtain ⟨v,H',os,bare,un,hok',r',q⟩:=h
        have q' : v = .bl true:=q
        subst q'
        obtain rfl : u = Value.bool true:=r'
        refine ⟨rfl,OldK.of_keep fun b o e => ?_,os,bare⟩
        cases q : H b with
        | none => exact un.keep b o e q (by intro z; exact absurd (show b ∈ ([] : List Addr) from z) (by simp)) (by simp)
        | some u =>
          rcases hO b with z | ⟨ob,xs,z⟩
          · rw [q] at z; cases z
          · have z2:=un.frzs b ob _ z
            obtain ⟨e1,_⟩:=hok b _ z
            obtain ⟨e2,_⟩:=hok' b _ z2
            rw [e] at e1; cases e1
            exact e2
  cases hk : K.lookup a with
  | some o =>
    -- the script is one of the module's own objects
    have e:=KX a o hk
    rw [ha] at e
    cases e
    refine core (fun _ => none) (fun _ => .inl rfl) (.inr ⟨_,vs.toArray,_,hk,rfl,rfl,rfl,by rw [List.size_toArray,lenV]; exact hl,by simpa using rv⟩) (fun b u z => by have z' : (none : Option HO) = some u:=z; cases z') (fun b z => absurd rfl z) fun z => absurd rfl z
  | none =>
    refine core (fun b => if b = a then some (.frz { cls:=.type "list",data:=.seq vs.toArray } (.lst (ns.map V.int))) else none) (fun b => ?_) (.inl (.inr ⟨{ cls:=.type "list",data:=.seq vs.toArray },if_pos rfl⟩)) (fun b u z => ?_) (fun b z => ?_) fun _ => hk
    · by_cases hb : b = a
      · exact .inr ⟨_,_,if_pos hb⟩
      · exact .inl (if_neg hb)
    · by_cases hb : b = a
      · have z':=(if_pos hb).symm.trans z
        cases z'
        subst hb
        exact ⟨ha,by rw [List.length_map]; exact hl,vs,_,rv,ha⟩
      · have z':=(if_neg hb).symm.trans z
        cases z'
    · by_cases hb : b = a
      · exact hb
      · exact absurd (if_neg hb) z
end L2
namespace L2
open PySem PySem.Spec PyProof.Rows
abbrev KOf {K : PySem.W.Frag} {h : Heap} (_ : K.In h) : PySem.W.Frag:=K
theorem walk_of {l : PySem.W.OpenLaw} {n k : Nat} {q : Program} {loose : List Str} {XP : (Str → Option Value) → Heap → Prop} {YP : World → Heap → Prop} {d : DefRec} {K : Params → PySem.W.Frag} {CX : World → CXT} {sp : World → Sp} {x : Str}
    (hn : l.most = some n) (hn2 : n ≤ sizeLine) (hdf : d.params.defaults = []) (hr : Room k callerA)
    (hY : ∀ (w : World) (h : Heap),YP w h → (K w.params).In h)
    (F : ∀ (w : World) (mg : Str → Option Value) (fa : Addr) (h : Heap),(K w.params).In h → h.Ns mainGlobals mg → mg d.name = some (.ref fa) →
      ∃ fd : FuncData,(∀ (s : Shared) (u : Value),BindsTo s fd ⟨[u],[]⟩ [(x,u)]) ∧
        ∀ base : Heap,(K w.params).In base → base.Ns mainGlobals mg → FnOk l.prog w (K w.params) mg base (CX w) k fa fd [x] (sp w))
    (hsp : ∀ (w : World) (H : Hp) (a : Addr) (ns : List Int),ns.length ≤ n → Only H → SqL (K w.params) H a (ns.map V.int) → sp w [.ref a] H (fun v _ => v = .bl true) fun _ _ _ => False)
    (hCX : ∀ (w : World) (H : Hp) (s : Shared) (e : Value) (s' : Shared),CX w [] H s (fun _ _ _ => False) e s' → False) :
    PySem.W.WalkO q loose XP YP l.row.toRowW d [] (fun f vs => PySem.call f vs):=by
  refine Att.attach_call hn hdf fun w s₀ s₁ mg mb fa o pm cd doc a vs ns G Y ho hd hcd hmg hobj hints hlen hg => ?_
  have KX:=hY w _ Y
  obtain ⟨fd,hb,hF⟩:=F w mg fa _ KX G.T.g hmg
  exact law_call KX G.T.g G.T.b G.T.builtins G.T.nolimit hg hobj hints (Nat.le_trans hlen hn2) hr hF hb (fun H hO hS => hsp w H a ns hlen hO hS) fun H e s' => hCX w H s₁ e s'
theorem walk_ofK {l : PySem.W.OpenLaw} {n k : Nat} {q : Program} {loose : List Str} {XP : (Str → Option Value) → Heap → Prop} {YP : World → Heap → Prop} {d : DefRec} {K : Params → PySem.W.Frag} {CX : CXT} {sp : PySem.W.Frag → Sp} {x : Str}
    (hn : l.most = some n) (hn2 : n ≤ sizeLine) (hdf : d.params.defaults = []) (hr : Room k callerA)
    (hY : ∀ (w : World) (h : Heap),YP w h → (K w.params).In h)
    (F : ∀ (w : World) (mg : Str → Option Value) (fa : Addr) (h : Heap),(K w.params).In h → h.Ns mainGlobals mg → mg d.name = some (.ref fa) →
      ∃ fd : FuncData,(∀ (s : Shared) (u : Value),BindsTo s fd ⟨[u],[]⟩ [(x,u)]) ∧
        ∀ base : Heap,(K w.params).In base → base.Ns mainGlobals mg → FnOk l.prog w (K w.params) mg base CX k fa fd [x] (sp (K w.params)))
    (hsp : ∀ (K : PySem.W.Frag) (H : Hp) (a : Addr) (ns : List Int),ns.length ≤ n → Only H → SqL K H a (ns.map V.int) → sp K [.ref a] H (fun v _ => v = .bl true) fun _ _ _ => False)
    (hCX : ∀ (H : Hp) (s : Shared) (e : Value) (s' : Shared),CX [] H s (fun _ _ _ => False) e s' → False) :
    PySem.W.WalkO q loose XP YP l.row.toRowW d [] (fun f vs => PySem.call f vs) :=
  walk_of (K:=K) (CX:=fun _ => CX) (sp:=fun w => sp (K w.params)) hn hn2 hdf hr hY F (fun w H a ns h1 h2 h3 => hsp (K w.params) H a ns h1 h2 h3) fun _ H s e s' => hCX H s e s'
end L2
namespace L2
open PySem PySem.Spec PyProof.Rows
def inClass (s : Stmt) (j : Nat) : Stmt:=match s with
  | .ClassDef _ _ _ body _ _ _ _ _ _ _ => body.getD j (.Pass ⟨0,0,0,0⟩)
  | _ => .Pass ⟨0,0,0,0⟩
def defArgs (s : Stmt) : Arguments:=match s with
  | .FunctionDef _ a _ _ _ _ _ _ _ _ => a
  | _ => { posonlyargs:=[],args:=[],vararg:=none,kwonlyargs:=[],kw_defaults:=[],kwarg:=none,defaults:=[] }
def defBody (s : Stmt) : List Stmt:=match s with
  | .FunctionDef _ _ b _ _ _ _ _ _ _ => b
  | _ => []
def defScope (s : Stmt) : Scope:=match s with
  | .FunctionDef _ _ _ _ _ _ sc _ _ _ => sc
  | _ => { kind:=.function,names:=[],isGenerator:=false,isCoroutine:=false }
abbrev CX0 : CXT:=fun _ _ _ _ _ _ => False
abbrev E0 : XK:=fun _ _ _ => False
theorem pass0 {X : Cx} : Passes CX0 X E0:=fun _ _ _ _ _ _ _ h => h.elim
structure Fun (K : PySem.W.Frag) (x qual : Str) (st : Stmt) (f : Addr) (fd : FuncData) : Prop where
  ex : ∃ (oc : Value) (od : Option Addr) (kV doc pm : Value) (an : Option Addr) (cdv ct : Value) (osl : Array (Option Value)),
    fd = PySem.W.fnOf x qual (defArgs st) (defBody st) (defScope st) .none kV doc pm an cdv ct ∧ K.lookup f = some ⟨oc,od,.func fd,osl⟩ ∧ PySem.W.codeIn K cdv qual = true
  kp : PySem.W.keepIn K (.ref f) = true
section
variable {P : Program} {w : World} {K : PySem.W.Frag} {mg : Str → Option Value} {base : Heap}
theorem Fun.ok {x qual : Str} {st : Stmt} {f : Addr} {fd : FuncData} {N ps : List Str} {k : Nat} {sp : Sp} (F : Fun K x qual st f fd) (S : FnScope N ps (defScope st)) (len : ∀ vs H Q E,sp vs H Q E → vs.length = ps.length)
    (hbody : ∀ (cdv : Value) (A : Around) (outer : List Env) (s : Shared) (H : Hp) (vs : List V) (Q : VK) (E : XK),Room k (A.deeper (envOfC qual (defScope st) s.heap.objs.size f cdv)) → sp vs H Q E →
      ∃ t,PSs (cxOf CX0 P w K mg base N qual (defScope st) f cdv A outer s H E).nox (defBody st) t ∧ t { nx:=fun _ H' => Q .non H',rt:=Q } (start N vs) H) : FnOk P w K mg base CX0 (k + 1) f fd ps sp:=by
  obtain ⟨oc,od,kV,doc,pm,an,cdv,ct,osl,rfl,lk,hcd⟩:=F.ex
  refine fn_of lk hcd S len fun A outer s H vs Q E hr hsp => ?_
  obtain ⟨t,h,q⟩:=hbody cdv A outer s H vs Q E hr hsp
  exact ⟨t,h.nox,q⟩
theorem Fun.binds {x qual : Str} {st : Stmt} {f : Addr} {fd : FuncData} {ps : List Str} (F : Fun K x qual st f fd)
    (h : ∀ (kV doc pm : Value) (an : Option Addr) (cdv ct : Value) (us : List Value),us.length = ps.length → bindArgs (PySem.W.fnOf x qual (defArgs st) (defBody st) (defScope st) .none kV doc pm an cdv ct) ⟨us,[]⟩ = pure (ps.zip us)) : Binds K fd ps []:=by
  obtain ⟨oc,od,kV,doc,pm,an,cdv,ct,osl,rfl,lk,hcd⟩:=F.ex
  exact .all (h kV doc pm an cdv ct)
theorem fun_mk {x qual : Str} {st : Stmt} {f : Addr} {oc : Value} {od an : Option Addr} {osl : Array (Option Value)} {kV doc pm cdv ct : Value} (l : K.lookup f = some ⟨oc,od,.func (PySem.W.fnOf x qual (defArgs st) (defBody st) (defScope st) .none kV doc pm an cdv ct),osl⟩)
    (c : PySem.W.codeIn K cdv qual = true) (k : PySem.W.keepIn K (.ref f) = true) : Fun K x qual st f (PySem.W.fnOf x qual (defArgs st) (defBody st) (defScope st) .none kV doc pm an cdv ct):=⟨⟨oc,od,kV,doc,pm,an,cdv,ct,osl,rfl,l,c⟩,k⟩
end
theorem hu_of {A : Around} {k : Nat} (hr : Room k A) : A.units + 1 < cLine:=Nat.lt_of_le_of_lt (Nat.add_le_add_left (by decide : 1 ≤ 64) _) hr.units
theorem small1000 {n : Nat} (h : n ≤ 1000) : n < sizeLine:=Nat.lt_of_le_of_lt h (by decide)
section
variable {X : Cx}
theorem pv (i : Nat) {x : Str} {pos : Pos} (hN : X.N[i]? = some x:=by rfl) (hv : Vis X.env.scope x:=by first | exact Or.inl rfl | exact Or.inr (Or.inl rfl) | exact Or.inr (Or.inr rfl)) (hd : (x == ("__debug__" : Str)) = false:=by decide)
    (hcd : (x == ("__classdict__" : Str)) = false:=by decide) : PE X (.Name x pos) (tVar i):=pe_var hN hv hd hcd
theorem call_lenD : CallR X (.builtin "len") (fun xs H Q => ∃ a kvs,xs = [V.ref a] ∧ H a = some (.dK kvs) ∧ Q (.int kvs.length) H):=by
  intro pins s σ H xs us Q I r h
  obtain ⟨a,kvs,rfl,ha,q⟩:=h
  obtain ⟨u,rfl,ru⟩:=vals1 r
  cases ru
  exact d_len I (.inl ha) fun t s' I' => ⟨.int kvs.length,H,I',⟨t,rfl⟩,q⟩
end
theorem iteF {A B : Prop} (h : B) : if false = true then A else B:=by
  rw [if_neg Bool.false_ne_true]
  exact h
theorem iteT {A B : Prop} (h : A) : if true = true then A else B:=by
  rw [if_pos rfl]
  exact h
theorem ite2 {c A B : Prop} [Decidable c] (h1 : c → A) (h2 : ¬ c → B) : if c then A else B:=by
  by_cases h : c
  · rw [if_pos h]
    exact h1 h
  · rw [if_neg h]
    exact h2 h
def Same (H H' : Hp) : Prop:=∀ b o,H b = some o → H' b = some o
theorem Same.refl (H : Hp) : Same H H:=fun _ _ h => h
theorem Same.trans {H H1 H2 : Hp} (a : Same H H1) (b : Same H1 H2) : Same H H2:=fun c o h => b c o (a c o h)
theorem Same.free {H H' : Hp} (e : Same H H') {l : Addr} (h : H' l = Option.none) : H l = Option.none:=by
  cases q : H l with
  | none => rfl
  | some o =>
    rw [e l o q] at h
    cases h
theorem Same.seq {K : PySem.W.Frag} {H H' : Hp} {a : Addr} {xs : List V} (e : Same H H') (h : SqL K H a xs) : SqL K H' a xs:=by
  rcases h with (h | ⟨o,h⟩) | h
  · exact .inl (.inl (e _ _ h))
  · exact .inl (.inr ⟨o,e _ _ h⟩)
  · exact .inr h
section
variable {κ : Type} [DecidableEq κ]
theorem valV_not {kvs : List (κ × V)} {k : κ} (h : valV kvs k = none) : ¬ k ∈ kvs.map (·.1):=by
  intro m
  obtain ⟨p,hp,e⟩:=List.mem_map.mp m
  have q : (kvs.any fun kv => decide (kv.1 = k)) = true:=List.any_eq_true.mpr ⟨p,hp,decide_eq_true e⟩
  rw [valV_any,h] at q
  exact absurd q (by simp)
theorem valV_in {kvs : List (κ × V)} {k : κ} {v : V} (h : valV kvs k = some v) : k ∈ kvs.map (·.1):=by
  have q : (kvs.any fun kv => decide (kv.1 = k)) = true:=by
    rw [valV_any,h]
    all_goals rfl
  obtain ⟨p,hp,e⟩:=List.any_eq_true.mp q
  exact List.mem_map.mpr ⟨p,hp,of_decide_eq_true e⟩
theorem nd_snoc : ∀ {l : List κ} {k : κ},l.Nodup → ¬ k ∈ l → (l ++ [k]).Nodup
  | [],k,_,_ => by simp
  | a :: r,k,h,hk => by
    obtain ⟨h1,h2⟩:=List.nodup_cons.mp h
    show (a :: (r ++ [k])).Nodup
    refine List.nodup_cons.mpr ⟨fun m => ?_,nd_snoc h2 fun m => hk (List.mem_cons.mpr (Or.inr m))⟩
    rcases List.mem_append.mp m with q | q
    · exact h1 q
    · exact hk (List.mem_cons.mpr (Or.inl (List.mem_singleton.mp q).symm))
theorem nd_putK {kvs : List (κ × V)} {k : κ} (v : V) (hn : (kvs.map (·.1)).Nodup) (h : valV kvs k = none) : ((putK kvs k v).map (·.1)).Nodup:=by
  rw [putK_new v h,List.map_append]
  exact nd_snoc hn (valV_not h)
theorem dropK_pos {p : κ × V} {r : List (κ × V)} {k : κ} (e : p.1 = k) : dropK (p :: r) k = dropK r k:=by
  unfold dropK
  rw [List.filter_cons,if_neg (by simp [e])]
theorem dropK_neg {p : κ × V} {r : List (κ × V)} {k : κ} (e : ¬ p.1 = k) : dropK (p :: r) k = p :: dropK r k:=by
  unfold dropK
  rw [List.filter_cons,if_pos (by simp [e])]
theorem dropK_mem {kvs : List (κ × V)} {k : κ} {p : κ × V} (h : p ∈ dropK kvs k) : p ∈ kvs:=(List.mem_filter.mp h).1
theorem nd_dropK : ∀ {kvs : List (κ × V)} {k : κ},(kvs.map (·.1)).Nodup → ((dropK kvs k).map (·.1)).Nodup
  | [],_,_ => List.nodup_nil
  | p :: r,k,h => by
    have h : (p.1 :: r.map (·.1)).Nodup:=h
    obtain ⟨h1,h2⟩:=List.nodup_cons.mp h
    by_cases e : p.1 = k
    · rw [dropK_pos e]
      exact nd_dropK h2
    · rw [dropK_neg e]
      show (p.1 :: (dropK r k).map (·.1)).Nodup
      refine List.nodup_cons.mpr ⟨fun m => h1 ?_,nd_dropK h2⟩
      obtain ⟨q,hq,eq⟩:=List.mem_map.mp m
      exact List.mem_map.mpr ⟨q,dropK_mem hq,eq⟩
end
end L2
set_option Elab.async false
set_option linter.all false
set_option maxRecDepth 100000
namespace L2
open PySem PySem.Spec PyProof.Rows
def cloFrom (env : Env) : List (Str × NameKind) → List (Str × Addr) → List (Str × Addr)
  | [],acc => acc
  | (n,k) :: r,acc => cloFrom env r (if (k == .free) = true then (match env.cells.lookup n with | some c => (n,c) :: acc | none => acc) else acc)
theorem clo_run {env : Env} : ∀ (names : List (Str × NameKind)) (acc : List (Str × Addr)),(∀ y ∈ names,y.2 = .free → ∃ c,env.cells.lookup y.1 = some c) →
    (forIn names acc fun (x : Str × NameKind) (cs : List (Str × Addr)) => (if (x.2 == NameKind.free) = true then (do let a ← cellOf env x.1; pure (ForInStep.yield ((x.1,a) :: cs))) else pure (ForInStep.yield cs) : Sem _)) = (pure (cloFrom env names acc) : Sem _)
  | [],acc,_ => rfl
  | (n,k) :: r,acc,h => by
    have hr : ∀ y ∈ r,y.2 = .free → ∃ c,env.cells.lookup y.1 = some c:=fun y hy => h y (List.mem_cons_of_mem _ hy)
    rw [List.forIn_cons]
    unfold cloFrom
    by_cases hk : (k == NameKind.free) = true
    · have hk' : k = NameKind.free:=by simpa using hk
      obtain ⟨c,e⟩:=h (n,k) List.mem_cons_self hk'
      have e' : env.cells.lookup n = some c:=e
      simp only [hk,if_true,cellOf,e',pure_bind]
      exact clo_run r _ hr
    · simp only [hk,if_false,pure_bind]
      exact clo_run r _ hr
theorem closure_of {env : Env} {sc : Scope} (h : ∀ y ∈ sc.names,y.2 = .free → ∃ c,env.cells.lookup y.1 = some c) : closureFor sc env = pure (cloFrom env sc.names []):=by
  have e:=clo_run (env:=env) sc.names [] h
  unfold closureFor
  simp only [bind_pure]
  exact e
theorem clo_sub {env : Env} {x : Str} {c : Addr} : ∀ (names : List (Str × NameKind)) (acc : List (Str × Addr)),(∀ x c,acc.lookup x = some c → env.cells.lookup x = some c) → (cloFrom env names acc).lookup x = some c → env.cells.lookup x = some c
  | [],acc,ha,h => ha x c h
  | (n,k) :: r,acc,ha,h => by
    unfold cloFrom at h
    refine clo_sub r _ (fun y d hy => ?_) h
    split at hy
    · split at hy
      · rename_i c' e
        rw [List.lookup_cons] at hy
        by_cases z : y = n
        · subst z; simp at hy; subst hy; exact e
        · have : (y == n) = false:=by simpa using z
          rw [this] at hy
          exact ha y d hy
      · exact ha y d hy
    · exact ha y d hy
theorem clo_keep {env : Env} {x : Str} : ∀ (names : List (Str × NameKind)) (acc : List (Str × Addr)),(acc.lookup x).isSome = true → ((cloFrom env names acc).lookup x).isSome = true
  | [],acc,h => h
  | (n,k) :: r,acc,h => by
    unfold cloFrom
    refine clo_keep r _ ?_
    split
    · split
      · rw [List.lookup_cons]
        split
        · rfl
        · exact h
      · exact h
    · exact h
theorem clo_has {env : Env} {x : Str} {c : Addr} : ∀ (names : List (Str × NameKind)) (acc : List (Str × Addr)),(x,NameKind.free) ∈ names → env.cells.lookup x = some c → ((cloFrom env names acc).lookup x).isSome = true
  | [],acc,h,_ => by cases h
  | (n,k) :: r,acc,h,e => by
    unfold cloFrom
    rcases List.mem_cons.mp h with z | z
    · cases z
      refine clo_keep r _ ?_
      rw [if_pos (by rfl),e]
      simp [List.lookup_cons]
    · exact clo_has r _ z e
def cbx (X : Cx) (N : List Str) (sc : Scope) (C : Addr) (s₀ : Shared) (H₀ : Hp) (ex : List Addr) : Cx where
  prog:=X.prog
  w:=X.w
  K:=X.K
  mg:=X.mg
  base:=X.base
  A:=X.A
  N:=N
  s₀:=s₀
  H₀:=H₀
  env:=compEnvC sc (cloFrom X.env sc.names []) C X.env
  outer:=X.stack
  stack:=X.stack
  ex:=ex
  fn:=fun _ => false
  calm:=X.calm
  pn:=[]
  xe:=fun _ _ => False
structure CScope (N0 : List Str) (sc0 : Scope) (N : List Str) (ix : List (Option Nat)) (sc : Scope) : Prop where
  cell : ∀ y ∈ sc.names,y.2 ≠ .cell
  kind : sc.kind = .function
  names : ∀ y ∈ sc.names,y.2 = .local → sc.names.lookup y.1 = some .local
  free : ∀ y ∈ sc.names,y.2 = .free → (sc0.names.lookup y.1 = some .cell ∨ sc0.names.lookup y.1 = some .free)
  len : ix.length = N.length
  nd : N.Nodup
  capB : ((N.zip ix).all fun p => match p.2 with | none => true | some i => decide (N0[i]? = some p.1) && decide (sc.names.lookup p.1 = some .free)) = true
theorem CScope.cap {N0 : List Str} {sc0 : Scope} {N : List Str} {ix : List (Option Nat)} {sc : Scope} (S : CScope N0 sc0 N ix sc) (j i : Nat) (y : Str) (h1 : N[j]? = some y) (h2 : ix[j]? = some (some i)) : N0[i]? = some y ∧ sc.names.lookup y = some .free:=by
  have q:=List.all_eq_true.mp S.capB (y,some i) (List.mem_of_getElem? (i:=j) (by rw [List.getElem?_zip_eq_some]; exact ⟨h1,h2⟩))
  simpa using q
def capt (ix : List (Option Nat)) (σ : St) : St:=ix.map fun o => o.bind fun i => (σ[i]?).join
theorem relabel_lookup {sc : Scope} {env : Env} {x : Str} : ∀ {names : List (Str × NameKind)},names.lookup x = some .free →
    (names.map fun (n,k) => if (k == NameKind.free && env.scope.kind == .function && env.kindOf n == some .cell) then (n,NameKind.cell) else (n,k)).lookup x = some .cell ∨
    (names.map fun (n,k) => if (k == NameKind.free && env.scope.kind == .function && env.kindOf n == some .cell) then (n,NameKind.cell) else (n,k)).lookup x = some .free
  | [],h => by simp at h
  | (n,k) :: r,h => by
    have ih:=@relabel_lookup sc env x r
    show List.lookup x ((if (k == NameKind.free && env.scope.kind == .function && env.kindOf n == some .cell) = true then (n,NameKind.cell) else (n,k)) :: _) = _ ∨ List.lookup x ((if (k == NameKind.free && env.scope.kind == .function && env.kindOf n == some .cell) = true then (n,NameKind.cell) else (n,k)) :: _) = _
    cases hx : x == n with
    | true =>
      simp only [List.lookup_cons,hx] at h
      cases h
      by_cases hc : (NameKind.free == NameKind.free && env.scope.kind == .function && env.kindOf n == some .cell) = true
      · rw [if_pos hc]; simp [List.lookup_cons,hx]
      · rw [if_neg hc]; simp [List.lookup_cons,hx]
    | false =>
      simp only [List.lookup_cons,hx] at h
      by_cases hc : (k == NameKind.free && env.scope.kind == .function && env.kindOf n == some .cell) = true
      · rw [if_pos hc]; simp only [List.lookup_cons,hx]; exact ih h
      · rw [if_neg hc]; simp only [List.lookup_cons,hx]; exact ih h
theorem relabel_free {env : Env} {x : Str} : ∀ {names : List (Str × NameKind)},
    (names.map fun (n,k) => if (k == NameKind.free && env.scope.kind == .function && env.kindOf n == some .cell) then (n,NameKind.cell) else (n,k)).lookup x = some .cell ∨
    (names.map fun (n,k) => if (k == NameKind.free && env.scope.kind == .function && env.kindOf n == some .cell) then (n,NameKind.cell) else (n,k)).lookup x = some .free → (∃ k,(x,k) ∈ names ∧ (k = .free ∨ k = .cell))
  | [],h => by simp at h
  | (n,k) :: r,h => by
    have ih:=@relabel_free env x r
    have h' : List.lookup x ((if (k == NameKind.free && env.scope.kind == .function && env.kindOf n == some .cell) = true then (n,NameKind.cell) else (n,k)) :: (r.map fun (n,k) => if (k == NameKind.free && env.scope.kind == .function && env.kindOf n == some .cell) then (n,NameKind.cell) else (n,k))) = some .cell ∨
      List.lookup x ((if (k == NameKind.free && env.scope.kind == .function && env.kindOf n == some .cell) = true then (n,NameKind.cell) else (n,k)) :: (r.map fun (n,k) => if (k == NameKind.free && env.scope.kind == .function && env.kindOf n == some .cell) then (n,NameKind.cell) else (n,k))) = some .free:=h
    by_cases hc : (k == NameKind.free && env.scope.kind == .function && env.kindOf n == some .cell) = true
    · rw [if_pos hc] at h'
      cases hx : x == n with
      | true =>
        have e : x = n:=by simpa using hx
        have kf : k = .free:=by simp at hc; exact hc.1.1
        exact ⟨k,by rw [e]; exact List.mem_cons_self,.inl kf⟩
      | false =>
        simp only [List.lookup_cons,hx] at h'
        obtain ⟨k',m,q⟩:=ih h'
        exact ⟨k',List.mem_cons_of_mem _ m,q⟩
    · rw [if_neg hc] at h'
      cases hx : x == n with
      | true =>
        have e : x = n:=by simpa using hx
        simp only [List.lookup_cons,hx] at h'
        refine ⟨k,by rw [e]; exact List.mem_cons_self,?_⟩
        rcases h' with q | q
        · exact .inr (Option.some.inj q)
        · exact .inl (Option.some.inj q)
      | false =>
        simp only [List.lookup_cons,hx] at h'
        obtain ⟨k',m,q⟩:=ih h'
        exact ⟨k',List.mem_cons_of_mem _ m,q⟩
section
variable {X : Cx} {tg : Expr}
abbrev CTurn (g : TG) (tt : TT) (te : TE) (D : Addr) (N : List V → St → Hp → Prop) (ys : List V) (x : V) (σ : St) (H : Hp) : Prop :=
  g x σ H fun σ3 H3 => tt σ3 H3 fun b H4 => if b = true then te σ3 H4 fun v H5 => H5 D = some (.lst ys) ∧ N (ys ++ [v]) σ3 (upd H5 D (.lst (ys ++ [v]))) else N ys σ3 H4
def CLoop (J : It) (g : TG) (tt : TT) (te : TE) (D : Addr) (σ : St) (H : Hp) (Q : VK) : Prop :=
  ∃ W : Nat → Nat → List V → St → Hp → Prop,(∃ m,W 0 m [] σ H) ∧ ∀ i m ys σ' H',W i m ys σ' H' → (J.stop i H' ∧ Q (.ref D) H') ∨ (J.go i H' ∧ ys.length < sizeLine ∧
    ∃ N : List V → St → Hp → Prop,(∀ ys σ H,N ys σ H → ∃ m',m' < m ∧ W (i + 1) m' ys σ H) ∧ ∀ x H2,J.yld i H' x H2 → CTurn g tt te D N ys x σ' H2)
def tComp (wi : TI) (ix : List (Option Nat)) (g : TG) (tt : TT) (te : TE) : TE:=fun σ H Q => wi σ H fun J H1 => ∀ D,H1 D = none → CLoop J g tt te D (capt ix σ) (upd H1 D (.lst [])) Q
def PTs (X : Cx) (ifs : List Expr) (t : TT) : Prop :=
  ∀ (pins : List (Addr × Obj)) (s : Shared) (σ : St) (H : Hp) (Q : Bool → Hp → Prop),Inv X pins σ H s → t σ H Q →
    wpAny (model X.prog X.w) X.A (forIn ifs true fun c r => if r = true then do let ok ← isTrue c X.env (eval c X.env); pure (ForInStep.yield ok) else pure (ForInStep.yield r)) (TP X pins σ Q) X.xe s
def tAll : TT:=fun _ H Q => Q true H
theorem pts_nil : PTs X [] tAll:=fun _ _ _ H _ I h => wpAny_tests_nil ⟨H,I,h⟩
theorem pts_one {c : Expr} {t : TT} (h : PT X c t) : PTs X [c] t:=fun pins s σ H Q I q => wpAny_tests_one (h pins s σ H Q I q)
theorem comp_inv {pins : List (Addr × Obj)} {σ : St} {H : Hp} {s s4 : Shared} {N : List Str} {ix : List (Option Nat)} {sc : Scope} {C : Addr} {fp : List Addr} {h₁ : Heap} {tk : Nat} (I : Inv X pins σ H s) (hc : X.calm = true) {N0 : List Str} {sc0 : Scope} (hN : X.N = N0) (hsc : X.env.scope = sc0) (S : CScope N0 sc0 N ix sc) (hC : C = s.heap.objs.size)
    (hns : h₁.Ns C fun _ => none) (hk : ∀ b o,s.heap.get? b = some o → h₁.get? b = some o) (fpok : ∀ b ∈ fp,FpOk X pins H b) (fps : ∀ b ∈ fp,b < s.heap.objs.size) (e4 : s4 = { s with heap:=h₁,toks:=tk }) :
    Inv (cbx X N sc C s H fp) [] (capt ix σ) H s4:=by
  subst e4 hN hsc
  have cs : ∀ x c,(cloFrom X.env sc.names []).lookup x = some c → X.env.cells.lookup x = some c:=fun x c e => clo_sub sc.names [] (fun _ _ z => by simp at z) e
  have fpn : ∀ b ∈ fp,b ∉ frs X.stack:=fun b hb z => by
    obtain ⟨_,f1,f2,_⟩:=fpok b hb
    rcases List.mem_cons.mp (I.stkSub b z) with q | q
    · exact f1 q
    · exact f2 q
  refine ⟨⟨I.ok.mod,S.kind,I.ok.glob,I.ok.blt,Nat.le_of_eq hC.symm,fun y z c h1 h2 => I.ok.inj y z c (cs y c h1) (cs z c h2),fun y hy => ?_,fun y c hf _ => ?_,fun q => I.ok.hd q,I.ok.frames,.inl rfl,fun b hb => ⟨?_,fun x c e z => ?_⟩,I.bs,Nat.le_trans I.ok.bsz I.sz,fun b o e hb => ?_,fpn,I.stack,I.stkFree⟩,
    rfl,I.bare,Un.kept hk,⟨_,hns,fun j y v h1 h2 h3 => ?_⟩,fun y c h => ?_,?_,fun y c h => I.freeC y c (cs y c h),fun p hp => absurd (show p ∈ ([] : List (Addr × Obj)) from hp) (by simp),I.hok.kept hk,?_⟩
  · -- has
    have hy : (sc.names.map fun (n,k) => if (k == NameKind.free && X.env.scope.kind == .function && X.env.kindOf n == some .cell) then (n,NameKind.cell) else (n,k)).lookup y = some .cell ∨
      (sc.names.map fun (n,k) => if (k == NameKind.free && X.env.scope.kind == .function && X.env.kindOf n == some .cell) then (n,NameKind.cell) else (n,k)).lookup y = some .free:=hy
    obtain ⟨k,m,q⟩:=relabel_free hy
    rcases q with q | q
    · subst q
      obtain ⟨c,e⟩:=I.ok.has y (S.free _ m rfl)
      exact Option.isSome_iff_exists.mp (clo_has sc.names [] m e)
    · exact absurd q (S.cell _ m)
  · cases (show false = true from hf)
  · exact hC ▸ Nat.ne_of_lt (fps b hb)
  · exact (fpok b hb).2.2.2.2.1 x c (cs x c e) z
  · -- base objects are no iterators
    have q:=(I.bs b o e)
    obtain ⟨f0,f1,f2,f3,f4,f5⟩:=fpok b hb
    rcases f3 with z | z
    · exact I.ok.noex b o e z
    · exact absurd (Nat.lt_of_lt_of_le (Heap.lt_size (I.ok.bs b o e).1) z) (Nat.lt_irrefl _)
  · -- a captured name
    have hj : ∃ i,ix[j]? = some (some i) ∧ σ[i]? = some (some v):=by
      unfold capt at h2
      rw [List.getElem?_map] at h2
      cases e : ix[j]? with
      | none => rw [e] at h2; cases h2
      | some o =>
        rw [e] at h2
        cases o with
        | none => cases h2
        | some i =>
          refine ⟨i,rfl,?_⟩
          have h2 : (σ[i]?).join = some v:=Option.some.inj h2
          cases e' : σ[i]? with
          | none => rw [e'] at h2; cases h2
          | some q => rw [e'] at h2; rw [show q = some v from h2]
    obtain ⟨i,e1,e2⟩:=hj
    obtain ⟨c1,c2⟩:=S.cap j i y h1 e1
    have fr:=S.free (y,.free) (PySem.mem_of_lookup c2) rfl
    obtain ⟨m,hn,hl⟩:=I.loc
    obtain ⟨u,r,l⟩:=hl i y v c1 e2 (fr.elim (fun z => .inr (.inl z)) fun z => .inr (.inr z))
    refine ⟨u,r,?_⟩
    have fr' : X.env.kindOf y = some .cell ∨ X.env.kindOf y = some .free:=fr
    rcases l with ⟨k,_⟩ | ⟨_,c,e,z⟩
    · rcases fr' with q | q <;> (rw [k] at q; cases q)
    · refine .inr ⟨?_,c,?_,?_⟩
      · exact relabel_lookup (sc:=sc) c2
      · obtain ⟨c',e'⟩:=Option.isSome_iff_exists.mp (clo_has sc.names [] (PySem.mem_of_lookup c2) e)
        have:=cs y c' e'
        rw [e] at this; cases this
        exact e'
      · obtain ⟨o,ho,hd⟩:=z
        exact ⟨o,hk _ _ ho,hd⟩
  · obtain ⟨v,o,ho,hd⟩:=I.cell y c (cs y c h)
    exact ⟨v,o,hk _ _ ho,hd⟩
  · show H C = none
    exact I.hok.fresh (Nat.le_of_eq hC.symm)
  · show (capt ix σ).length = N.length
    unfold capt
    rw [List.length_map]; exact S.len
theorem comp_out {pins : List (Addr × Obj)} {σ σ' : St} {H H' : Hp} {s s' : Shared} {N : List Str} {sc : Scope} {C : Addr} {fp : List Addr} {h' : Heap} (I : Inv X pins σ H s) (hC : C = s.heap.objs.size)
    (J : Inv (cbx X N sc C s H fp) [] σ' H' s') (fpok : ∀ b ∈ fp,FpOk X pins H b) (sb : Heap.SameBut C s'.heap h') : Inv X pins σ H' { s' with heap:=h' }:=by
  have neC : ∀ b o,s.heap.get? b = some o → b ≠ C:=fun b o e => hC ▸ Nat.ne_of_lt (Heap.lt_size e)
  have cN : H' C = none:=J.free
  refine I.call' (s':={ s' with heap:=h' }) (ch:=fp) J.os ⟨fun b o e n hb hx => ?_,fun b o e n hb hx => ?_,fun b o e n hx => J.base.free b o e n hx,fun b o e hx => ?_,J.base.tups,J.base.frzs,J.base.tbls⟩ (fun a o e => ?_) J.bare fun b hb => ?_
  · exact sb.extBut b o (neC b o e) (J.base.keep b o e n hb hx)
  · obtain ⟨sl,q⟩:=J.base.slot b o e n hb hx
    exact ⟨sl,sb.extBut b _ (neC b o e) q⟩
  · obtain ⟨o',q⟩:=J.base.there b o e hx
    exact ⟨o',sb.extBut b _ (neC b o e) q⟩
  · refine (J.hok a o e).stay (fun c v hc q => sb.extBut c v ?_ q) (fun _ q => q) fun _ _ q => q
    rcases hc with z | z
    · subst z; rintro rfl; rw [cN] at e; cases e
    · rintro rfl; rw [cN] at z; cases z
  · obtain ⟨f0,f1,f2,f3,f4,f5⟩:=fpok b hb
    exact ⟨f3,f1,f4,f5⟩
theorem comp_loop {Y : Cx} {elt iter : Expr} {ifs : List Expr} {sc : Scope} {pos : Pos} {g : TG} {tt : TT} {te : TE} {J : It} {fp : List Addr} {it : Addr} {tn : Nat → Heap → Prop} {D : Addr} {Q : Hp → Prop} {R : Result → Shared → Prop} {s : Shared}
    (hy : Y.xe = fun _ _ => False) (hc : Y.calm = true) (T : Turn Y.prog Y.w Y.K tg J fp it tn) (hg : PG Y tg g) (ht : PTs Y ifs tt) (he : PE Y elt te) (W : Nat → Nat → List V → St → Hp → Prop)
    (turn : ∀ i m ys σ' H',W i m ys σ' H' → (J.stop i H' ∧ Q H') ∨ (J.go i H' ∧ ys.length < sizeLine ∧
      ∃ N : List V → St → Hp → Prop,(∀ ys σ H,N ys σ H → ∃ m',m' < m ∧ W (i + 1) m' ys σ H) ∧ ∀ x H2,J.yld i H' x H2 → g x σ' H2 fun σ3 H3 => tt σ3 H3 fun b H4 =>
        if b = true then te σ3 H4 fun v H5 => H5 D = some (.lst ys) ∧ N (ys ++ [v]) σ3 (upd H5 D (.lst (ys ++ [v])))
        else N ys σ3 H4))
    (fin : ∀ σ' H' s',Inv Y [] σ' H' s' → Q H' → R (.ok .next) s') {σ : St} {H : Hp} (I : Inv Y [] σ H s) (st : tn 0 s.heap) (fok : ∀ b ∈ fp,FpOk Y [] H b) {m : Nat} (w0 : W 0 m [] σ H) :
    codeAny (model Y.prog Y.w) Y.A (.compLoop (.ListComp elt [⟨tg,iter,ifs,0⟩] sc pos) 0 (.ref it) (.ref D) Y.env) R s:=by
  have stat : ∀ {H' : Hp},(∀ b ∈ fp,H' b = none) → ∀ b ∈ fp,FpOk Y [] H' b:=fun hn b hb => ⟨hn b hb,(fok b hb).2⟩
  have fx : ∀ {α : Type} {t : Sem α} {Q : α → Shared → Prop} {E : Value → Shared → Prop} {s : Shared},wpAny (model Y.prog Y.w) Y.A t Q Y.xe s → wpAny (model Y.prog Y.w) Y.A t Q E s:=fun h => wpAny_mono h (fun _ _ q => q) fun _ _ q => by rw [hy] at q; exact q.elim
  refine codeAny_loop rfl (fun n s' => ∃ i ys σ' H',Inv Y [] σ' H' s' ∧ tn i s'.heap ∧ (∀ b ∈ fp,H' b = none) ∧ W i n ys σ' H') ?_ m ⟨0,[],σ,H,I,st,fun b hb => (fok b hb).1,w0⟩
  rintro n s3 ⟨i,ys,σ3,H3,I3,st3,fr3,w3⟩
  show wpAny _ Y.A ((compTurn (.ListComp elt [⟨tg,iter,ifs,0⟩] sc pos) 0 (.ref it) (.ref D) Y.env).onRaise (fun x => do noteFrame x Y.env; theTreesLotGoes x)) _ _ s3
  refine wpAny_noted ?_
  rw [compTurn_list]
  refine wpAny_bind (wpAny_standAt (wpAny_bind ?_))
  rcases turn i n ys σ3 H3 w3 with ⟨stop,q⟩ | ⟨go,hz,N,hN,stp⟩
  · refine fx (thn (T.done Y rfl rfl rfl hc i [] s3 σ3 H3 _ I3 (stat fr3) st3 stop) fun r s4 ⟨hr,I4⟩ => ?_)
    subst hr
    exact wpAny_pure (fin σ3 H3 s4 I4 q)
  · refine fx (thn (T.item Y rfl rfl rfl hc i [] s3 σ3 H3 _ I3 (stat fr3) st3 go) fun r s4 ⟨u,hr,h4⟩ => ?_)
    subst hr
    refine wpAny_bind (fx (thn h4 fun _ s5 ⟨x,H5,I5,r5,y5,st5,fr5⟩ => ?_))
    have I5':=I5.pinned (stat fr5) (T.obj _ _ st5)
    have again : ∀ {ys7 : List V} {σ7 : St} {H7 : Hp} {s7 : Shared},Inv Y ([] ++ pinsAt fp s5.heap) σ7 H7 s7 → N ys7 σ7 H7 → ∃ m,m < n ∧ ∃ i ys σ' H',Inv Y [] σ' H' s7 ∧ tn i s7.heap ∧ (∀ b ∈ fp,H' b = none) ∧ W i m ys σ' H':=fun {ys7 σ7 H7 s7} I7 n7 => by
      obtain ⟨m',hm,w7⟩:=hN ys7 σ7 H7 n7
      refine ⟨m',hm,i + 1,ys7,σ7,H7,I7.unpinned,T.keep _ _ _ st5 fun b hb o e => (I7.pin (b,o) (List.mem_append_right _ (List.mem_append_right _ (mem_pinsAt hb e)))).1,fun b hb => ?_,w7⟩
      obtain ⟨o,e,d⟩:=T.obj _ _ st5 b hb
      exact (I7.pin (b,o) (List.mem_append_right _ (List.mem_append_right _ (mem_pinsAt hb e)))).2.1
    refine wpAny_bind (fx (thn (hg _ s5 σ3 H5 x u _ I5' r5 (stp x H5 y5)) fun _ s6 ⟨σ6,H6,I6,q6⟩ => ?_))
    refine wpAny_bind (fx (thn (ht _ s6 σ6 H6 _ I6 q6) fun b s7 ⟨H7,I7,q7⟩ => ?_))
    cases b with
    | false => exact wpAny_pure ⟨rfl,again I7 q7⟩
    | true =>
      refine wpAny_bind (wpAny_bind (fx (thn (he _ s7 σ6 H7 _ I7 q7) fun v s8 ⟨x8,H8,I8,r8,hD,q8⟩ => ?_)))
      refine wpAny_bind (fx (thn (mt_append (X:=Y) _ s8 σ6 H8 (.ref D) [x8] (.ref D) [v] (fun y H' => N (ys ++ [x8]) σ6 H') I8 rfl (.cons r8 .nil) ⟨D,ys,x8,rfl,rfl,hD,hz,q8⟩) fun _ s9 ⟨_,H9,I9,_,q9⟩ => ?_))
      exact wpAny_pure (wpAny_pure ⟨rfl,again I9 q9⟩)
theorem pe_comp {elt iter : Expr} {ifs : List Expr} {sc : Scope} {pos : Pos} {wi : TI} {N : List Str} {ix : List (Option Nat)} {g : TG} {tt : TT} {te : TE} (N0 : List Str) (sc0 : Scope) (hc : X.calm = true) (hN : X.N = N0) (hsc : X.env.scope = sc0) (S : CScope N0 sc0 N ix sc) (hi : PI X tg iter wi)
    (hg : ∀ C s₀ H₀ ex,(cbx X N sc C s₀ H₀ ex).N.Nodup → PG (cbx X N sc C s₀ H₀ ex) tg g) (ht : ∀ C s₀ H₀ ex,PTs (cbx X N sc C s₀ H₀ ex) ifs tt) (he : ∀ C s₀ H₀ ex,PE (cbx X N sc C s₀ H₀ ex) elt te)
    (hs : ∀ x,foldedSetIterable iter X.env x = pure x:=by intro _; rfl) : PE X (.ListComp elt [⟨tg,iter,ifs,0⟩] sc pos) (tComp wi ix g tt te):=by
  intro pins s σ H Q I h
  rw [eval_ListComp]
  have hcl : ∀ y ∈ sc.names,y.2 = .free → ∃ c,X.env.cells.lookup y.1 = some c:=fun y hy e => I.ok.has y.1 (by have:=S.free y hy e; rw [← hsc] at this; exact this)
  refine wpAny_comprehension_free (use:=none) rfl hs (closure_of hcl) S.kind S.names (thn (hi pins s σ H _ I h) fun v s1 h1 => thn h1 fun itv s2 h2 => ?_)
  obtain ⟨it,fp,tn,J,H2,e,I2,T,st2,f2,q⟩:=h2
  subst e
  refine wpAny_newObj_type (wpAny_newFunctionEnv S.cell (by intro y hy; simp at hy) (fun h₁ hns₁ hsb₁ => ?_) S.kind)
  dsimp only at hns₁ hsb₁ ⊢
  have hD : H2 s2.heap.objs.size = none:=I2.hok.fresh (Nat.le_refl _)
  obtain ⟨W,⟨m0,w0⟩,turn⟩:=q s2.heap.objs.size hD
  generalize hH3 : s2.heap.push { cls:=.type "list",dict:=none,data:=.seq ([] : List Value).toArray } = H3 at hns₁ hsb₁ ⊢
  have old3 : ∀ b o,s2.heap.get? b = some o → H3.get? b = some o:=fun b o e => hH3 ▸ Heap.get?_push_of_some _ e
  have new3 : H3.get? s2.heap.objs.size = some { cls:=.type "list",dict:=none,data:=.seq ([] : List Value).toArray }:=hH3 ▸ Heap.get?_push_size _ rfl
  have I3 : Inv X pins σ (upd H2 s2.heap.objs.size (.lst [])) { s2 with heap:=H3 } :=
    I2.laid (t':=s2.toks) old3 (Nat.le_refl _) ⟨Nat.zero_le _,[],_,.nil,new3⟩
  have hk : ∀ b o,H3.get? b = some o → h₁.get? b = some o:=fun b o e => hsb₁.extBut b o (Nat.ne_of_lt (Heap.lt_size e)) (Heap.get?_push_of_some _ e)
  have fps : ∀ b ∈ fp,b < s2.heap.objs.size:=fun b hb => by
    obtain ⟨o,e,_⟩:=T.obj _ _ st2 b hb
    exact Heap.lt_size e
  have f3 : ∀ b ∈ fp,FpOk X pins (upd H2 s2.heap.objs.size (.lst [])) b:=fun b hb => ⟨by rw [upd_ne (Nat.ne_of_lt (fps b hb))]; exact (f2 b hb).1,(f2 b hb).2⟩
  have s3 : H3.objs.size = s2.heap.objs.size + 1:=by rw [← hH3,Heap.size_push]
  have I4:=comp_inv (s4:={ s2 with heap:=h₁,toks:=s2.toks + ([] : List (Str × Value)).length }) (h₁:=h₁) I3 hc hN hsc S (C:=H3.objs.size) rfl hns₁ hk f3 (fun b hb => by show b < H3.objs.size; rw [s3]; exact Nat.lt_succ_of_lt (fps b hb)) rfl
  have st4 : tn 0 h₁:=T.keep _ _ _ st2 fun b _ o e => hk b o (old3 b o e)
  have f4 : ∀ b ∈ fp,FpOk (cbx X N sc H3.objs.size { s2 with heap:=H3 } (upd H2 s2.heap.objs.size (.lst [])) fp) [] (upd H2 s2.heap.objs.size (.lst [])) b:=fun b hb => by
    obtain ⟨f0,f1,f2',f3',f4',f5'⟩:=f3 b hb
    refine ⟨f0,?_,I4.ok.exfs b hb,.inl hb,fun x c e z => ?_,fun p hp => absurd (show p ∈ ([] : List (Addr × Obj)) from hp) (by simp)⟩
    · show b ≠ H3.objs.size
      rw [s3]; exact Nat.ne_of_lt (Nat.lt_succ_of_lt (fps b hb))
    · exact f4' x c (clo_sub sc.names [] (fun _ _ z => by simp at z) e) z
  have loop : codeAny (model X.prog X.w) X.A (.compLoop (.ListComp elt [⟨tg,iter,ifs,0⟩] sc pos) 0 (.ref it) (.ref s2.heap.objs.size) (compEnvC sc (cloFrom X.env sc.names []) H3.objs.size X.env))
      (compPost (model X.prog X.w) X.A X.xe none (EP X pins σ Q) (.ref s2.heap.objs.size) H3.objs.size) { s2 with heap:=h₁,toks:=s2.toks + ([] : List (Str × Value)).length }:=by
    refine comp_loop (Y:=cbx X N sc H3.objs.size { s2 with heap:=H3 } (upd H2 s2.heap.objs.size (.lst [])) fp) (Q:=Q (.ref s2.heap.objs.size)) rfl hc T (hg _ _ _ _ S.nd) (ht _ _ _ _) (he _ _ _ _) W turn (fun σ' H' s' J' q' => ?_) I4 st4 f4 w0
    obtain ⟨m,hn,_⟩:=J'.loc
    exact ⟨m,hn,fun h' sb => ⟨.ref s2.heap.objs.size,H',comp_out I3 rfl J' f3 sb,rfl,q'⟩⟩
  exact codeAny_compStart_list loop (T.self _ 0 _ _ _ st4 loop)
end
end L2
set_option Elab.async false
set_option linter.all false
set_option maxRecDepth 100000
namespace L2
open PySem PySem.Spec PyProof.Rows
section
variable (P : Program) (w : World) (K : PySem.W.Frag) (mg : Str → Option Value) (base : Heap)
structure Mt (C : Addr) (m : Str) (k : Nat) (ps : List Str) (sp : Sp) : Prop where
  ex : ∃ f fd,Meth K C m f ∧ FnOk P w K mg base CX0 k f fd ps sp ∧ Binds K fd ps []
structure Fn (x : Str) (k : Nat) (ps : List Str) (sp : Sp) : Prop where
  ex : ∃ f fd,mg x = some (.ref f) ∧ PySem.W.keepIn K (.ref f) = true ∧ FnOk P w K mg base CX0 k f fd ps sp ∧ Binds K fd ps []
structure Mkr (x : Str) (C : Addr) (k : Nat) (ps : List Str) (sp : Sp) : Prop where
  ex : ∃ f fd,mg x = some (.ref C) ∧ Mk K C f ∧ FnOk P w K mg base CX0 k f fd ps sp ∧ Binds K fd ps []
end
section
variable {P : Program} {w : World} {K : PySem.W.Frag} {mg : Str → Option Value} {base : Heap} {C : Addr} {m x : Str} {j k : Nat} {ps : List Str} {sp sp' : Sp}
theorem Mt.mono (M : Mt P w K mg base C m j ps sp) (h : j ≤ k) : Mt P w K mg base C m k ps sp:=let ⟨f,fd,a,b,c⟩:=M.ex; ⟨f,fd,a,b.mono h,c⟩
end
section
variable {X : Cx} {k j : Nat} {C : Addr} {ps : List Str} {sp : Sp} {x m : Str} {p pos apos : Pos} {e o : Expr} {es : List Expr} {ta : TE} {t : TA}
theorem pe_fn (F : Fn X.prog X.w X.K X.mg X.base x k ps sp) (hr : Room j X.A) (hj : k ≤ j) (ha : PA X (e :: es) t) (hg : Gl X x:=by rfl) (hdb : (x == ("__debug__" : Str)) = false:=by decide)
    (he : starEach (e :: es) X.env = (false,eval e X.env) :: starEach es X.env:=by rfl) (hpl : (backTo pos (starEach es X.env)).any (·.1) = false:=by rfl) :
    PE X (.Call (.Name x p) (e :: es) [] pos) (tCall sp [] E0 t):=by
  obtain ⟨f,fd,h1,h2,h3,h4⟩:=F.ex
  exact pe_call h3 (hr.mono hj) hg h1 h2 h4 .nil pass0 ha hdb he hpl
theorem pe_mk (F : Mkr X.prog X.w X.K X.mg X.base x C k ps sp) (hr : Room j X.A) (hj : k + 1 ≤ j) (ha : PA X (e :: es) t) (hg : Gl X x:=by rfl) (hdb : (x == ("__debug__" : Str)) = false:=by decide)
    (he : starEach (e :: es) X.env = (false,eval e X.env) :: starEach es X.env:=by rfl) (hpl : (backTo pos (starEach es X.env)).any (·.1) = false:=by rfl) :
    PE X (.Call (.Name x p) (e :: es) [] pos) (tMake C sp [] E0 t):=by
  obtain ⟨f,fd,h1,h2,h3,h4⟩:=F.ex
  exact pe_make h2 h3 (hr.mono hj) hg h1 h4 .nil pass0 ha hdb he hpl
theorem pe_mt {pl : Sem Bool} (M : Mt X.prog X.w X.K X.mg X.base C m k ps sp) (c : Cls X.K C) (hr : Room j X.A) (hj : k ≤ j) (ho : PE X o ta) (ha : PA X (e :: es) t)
    (hst : starEach (e :: es) X.env = (false,eval e X.env) :: starEach es X.env:=by rfl) (hpl : (backTo pos (starEach es X.env)).any (·.1) = false:=by rfl)
    (ht : eval (.Call (.Attribute o m apos) (e :: es) [] pos) X.env = (do
      let ov ← eval o X.env
      standAt apos.atName
      let (f,first) ← holding [ov] (getMethod ov m pl)
      callWith pos f first (backTo pos (starEach (e :: es) X.env)) (backToKw pos (keywordEach [] X.env))):=by rfl) :
    PE X (.Call (.Attribute o m apos) (e :: es) [] pos) (tMeth C m sp [] E0 ta t):=by
  obtain ⟨f,fd,h1,h2,h3⟩:=M.ex
  exact pe_meth (pl:=pl) ho c h1 h2 (hr.mono hj) h3 .nil pass0 ha hst hpl ht
theorem pe_mt0 {pl : Sem Bool} (M : Mt X.prog X.w X.K X.mg X.base C m k ps sp) (c : Cls X.K C) (hr : Room j X.A) (hj : k ≤ j) (ho : PE X o ta)
    (ht : eval (.Call (.Attribute o m apos) [] [] pos) X.env = (do
      let ov ← eval o X.env
      standAt apos.atName
      let (f,first) ← holding [ov] (getMethod ov m pl)
      callWith pos f first (backTo pos (starEach [] X.env)) (backToKw pos (keywordEach [] X.env))):=by rfl) :
    PE X (.Call (.Attribute o m apos) [] [] pos) (tMeth C m sp [] E0 ta tNil):=by
  obtain ⟨f,fd,h1,h2,h3⟩:=M.ex
  exact pe_meth0 (pl:=pl) ho c h1 h2 (hr.mono hj) h3 .nil pass0 ht
end
theorem le1000 {n : Nat} (h : n ≤ 1000) : n ≤ sizeLine:=Nat.le_of_lt (small1000 h)
theorem seq_mid {t u : TS} {D : Ends} {σ : St} {H : Hp} (M : St → Hp → Prop) (ht : ∀ U : St → Hp → Prop,(∀ σ H,M σ H → U σ H) → t { D with nx:=U } σ H) (hu : ∀ σ H,M σ H → u D σ H) : tSeq t u D σ H:=ht _ hu
section
variable {ix : List (Option Nat)} {g : TG} {tt : TT} {te : TE} {σ : St} {H : Hp} {Q : VK} {D : Addr}
theorem comp_range {lo : Int} {n : Nat} (hn : n ≤ 1000) (Pv : Nat → List V → St → Hp → Prop) (h0 : Pv 0 [] σ H) (hl : ∀ i ys σ H,Pv i ys σ H → ys.length ≤ i)
    (hs : ∀ i ys σ' H',i < n → Pv i ys σ' H' → CTurn g tt te D (Pv (i + 1)) ys (.int (lo + i)) σ' H')
    (hd : ∀ ys σ' H',Pv n ys σ' H' → Q (.ref D) H') : CLoop (Itr lo n) g tt te D σ H Q:=by
  refine ⟨fun i m ys σ H => m = n - i ∧ i ≤ n ∧ Pv i ys σ H,⟨n,by simp,Nat.zero_le _,h0⟩,?_⟩
  rintro i m ys σ' H' ⟨rfl,hi,p⟩
  by_cases hlt : i < n
  · refine .inr ⟨hlt,small1000 (Nat.le_trans (hl _ _ _ _ p) (by omega)),Pv (i + 1),fun ys σ H q => ⟨n - (i + 1),by omega,rfl,hlt,q⟩,fun x H2 y => ?_⟩
    obtain ⟨e,y⟩:=y
    subst e y
    exact hs i ys σ' _ hlt p
  · have e : i = n:=by omega
    subst e
    exact .inl ⟨Nat.le_refl _,hd ys σ' H' p⟩
end
section
variable {X : Cx} (K : PySem.W.Frag)
def rLen (K : PySem.W.Frag) : List V → Hp → VK → Prop:=fun xs H Q => ∃ p ys,xs = [.ref p] ∧ (SqL K H p ys ∨ SqT K H p ys) ∧ Q (.int ys.length) H
theorem k_in (h : X.K = K) : OpR X (compareOp .In) (rIn K false):=h ▸ op_in_seq
theorem k_notIn (h : X.K = K) : OpR X (compareOp .NotIn) (rIn K true):=h ▸ op_notIn_seq
theorem k_len (h : X.K = K) : CallR X (.builtin "len") (rLen K):=h ▸ call_len_seq
theorem k_ixT (h : X.K = K) : IxR X (rIxT K):=h ▸ ix_tup
theorem k_ixL (h : X.K = K) : IxR X (rIxL K):=h ▸ ix_list
theorem k_catT (h : X.K = K) : OpR X (binaryOp .Add) (rCatT K):=h ▸ op_catT
end
end L2
set_option Elab.async false
set_option linter.all false
set_option maxRecDepth 100000
namespace L2
open PySem PySem.Spec PyProof.Rows
mutual
inductive DV (K : PySem.W.Frag) (H : Hp) : V → PyData → Prop
  | non : DV K H .non .none
  | bl (b : Bool) : DV K H (.bl b) (.bool b)
  | int (i : Int) : DV K H (.int i) (.int i)
  | str (x : Str) : DV K H (.str x) (.str x)
  | tup {a : Addr} {xs : List V} {ds : List PyData} : SqT K H a xs → DVs K H xs ds → DV K H (.ref a) (.tuple ds)
  | lst {a : Addr} {xs : List V} {ds : List PyData} : SqL K H a xs → DVs K H xs ds → DV K H (.ref a) (.list ds)
inductive DVs (K : PySem.W.Frag) (H : Hp) : List V → List PyData → Prop
  | nil : DVs K H [] []
  | cons {x : V} {xs : List V} {d : PyData} {ds : List PyData} : DV K H x d → DVs K H xs ds → DVs K H (x :: xs) (d :: ds)
end
section
variable {X : Cx} {pins : List (Addr × Obj)} {σ : St} {H : Hp} {s : Shared}
mutual
theorem DV.reads (I : Inv X pins σ H s) : ∀ {x : V} {d : PyData} {u : Value},DV X.K H x d → RelV x u → ∃ as,Reads s.heap u d as
  | _,_,_,.non,r => by cases (show _ = Value.none from r); exact ⟨_,.none⟩
  | _,_,_,.bl b,r => by cases (show _ = Value.bool b from r); exact ⟨_,.bool b⟩
  | _,_,_,.int i,r => by obtain ⟨t,rfl⟩:=r; exact ⟨_,.int i t⟩
  | _,_,_,.str x,r => by obtain ⟨t,rfl⟩:=r; exact ⟨_,.str x t⟩
  | _,_,_,.tup (a:=a) h hs,r => by
    cases (show _ = Value.ref a from r)
    obtain ⟨its,rv,⟨o,ho,hc,n,hd⟩,_⟩:=I.tuple h
    obtain ⟨as,q⟩:=DVs.reads I hs rv
    exact ⟨as,.tuple ho hc hd (by simpa using q)⟩
  | _,_,_,.lst (a:=a) h hs,r => by
    cases (show _ = Value.ref a from r)
    obtain ⟨its,rv,⟨o,n,ho,hc,_,hd⟩,_⟩:=I.list h
    obtain ⟨as,q⟩:=DVs.reads I hs rv
    exact ⟨_,.list ho hc hd (by simpa using q)⟩
theorem DVs.reads (I : Inv X pins σ H s) : ∀ {xs : List V} {ds : List PyData} {us : List Value},DVs X.K H xs ds → Vals xs us → ∃ as,ReadsAll s.heap us ds as
  | _,_,_,.nil,r => by cases r; exact ⟨_,.nil⟩
  | _,_,_,.cons h hs,r => by
    cases r with
    | cons r rr =>
      obtain ⟨a,q⟩:=DV.reads I h r
      obtain ⟨b,p⟩:=DVs.reads I hs rr
      exact ⟨_,.cons q p⟩
end
def rEqD (K : PySem.W.Frag) (neg : Bool) : R2:=fun x y H Q => ∃ d e,DV K H x d ∧ DV K H y e ∧ SeqAt.shaped d = true ∧ SeqAt.shaped e = true ∧ Q (.bl (if neg then !PyData.eqv d e else PyData.eqv d e)) H
theorem op_eqD (K : PySem.W.Frag) (hK : X.K = K) {k : Nat} (hr : Room k X.A) : OpR X (compareOp .Eq) (rEqD K false):=by
  subst hK
  intro pins s σ H x y v u Q I rx ry h
  obtain ⟨d,e,h1,h2,s1,s2,q⟩:=h
  obtain ⟨as,r1⟩:=h1.reads I rx
  obtain ⟨bs,r2⟩:=h2.reads I ry
  exact eq_dataH r1 r2 s1 s2 hr.units ⟨.bl _,H,I,rfl,q⟩
end
theorem dvs_ints {K : PySem.W.Frag} {H : Hp} : ∀ ns : List Int,DVs K H (ns.map V.int) (ns.map PyData.int)
  | [] => .nil
  | n :: r => .cons (.int n) (dvs_ints r)
theorem eqv_ints : ∀ ns ms : List Int,PyData.eqvAll (ns.map PyData.int) (ms.map PyData.int) = decide (ns = ms)
  | [],[] => by simp [PyData.eqvAll]
  | [],_ :: _ => by simp [PyData.eqvAll]
  | _ :: _,[] => by simp [PyData.eqvAll]
  | a :: r,b :: t => by
    simp only [List.map_cons,PyData.eqvAll,PyData.eqv,eqv_ints r t]
    by_cases h : a = b <;> by_cases h' : r = t <;> simp [h,h']
theorem canLay_ints : ∀ ns : List Int,PyData.canLayAll0 (ns.map PyData.int) = true
  | [] => rfl
  | _ :: r => by simp [PyData.canLayAll0,PyData.canLay0,canLay_ints r]
theorem depth_ints : ∀ ns : List Int,PyData.depthAll (ns.map PyData.int) = 0
  | [] => rfl
  | _ :: r => by simp [PyData.depthAll,PyData.depth,depth_ints r]
theorem shaped_ints (ns : List Int) : SeqAt.shaped (.tuple (ns.map PyData.int)) = true:=by
  simp [SeqAt.shaped,PyData.canLay0,PyData.depth,canLay_ints,depth_ints]
def rBits : V → List V → Hp → VK → Prop:=fun x vs H Q => ∃ i,x = .int i ∧ vs = [] ∧ Q (.int ((Builtin.Int.intBits i : Nat) : Int)) H
theorem mt_bits {X : Cx} : MtM X "int.bit_length" rBits:=by
  intro pins s σ H x vs v us Q I rx rv h
  obtain ⟨i,rfl,rfl,q⟩:=h
  obtain ⟨t,rfl⟩:=rx
  cases rv
  refine call_gives F.slot_int_bit_length (typeIs_int s i t) F.entry_int_bit_length (F.args_int_bit_length_1 _) (AutoIntG2.int_bit_length_int_0 i t) ?_
  exact ⟨.int _,H,I.tok _,⟨_,rfl⟩,q⟩
section
variable {X : Cx} {tg : Expr}
end
end L2
set_option Elab.async false
set_option linter.all false
set_option maxRecDepth 100000
namespace L2
open PySem PySem.Spec PyProof.Rows
section
variable {X : Cx}
theorem pre_take (ns : List Int) : ∀ j,j ≤ ns.length → preSum (fun i => ns.getD i 0) j = (ns.take j).sum
  | 0,_ => by simp [preSum]
  | j + 1,h => by
    rw [preSum,pre_take ns j (by omega),List.take_add_one,List.getElem?_eq_getElem (by omega),List.sum_append,List.getD_eq_getElem?_getD,List.getElem?_eq_getElem (by omega)]
    simp
theorem pre_sum (ns : List Int) : preSum (fun i => ns.getD i 0) ns.length = ns.sum:=by rw [pre_take ns _ (Nat.le_refl _),List.take_length]
end
end L2
set_option Elab.async false
set_option linter.all false
set_option maxRecDepth 100000
namespace L2
open PySem PySem.Spec PyProof.Rows
section
variable {prog : Program} {w : World} {K : Type} [DecidableEq K] {A : Around} {E : Value → Shared → Prop} {s : Shared}
theorem setDefault_heap {knd : HeapKind prog w K} {d a : Addr} {xs : List (K × Addr × Value)} {k : K} {v : Value} {Q : Value → Shared → Prop} (hu : knd.room A) (hkey : knd.is s.heap k a) (hm : s.heap.DictOfH knd d xs) (hsz : xs.length ≤ sizeLine)
    (h1 : ∀ p,atKey xs k = some p → Q p.2 { s with toks:=s.toks + knd.draws k })
    (h2 : atKey xs k = none → ∀ h',h'.DictOfH knd d (storedH xs k a v) → Heap.SameBut d s.heap h' → Q v { s with heap:=h',toks:=s.toks + knd.draws k }) :
    wpAny (model prog w) A (dictSetDefault d (.ref a) v) Q E s:=by
  obtain ⟨o,es,ep,ho,hc,hd,he,his,hn⟩:=hm
  unfold dictSetDefault
  try with_reducible refine wpAny_holding ?_
  refine wpAny_bind (knd.pyHash hu hkey ?_)
  refine wpAny_bind (wpAny_dictFind_heap (s:={ s with toks:=s.toks + knd.draws k }) hu hkey ho hd he his hn ?_ ?_)
  · intro hno
    have hnone:=atKey_none_of_get hno
    have hnot : k ∉ xs.map (·.1):=not_mem_keys_of_get hno
    refine wpAny_bind (wpAny_rule (wpAny_bind (wpAny_updateDictKeys (hz:=by have e:=size_of_entries he; omega) (s:={ s with toks:=s.toks + knd.draws k }) ho hd (wpAny_pure (h2 hnone _ ⟨_,_,ep + 1,Heap.get?_update_self _ ho (Obj.isFreed_of_dict (Obj.data_mapDictKeys hd _)),
      hc.mapDictKeys _,Obj.data_mapDictKeys hd _,?_,?_,?_⟩ (Heap.SameBut.update ..))))))
    · rw [storedH_new hnone]
      simp [he,entryOfKey]
    · rw [storedH_new hnone]
      intro x hx
      rcases List.mem_append.mp hx with hx | hx
      · exact knd.keeps (his x hx) ho hd (Heap.SameBut.update ..)
      · simp only [List.mem_singleton] at hx
        subst hx
        exact knd.keeps hkey ho hd (Heap.SameBut.update ..)
    · rw [storedH_new hnone]
      rw [List.map_append,List.nodup_append]
      refine ⟨hn,by simp,?_⟩
      intro x hx y hy
      simp only [List.map_cons,List.map_nil,List.mem_singleton] at hy
      subst hy
      exact fun e => hnot (e ▸ hx)
  · intro j p hj
    refine wpAny_bind (wpAny_dictEntries (s:={ s with toks:=s.toks + knd.draws k }) ho hd ?_)
    rw [entry_at he j,hj]
    exact wpAny_bind (wpAny_rule (wpAny_pure (h1 p (atKey_of_get hn hj))))
theorem meetsH_setdefault (knd : HeapKind prog w K) (d a : Addr) (hd : (d == sysModules) = false) (dflt : Value) :
    MeetsIn prog w (Builtin.«dict.setdefault» ⟨[.ref d,.ref a,dflt],[]⟩) (fun A R s => knd.room A.in1 ∧ ∃ k xs,knd.is s.heap k a ∧ s.heap.DictOfH knd d xs ∧ xs.length ≤ sizeLine ∧
      (∀ p,atKey xs k = some p → R (.ok (.ret p.2)) { s with toks:=s.toks + knd.draws k }) ∧
      (atKey xs k = none → ∀ h',h'.DictOfH knd d (storedH xs k a dflt) → Heap.SameBut d s.heap h' → R (.ok (.ret dflt)) { s with heap:=h',toks:=s.toks + knd.draws k })) :=
  .of_wp fun A R s ⟨hu,k,xs,hkey,hm,hz,h1,h2⟩ => by
    unfold Builtin.«dict.setdefault»
    refine wpAny_bind ?_
    unfold Builtin.Dict.keyAndDefault
    refine wpAny_bind (wpAny_notOrdered_dict hm.typeIs ?_)
    show wpAny _ _ (pure (d,Value.ref a,some dflt)) _ _ s
    refine wpAny_pure ?_
    show wpAny _ _ (if (d == sysModules) = true then _ else (dictSetDefault d (.ref a) dflt >>= _)) _ _ s
    rw [if_neg (by rw [hd]; exact Bool.false_ne_true)]
    exact wpAny_bind (setDefault_heap hu hkey hm hz (fun p hp => wpAny_pure ⟨p.2,rfl,h1 p hp⟩) fun hn h' hm' hs' => wpAny_pure ⟨dflt,rfl,h2 hn h' hm' hs'⟩)
end
section
variable {X : Cx}
def rSetD : V → List V → Hp → VK → Prop:=fun x vs H Q => ∃ a y z,x = .ref a ∧ vs = [y,z] ∧
  ((∃ kvs k,H a = some (.dK kvs) ∧ y = kV k ∧ kvs.length < sizeLine ∧ (∀ v,valV kvs k = some v → Q v H) ∧ (valV kvs k = none → Q z (upd H a (.dK (putK kvs k z))))) ∨
   (∃ kvs k b,H a = some (.dT kvs) ∧ y = .ref b ∧ H b = some (.tup (k.map kV)) ∧ kvs.length < sizeLine ∧ (∀ v,valV kvs k = some v → Q v H) ∧ (valV kvs k = none → Q z (upd H a (.dT (putK kvs k z))))))
theorem mt_setd (hu : X.A.units + 1 < cLine) : MtM X "dict.setdefault" rSetD:=by
  intro pins s σ H x vs v us Q I rx rv h
  obtain ⟨a,y,z,rfl,rfl,h⟩:=h
  cases rx
  obtain ⟨u,r,rfl,ry,rz⟩:=rv.two
  rcases h with ⟨kvs,k,e,ey,hl,q1,q2⟩ | ⟨kvs,k,b,e,ey,eb,hl,q1,q2⟩
  · subst ey
    obtain ⟨zz,hd,ws,rel,dd⟩:=dk_of I.hok e
    have hz : ws.length ≤ sizeLine:=by rw [← rel.length]; exact zz
    refine call_meetsIn PySem.F.slot_dict_setdefault dd.typeIs PySem.F.entry_dict_setdefault (PySem.F.args_dict_setdefault_3 _ _ _) (kt_meets_setdefault (mixKind X.prog X.w) a (kV_is ry) hd r) ⟨ws,dd,hz,fun w' hw => ?_,fun hn h' dd' hs => ?_⟩
    · cases ev : valV kvs k with
      | none =>
        have:=(rel.val k).isSome_eq
        rw [ev,hw] at this; cases this
      | some v' =>
        have rr:=rel.val k
        rw [ev,hw] at rr
        exact ⟨v',H,I.tok _,rr,q1 v' ev⟩
    · have ev : valV kvs k = none:=by
        cases ev : valV kvs k with
        | none => rfl
        | some v' =>
          have:=(rel.val k).isSome_eq
          rw [ev,hn] at this; cases this
      have he : ∃ q,h'.get? a = some q:=let ⟨q,_,_,hq,_⟩:=dd'; ⟨q,hq⟩
      have hl2 : (putK kvs k z).length ≤ sizeLine:=by have:=length_putK kvs k z; omega
      exact ⟨z,_,d_write I (by rw [e]; exact True.intro) hs he (dk_new hl2 hd (rel.put k rz) dd'),rz,q2 ev⟩
  · subst ey
    cases (show u = Value.ref b from ry)
    obtain ⟨zz,hd,xs,rel,dd⟩:=dt_of I.hok e
    have hz : xs.length ≤ sizeLine:=by rw [← Paired.length rel]; exact zz
    refine call_meetsIn PySem.F.slot_dict_setdefault dd.typeIs PySem.F.entry_dict_setdefault (PySem.F.args_dict_setdefault_3 _ _ _) (meetsH_setdefault (tupleKind (mixKind X.prog X.w)) a b hd r) ⟨tupleKind_room_in1 hu,k,xs,key_of I.hok eb,dd,hz,fun w' hw => ?_,fun hn h' dd' hs => ?_⟩
    · cases ev : valV kvs k with
      | none =>
        have:=(rel.val k).isSome_eq
        rw [ev,hw] at this; cases this
      | some v' =>
        have rr:=rel.val k
        rw [ev,hw] at rr
        exact ⟨v',H,I.tok _,rr,q1 v' ev⟩
    · have ev : valV kvs k = none:=by
        cases ev : valV kvs k with
        | none => rfl
        | some v' =>
          have:=(rel.val k).isSome_eq
          rw [ev,hn] at this; cases this
      have hl2 : (putK kvs k z).length ≤ sizeLine:=by have:=length_putK kvs k z; omega
      obtain ⟨q,es,ep,hq,h2,h3,h4,_,h5⟩:=dd'
      have ok : ObjOk X.prog X.w (upd H a (.dT (putK kvs k z))) h' a (.dT (putK kvs k z)):=by
        refine ⟨hl2,hd,_,(rel.put k eb rz).keeps fun c ys ec => ?_,q,es,ep,hq,h2,h3,h4,h5⟩
        rw [upd_ne (ne_of ec e (fun z => nomatch z))]
        exact ec
      exact ⟨z,_,d_write I (by rw [e]; exact True.intro) hs ⟨q,hq⟩ ok,rz,q2 ev⟩
theorem ints_of_keys {P : Program} {w : World} : ∀ {ns : List Int} {us : List Value},us.length = ns.length → (∀ (j : Nat) (v : Value),us[j]? = some v → ∃ i,ns[j]? = some i ∧ ∃ t,v = .int i t) → IntsAre us ns
  | [],[],_,_ => .nil
  | [],_ :: _,h,_ => by simp at h
  | _ :: _,[],h,_ => by simp at h
  | n :: ns,u :: us,h,q => by
    obtain ⟨i,e,t,rfl⟩:=q 0 u rfl
    simp at e
    subst e
    exact .cons _ _ (ints_of_keys (P:=P) (w:=w) (by simpa using h) fun j v hv => by simpa using q (j + 1) v (by simpa using hv))
def rSortD : List V → Hp → VK → Prop:=fun xs H Q => ∃ a kvs,∃ ns : List Int,xs = [.ref a] ∧ H a = some (.dK kvs) ∧ kvs.map (·.1) = ns.map Sum.inl ∧ ns.length < 64 ∧
  ∀ l ms,H l = none → List.Perm ms ns → ms.Pairwise (· ≤ ·) → Q (.ref l) (upd H l (.lst (ms.map V.int)))
theorem call_sortD (hc : X.calm = true) : CallR X (.builtin "sorted") rSortD:=by
  intro pins s σ H xs us Q I r h
  obtain ⟨a,kvs,ns,rfl,e,hk,h64,q⟩:=h
  obtain ⟨u,rfl,ru⟩:=vals1 r
  cases ru
  obtain ⟨z,hd,vs,rel,dd⟩:=dk_of I.hok e
  obtain ⟨ep,hat⟩:=dd.dictAt
  have hlen : vs.length = ns.length:=by
    have h1:=rel.length
    have h2:=congrArg List.length hk
    rw [List.length_map,List.length_map] at h2
    omega
  have hn : vs.length ≤ sizeLine:=by rw [← rel.length]; exact z
  refine Calls.call_function_entry kind_sorted plain_sorted entry_sorted (args_sorted1 _) ?_
  unfold Builtin.«sorted»
  refine wpAny_bind (m:=checkCount "sorted" 1 1 _) (wpAny_pure ?_)
  refine wpAny_bind (PySem.W.kdu_collect (A:=X.A.in1) (PySem.W.kdl_dict (knd:=mixKind X.prog X.w) (kvs:=vs) (ep:=ep) hd) (I.ok.hd hc) hat hn fun h' tk acc hkeep hacc => ?_)
  have hal : acc.toList.length = ns.length:=by rw [Array.length_toList,hacc.1,hlen]
  have hI : IntsAre acc.toList ns:=by
    refine ints_of_keys (P:=X.prog) (w:=X.w) hal fun j v hv => ?_
    obtain ⟨k,x,hx,hkv⟩:=hacc.2 j v (by rw [← Array.getElem?_toList]; exact hv)
    have hj : j < ns.length:=by rw [← hal]; exact (List.getElem?_eq_some_iff.mp hv).1
    have hkj : (vs.map (·.1))[j]? = some k:=by rw [List.getElem?_map,hx]; rfl
    rw [← rel.keys,hk,List.getElem?_map,List.getElem?_eq_getElem hj] at hkj
    have ek : (Sum.inl ns[j] : Key) = k:=Option.some.inj hkj
    subst ek
    refine ⟨ns[j],List.getElem?_eq_getElem hj,?_⟩
    have hkv : keyIs (.inl ns[j]) v = true:=hkv
    rcases keyIs_shape hkv with ⟨i,t,e1,e2⟩ | ⟨i,t,e1,e2⟩
    · injection e1 with e1
      exact ⟨t,by rw [e2,e1]⟩
    · exact nomatch e1
  refine wpAny_bind (wpAny_newList ?_ (by rw [hal]; rw [sizeLine_eq]; omega))
  have I1 : Inv X pins σ H { s with heap:=h',toks:=tk }:=I.kept (t':=tk) hkeep
  have hoL : (h'.push (seqObj "list" acc.toList.toArray 0)).get? h'.objs.size = some (seqObj "list" acc.toList.toArray 0):=Heap.get?_push_size _ rfl
  show wpAny _ _ _ _ _ { s with heap:=h'.push (seqObj "list" acc.toList.toArray 0),toks:=tk }
  refine wpAny_bind (wpAny_holding (wpAny_call_entry slot_list_sort ⟨_,hoL,rfl⟩ entry_list_sort (list_sort_tree hoL hI (by rw [hal]; exact h64) fun out ns' a1 a2 a3 => ⟨_,rfl,?_⟩) (args_list_sort _)))
  refine wpAny_pure ⟨_,rfl,?_⟩
  obtain ⟨ee,hee⟩:=sortedHeap_at (out:=out) hoL
  have I2 : Inv X pins σ (upd H h'.objs.size (.lst (ns'.map V.int))) { s with heap:=sortedHeap (h'.push (seqObj "list" acc.toList.toArray 0)) h'.objs.size acc.toList out,toks:=tk }:=by
    refine I1.laid (t':=tk) (fun b o hb => ?_) (Nat.le_refl _) ⟨?_,out.toList,ee,vals_ints a1,hee⟩
    · have hlt:=Heap.lt_size hb
      rw [sortedHeap_old (Nat.ne_of_lt hlt) (by rw [size_push']; exact Nat.lt_succ_of_lt hlt)]
      exact Heap.get?_push_of_some _ hb
    · rw [List.length_map,a2.length_eq,sizeLine_eq]; omega
  exact ⟨.ref h'.objs.size,_,I2,rfl,q _ ns' (I1.hok.fresh (Nat.le_refl _)) a2 a3⟩
end
end L2
set_option Elab.async false
set_option linter.all false
set_option maxRecDepth 100000
namespace L2
open PySem PySem.Spec PyProof.Rows
section
variable {prog : Program} {w : World} {A : Around} {E : Value → Shared → Prop} {s : Shared}
def DVals (h : Heap) (d : Addr) (vs : List Value) (ep : Nat) : Prop:=∃ o es,h.get? d = some o ∧ o.data = .dict es ep ∧ es.toList.map (·.val) = vs
theorem DVals.at {h h' : Heap} {d : Addr} {vs : List Value} {ep : Nat} (x : DVals h d vs ep) (e : ∀ o,h.get? d = some o → h'.get? d = some o) : DVals h' d vs ep:=let ⟨o,es,a,b⟩:=x; ⟨o,es,e o a,b⟩
theorem vals_meets (d : Addr) (hd : (d == sysModules) = false) : MeetsIn prog w (Builtin.«dict.values» ⟨[.ref d],[]⟩) (fun _ R s => s.TypeIs (.ref d) "dict" ∧ R (.ok (.ret (.ref s.heap.objs.size))) { s with heap:=s.heap.push { cls:=.type "dict_values",data:=.fields #[.ref d] } }) :=
  .of_wp fun A R s ⟨ht,h⟩ => by
    refine wpAny_bind ?_
    unfold Builtin.Dict.noArgs; refine wpAny_bind (wpAny_notOrdered_dict ht ?_)
    show wpAny _ _ (pure d) _ _ s
    refine wpAny_pure ?_
    show wpAny _ _ (Builtin.Dict.showsAll d >>= fun _ => _) _ _ s
    unfold Builtin.Dict.showsAll; rw [if_neg (by rw [hd]; exact Bool.false_ne_true)]
    exact wpAny_bind (wpAny_pure (wpAny_bind (wpAny_newObj_type (wpAny_pure ⟨_,rfl,h⟩))))
theorem vals_iter {v d : Addr} {vs : List Value} {ep : Nat} {Q : Value → Shared → Prop} (hv : s.heap.IsValuesView v d) (hm : DVals s.heap d vs ep)
    (hQ : Q (.ref s.heap.objs.size) { s with heap:=s.heap.push { cls:=.type "dict_valueiterator",data:=.fields #[.ref d,.int 0 0,.int vs.length 0,.int ep 0] } }) : wpAny (model prog w) A (pyIter (.ref v)) Q E s:=by
  obtain ⟨ov,hov,hcv,hdv⟩:=id hv; obtain ⟨o,es,ho,hdat,hp⟩:=id hm
  refine wpAny_pyIter_slot hv.typeIs F.slot_dict_values_iter (wpAny_call_entry F.slot_dict_values_iter hv.typeIs F.entry_dict_values_iter (by
    unfold Builtin.«dict_values.__iter__»; refine wpAny_bind (wpAny_pure (wpAny_bind ?_))
    unfold Builtin.Dict_items.dictOf; refine wpAny_bind (wpAny_field hov hdv (x:=.ref d) rfl (wpAny_pure (wpAny_bind ?_)))
    unfold Builtin.Dict_items.newIterator; refine wpAny_bind (wpAny_dictEntries ho hdat (wpAny_bind (wpAny_dictEpoch ho hdat ?_)))
    have sz : es.size = vs.length:=by rw [← hp,List.length_map,Array.length_toList]
    simp only [show Builtin.Dict_items.ownsTuple "dict_valueiterator" = false by decide,Bool.false_eq_true,if_false]
    refine wpAny_newObj_type (wpAny_pure ⟨_,rfl,"dict_valueiterator",_,⟨_,Heap.get?_push_size _ rfl,rfl⟩,F.slot_dict_valueiterator_next.lookup,by simpa [rawInt,sz] using hQ⟩)) (F.args_dict_values_iter_1 _))
theorem vals_item {it d : Addr} {i ep : Nat} {vs : List Value} {v : Value} {Q : Option Value → Shared → Prop} (hit : s.heap.IsValIter it d i vs.length ep) (hm : DVals s.heap d vs ep) (hx : vs[i]? = some v)
    (hQ : ∀ h',h'.IsValIter it d (i + 1) vs.length ep → Heap.SameBut it s.heap h' → Q (some v) { s with heap:=h' }) : wpAny (model prog w) A (pyNext (.ref it)) Q E s:=by
  obtain ⟨o,ho,hc,hd⟩:=id hit; obtain ⟨od,es,hod,hdd,hp⟩:=id hm
  have sz : es.size = vs.length:=by rw [← hp,List.length_map,Array.length_toList]
  have hlt : i < vs.length:=(List.getElem?_eq_some_iff.mp hx).1
  have hlt' : i < es.size:=by rw [sz]; exact hlt
  have hval : es[i].val = v:=by
    rw [← hp,List.getElem?_map,Array.getElem?_toList,Array.getElem?_eq_getElem hlt'] at hx
    exact Option.some.inj hx
  unfold pyNext; refine wpAny_bind (wpAny_attempt (wpAny_callSpecial?_slot (name:=Str.ofString "__next__") hit.typeIs F.slot_dict_valueiterator_next (wpAny_call_entry F.slot_dict_valueiterator_next hit.typeIs F.entry_dict_valueiterator_next ?_ (F.args_dict_valueiterator_next_1 _))))
  refine wpAny_bind (wpAny_pure (wpAny_bind (wpAny_bind ?_)))
  refine wpAny_bind (wpAny_typeNameOfWhole_valiter hit.typeIs (wpAny_pure (wpAny_bind (wpAny_fieldsOf ho hd ?_))))
  simp only [show Builtin.Dict_items.ownsTuple "dict_valueiterator" = false by decide,Bool.false_eq_true,if_false]
  show wpAny _ _ (if (Value.ref d == Value.none) = true then _ else _) _ (fun _ _ => _) s
  rw [if_neg (show ¬ ((Value.ref d == Value.none) = true) by exact Bool.false_ne_true)]
  refine wpAny_bind (wpAny_pure (wpAny_bind (wpAny_dictEntries hod hdd ?_)))
  rw [if_neg (by rw [sz]; simp)]; refine wpAny_bind (wpAny_pure (wpAny_bind (wpAny_dictEpoch hod hdd ?_)))
  rw [if_neg (by simp)]; refine wpAny_pure ?_
  simp only [show ¬ ((i : Int) < 0) by omega,if_false,Int.toNat_natCast,Array.getElem?_eq_getElem hlt']
  refine wpAny_bind (wpAny_bind (wpAny_typeNameOfWhole_valiter hit.typeIs (wpAny_pure (wpAny_bind (wpAny_isOneOf_valiter hit.typeIs ?_)))))
  show wpAny _ _ (setField (.ref it) 1 (rawInt ((i : Int) + 1)) >>= fun _ => _) _ _ s
  have hit' : (s.heap.update it (Obj.mapFields (·.setIfInBounds 1 (rawInt ((i : Int) + 1))))).IsValIter it d (i + 1) vs.length ep :=
    ⟨_,Heap.get?_update_self _ ho (Obj.isFreed_of_fields (Obj.data_mapFields hd _)),(Obj.cls_mapFields ..).trans hc,by rw [Obj.data_mapFields hd]; simp [rawInt]⟩
  refine wpAny_bind (wpAny_setField ho hd (by simp) (wpAny_bind (wpAny_holding ?_)))
  refine wpAny_bind (wpAny_isOneOf_valiter (s:={ s with heap:=s.heap.update it (Obj.mapFields (·.setIfInBounds 1 (rawInt ((i : Int) + 1)))) }) hit'.typeIs (wpAny_bind (wpAny_isOneOf_valiter (s:={ s with heap:=s.heap.update it (Obj.mapFields (·.setIfInBounds 1 (rawInt ((i : Int) + 1)))) }) hit'.typeIs ?_)))
  show wpAny _ _ (pure es[i].val) _ (fun _ _ => _) _
  exact wpAny_pure (wpAny_pure ⟨_,rfl,wpAny_pure (by rw [hval]; exact hQ _ hit' (Heap.SameBut.update ..))⟩)
theorem vals_end {it d : Addr} {i ep : Nat} {vs : List Value} {Q : Option Value → Shared → Prop} (hh : A.handled = none) (hit : s.heap.IsValIter it d i vs.length ep) (hm : DVals s.heap d vs ep) (hx : vs[i]? = none)
    (hQ : ∀ h',Heap.ExtBut it s.heap h' → Q none { s with heap:=h' }) : wpAny (model prog w) A (pyNext (.ref it)) Q E s:=by
  obtain ⟨o,ho,hc,hd⟩:=id hit; obtain ⟨od,es,hod,hdd,hp⟩:=id hm
  have sz : es.size = vs.length:=by rw [← hp,List.length_map,Array.length_toList]
  have hge : es.size ≤ i:=by rw [sz]; exact List.getElem?_eq_none_iff.mp hx
  unfold pyNext; refine wpAny_bind (wpAny_attempt (wpAny_callSpecial?_slot (name:=Str.ofString "__next__") hit.typeIs F.slot_dict_valueiterator_next (wpAny_call_entry F.slot_dict_valueiterator_next hit.typeIs F.entry_dict_valueiterator_next ?_ (F.args_dict_valueiterator_next_1 _))))
  refine wpAny_bind (wpAny_pure (wpAny_bind (wpAny_bind ?_)))
  refine wpAny_bind (wpAny_typeNameOfWhole_valiter hit.typeIs (wpAny_pure (wpAny_bind (wpAny_fieldsOf ho hd ?_))))
  simp only [show Builtin.Dict_items.ownsTuple "dict_valueiterator" = false by decide,Bool.false_eq_true,if_false]
  show wpAny _ _ (if (Value.ref d == Value.none) = true then _ else _) _ (fun _ _ => _) s
  rw [if_neg (show ¬ ((Value.ref d == Value.none) = true) by exact Bool.false_ne_true)]
  refine wpAny_bind (wpAny_pure (wpAny_bind (wpAny_dictEntries hod hdd ?_)))
  rw [if_neg (by rw [sz]; simp)]; refine wpAny_bind (wpAny_pure (wpAny_bind (wpAny_dictEpoch hod hdd ?_)))
  rw [if_neg (by simp)]; refine wpAny_pure ?_
  simp only [show ¬ ((i : Int) < 0) by omega,if_false,Int.toNat_natCast,Array.getElem?_eq_none hge]
  refine wpAny_bind (wpAny_bind (wpAny_typeNameOfWhole_valiter hit.typeIs (wpAny_pure ?_)))
  show wpAny _ _ (setField (.ref it) 0 .none >>= fun _ => _) _ _ s
  refine wpAny_bind (wpAny_setField ho hd (by simp) ?_)
  show wpAny _ _ (newExc (.type "StopIteration") [] >>= fun _ => _) _ _ _
  refine wpAny_bind ?_
  simp only [newExc,newTuple]; refine wpAny_bind (wpAny_newObj_type (wpAny_bind (m:=firstArgMember _ _) (wpAny_of_eq (a:=Value.none) (by first | rfl | (simp only [firstArgMember]; rfl)) (wpAny_newObj_type ?_ (by size_fits)))) (by size_fits))
  simp only [raiseNew]; refine wpAny_bind (wpAny_handled ?_)
  rw [show A.in1.handled = none by exact hh]; refine wpAny_bind (wpAny_pure (wpAny_throw ?_))
  exact wpAny_bind (wpAny_isInstance (T:="StopIteration") (b:=true) ⟨_,Heap.get?_push_size _ rfl,rfl⟩ isSubtype_stop (wpAny_pure (hQ _ (((Heap.SameBut.update ..).extBut.push _).push _))))
theorem vals_walks (hh : A.handled = none) (I d : Addr) (hne : d ≠ I) (vs : List Value) (ep : Nat) : Walks prog w A I [I,d] [I] vs.length (fun i v => vs[i]? = some v) (fun i h => h.IsValIter I d i vs.length ep ∧ DVals h d vs ep) where
  sub:=fun b hb => by simp only [List.mem_singleton] at hb; simp [hb]
  frame:=fun _ _ _ st hk => ⟨st.1.at fun o e => hk I (by simp) o e,st.2.at fun o e => hk d (by simp) o e⟩
  item:=fun i s Q E hi st hQ => vals_item st.1 st.2 (List.getElem?_eq_getElem hi) fun h' hit' hs' =>
    hQ vs[i] h' s.toks (List.getElem?_eq_getElem hi) ⟨hit',st.2.at fun o e => hs'.extBut d o hne e⟩ fun b o hb e => hs'.extBut b o (fun h => hb (by rw [h]; exact List.mem_singleton.mpr rfl)) e
  done:=fun s Q E st hQ => vals_end hh st.1 st.2 (List.getElem?_eq_none_iff.mpr (Nat.le_refl _)) fun h' he' => hQ h' s.toks fun b o hb e => he' b o (fun h => hb (by rw [h]; exact List.mem_singleton.mpr rfl)) e
  self:=fun _ _ _ _ st hQ => wpAny_pyIter_valiter st.1 hQ
end
section
variable {X : Cx}
def ViewO (l a : Addr) : HO:=.ext fun h => h.IsValuesView l a
theorem paired_at {α β : Type} {F : α → β → Prop} : ∀ {l : List α} {r : List β} {i : Nat} {a : α} {b : β},Paired F l r → l[i]? = some a → r[i]? = some b → F a b
  | _,_,0,_,_,.cons h _,e,q => by cases e; cases q; exact h
  | _,_,i + 1,_,_,.cons _ t,e,q => paired_at (i:=i) t (by simpa using e) (by simpa using q)
def rVals : V → List V → Hp → VK → Prop:=fun x vs H Q => ∃ a kvs,x = .ref a ∧ vs = [] ∧ H a = some (.dT kvs) ∧ ∀ l,H l = none → Q (.ref l) (upd H l (ViewO l a))
theorem mt_vals : MtM X "dict.values" rVals:=by
  intro pins s σ H x vs v us Q I rx rv h
  obtain ⟨a,kvs,rfl,rfl,e,q⟩:=h
  cases rx
  cases rv.zero
  obtain ⟨zz,hd,xs,rel,dd⟩:=dt_of I.hok e
  refine call_meetsIn PySem.F.slot_dict_values dd.typeIs PySem.F.entry_dict_values (PySem.F.args_dict_values_1 _) (vals_meets a hd) ⟨dd.typeIs,?_⟩
  have hg : (s.heap.push { cls:=.type "dict_values",data:=.fields #[.ref a] }).get? s.heap.objs.size = some { cls:=.type "dict_values",data:=.fields #[.ref a] }:=Heap.get?_push_size _ rfl
  refine ⟨.ref s.heap.objs.size,_,I.laid (t':=s.toks) (fun b o hb => Heap.get?_push_of_some _ hb) (Nat.le_refl _) (show ObjOk X.prog X.w _ _ _ (ViewO s.heap.objs.size a) from ⟨⟨_,hg,rfl,rfl⟩,⟨_,hg⟩,fun h1 h2 p k => ?_⟩),rfl,q _ (I.hok.fresh (Nat.le_refl _))⟩
  obtain ⟨o,ho,r⟩:=p
  exact ⟨o,k o ho,r⟩
def rSumV : List V → Hp → VK → Prop:=fun xs H Q => ∃ (l a : Addr) (kvs : List (List Key × V)) (ns : List Int),xs = [.ref l] ∧ H l = some (ViewO l a) ∧ H a = some (.dT kvs) ∧ kvs.map (·.2) = ns.map V.int ∧ Q (.int ns.sum) H
theorem call_sumV (hc : X.calm = true) : CallR X (.builtin "sum") rSumV:=by
  intro pins s σ H xs us Q I r h
  obtain ⟨l,a,kvs,ns,rfl,hl,ha,hn,q⟩:=h
  obtain ⟨u,rfl,ru⟩:=vals1 r
  cases ru
  obtain ⟨hv,_,_⟩:=I.hok l _ hl
  obtain ⟨zz,hd,xs,rel,dd⟩:=dt_of I.hok ha
  obtain ⟨o,es,ep,ho,hex,hdat,hes,_⟩:=dd
  have dv : DVals s.heap a (xs.map (·.2.2)) ep:=⟨o,es,ho,hdat,by rw [hes,List.map_map]; rfl⟩
  have hlen : (xs.map (·.2.2)).length = ns.length:=by
    have h1:=Paired.length rel
    have h2:=congrArg List.length hn
    rw [List.length_map,List.length_map] at h2
    rw [List.length_map]; omega
  have hp : a < s.heap.objs.size:=Heap.lt_size ho
  refine call_sum_walkG (vals_iter hv dv ?_)
  refine ⟨_,_,_,_,_,_,fun i => ns.getD i 0,rfl,vals_walks (A:=X.A.in1) (I.ok.hd hc) s.heap.objs.size a (Nat.ne_of_lt hp) (xs.map (·.2.2)) ep,⟨⟨_,Heap.get?_push_size _ rfl,rfl,rfl⟩,dv.at fun o e => Heap.get?_push_of_some _ e⟩,fun b hb => ?_,fun i v hv => ?_,fun h' tk t' hk => ?_⟩
  · rw [Heap.size_push]
    rcases List.mem_cons.mp hb with z | z
    · rw [z]; exact Nat.lt_succ_self _
    · rw [List.mem_singleton.mp z]; exact Nat.lt_succ_of_lt hp
  · have hi : i < ns.length:=by have:=(List.getElem?_eq_some_iff.mp hv).1; omega
    rw [List.getElem?_map] at hv
    cases ex : xs[i]? with
    | none => rw [ex] at hv; cases hv
    | some p =>
      rw [ex] at hv
      cases hv
      have hik : i < kvs.length:=by rw [Paired.length rel]; exact (List.getElem?_eq_some_iff.mp ex).1
      obtain ⟨_,_,rr⟩:=paired_at rel (List.getElem?_eq_getElem hik) ex
      have e2 : (kvs.map (·.2))[i]? = some (V.int ns[i]):=by rw [hn,List.getElem?_map,List.getElem?_eq_getElem hi]; rfl
      rw [List.getElem?_map,List.getElem?_eq_getElem hik] at e2
      have e2 : kvs[i].2 = V.int ns[i]:=Option.some.inj e2
      rw [e2] at rr
      obtain ⟨t,e⟩:=rr
      refine ⟨t,(show p.2.2 = Value.int (ns.getD i 0) t from ?_)⟩
      rw [e]
      show Value.int ns[i] t = Value.int (ns.getD i 0) t
      rw [List.getD_eq_getElem?_getD,List.getElem?_eq_getElem hi]; rfl
  · refine ⟨.int ns.sum,H,?_,⟨t',?_⟩,q⟩
    · exact I.kept fun b o e => hk b o (fun z => by rw [List.mem_singleton.mp z] at e; exact absurd (Heap.lt_size e) (Nat.lt_irrefl _)) (Heap.get?_push_of_some _ e)
    · rw [hlen,pre_sum]
end
end L2
set_option Elab.async false
set_option linter.all false
set_option maxRecDepth 100000
namespace L2
open PySem PySem.Spec PyProof.Rows
section
variable {X : Cx} {a : Expr} {ta : TE} {pos : Pos}
end
end L2
set_option Elab.async false
set_option linter.all false
set_option maxRecDepth 100000
namespace L2
open PySem PySem.Spec PyProof.Rows
section
variable {prog : Program} {w : World} {A : Around} {E : Value → Shared → Prop}
end
section
variable {X : Cx} {pos : Pos}
theorem k_truth {a : Expr} {ta : TE} (K : PySem.W.Frag) (h : X.K = K) (ha : PE X a ta) (he : ∀ whole,isTrue a X.env whole = (do let v ← whole; standAt a.pos; holding [v] (truthy v))) :
    PT X a (fun σ H Q => ta σ H fun x H' => ∃ k,TruV K x H' k ∧ Q k H'):=h ▸ pt_truth ha he
end
end L2
set_option Elab.async false
set_option linter.all false
set_option maxRecDepth 100000
namespace L2
open PySem PySem.Spec PyProof.Rows
structure Flown (P : Program) (w : World) (outer : List Env) (H : Hp) (s : Shared) (ae : Addr) (C a0 : Value) (H1 : Hp) (s' : Shared) : Prop where
  os : s'.os = s.os
  bare : AllBare s'.gens
  frf : ∀ b ∈ frs outer,H1 b = none
  ex : ∃ h1 B : Heap,Un (frs outer) [] H H1 s.heap h1 ∧ HOk P w H1 h1 ∧ Heap.FlyingW B outer ae C a0 s'.heap ∧ (∀ b o,h1.get? b = some o → (H1 b ≠ none ∨ b < s.heap.objs.size) → b ∉ frs outer → B.get? b = some o) ∧
    ∀ b o,h1.get? b = some o → b ∈ frs outer → ∃ sl,s'.heap.get? b = some { o with slots:=sl }
theorem Flown.un {P : Program} {w : World} {outer : List Env} {H : Hp} {s : Shared} {ae : Addr} {C a0 : Value} {H1 : Hp} {s' : Shared} (F : Flown P w outer H s ae C a0 H1 s') : Un (frs outer) [] H H1 s.heap s'.heap ∧ HOk P w H1 s'.heap:=by
  obtain ⟨h1,B,u,hok,fl,cov,sl⟩:=F.ex
  have st : ∀ b o,h1.get? b = some o → (H1 b ≠ none ∨ b < s.heap.objs.size) → b ∉ frs outer → s'.heap.get? b = some o:=fun b o e h n => fl.1 b o (cov b o e h n)
  refine ⟨⟨fun b o e n hb hx => st b o (u.keep b o e n hb hx) (.inr (Heap.lt_size e)) hb,fun b o e n hb hx => ?_,u.free,fun b o e hx => ?_,u.tups,u.frzs,u.tbls⟩,fun b x e => ?_⟩
  · obtain ⟨s1,e1⟩:=u.slot b o e n hb hx
    obtain ⟨s2,e2⟩:=sl b _ e1 hb
    exact ⟨s2,e2⟩
  · obtain ⟨o',e'⟩:=u.there b o e hx
    by_cases hb : b ∈ frs outer
    · obtain ⟨s2,e2⟩:=sl b _ e' hb
      exact ⟨_,e2⟩
    · exact ⟨o',st b o' e' (.inr (Heap.lt_size e)) hb⟩
  · refine (hok b x e).stay (fun c v hc q => ?_) (fun _ q => q) fun _ _ q => q
    have ht : H1 c ≠ none:=by
      rcases hc with rfl | hc
      · rw [e]; simp
      · rw [hc]; simp
    exact st c v q (.inl ht) fun z => ht (F.frf c z)
def CXE (P : Program) (w : World) : CXT:=fun outer H s E e s' => ∃ ae C a0 H1,e = .ref ae ∧ Flown P w outer H s ae C a0 H1 s' ∧ E C none H1
section
variable {P : Program} {w : World} {K : PySem.W.Frag} {mg : Str → Option Value} {base : Heap} {N : List Str} {qual : Str} {scope : Scope} {f : Addr} {cd : Value} {A : Around} {outer : List Env} {s : Shared} {H : Hp} {E : XK}
theorem passE : Passes (CXE P w) (cxOf (CXE P w) P w K mg base N qual scope f cd A outer s H E) E:=by
  rintro pins σ H2 s2 e s' I ⟨ae,C,a0,H1,rfl,F,hE⟩
  obtain ⟨h1,B,u,hok,fl,cov,sl⟩:=F.ex
  have I1 : Inv (cxOf (CXE P w) P w K mg base N qual scope f cd A outer s H E) pins σ H1 { s2 with heap:=h1 }:=I.call (t':=s2.toks) (d':=s2.drawn) (g':=s2.gens) u hok I.bare (fun b z => absurd z (by simp))
  have hL : s.heap.objs.size ≤ (envOfC qual scope s.heap.objs.size f cd).locals:=I.ok.above
  have sub : ∀ b ∈ frs outer,b ∈ frs (envOfC qual scope s.heap.objs.size f cd :: outer):=fun b hb => List.mem_cons_of_mem _ hb
  show wpAny _ _ (leaving _ _) _ _ s'
  refine wpAny_leaves_onW (L:=s.heap.objs.size) I.ok.frames rfl fl fun h' fl' ups => ?_
  refine ⟨ae,C,a0,H1,rfl,⟨F.os.trans I.os,F.bare,fun b hb => F.frf b (sub b hb),h1,B,I1.base,hok,fl',fun b o e hb n => ?_,fun b o e hb => ?_⟩,hE⟩
  · refine cov b o e (hb.imp id fun z => Nat.lt_of_lt_of_le z I.sz) fun z => ?_
    rcases List.mem_cons.mp z with y | y
    · rcases hb with hb | hb
      · exact hb (F.frf b z)
      · rw [y] at hb; exact Nat.lt_irrefl _ hb
    · exact n y
  · obtain ⟨sl1,e1⟩:=sl b o e (sub b hb)
    obtain ⟨_,o',e2,hnf⟩:=fl.2.2.1.mem (sub b hb)
    rw [e1] at e2
    cases e2
    obtain ⟨sl2,e3⟩:=ups b _ e1 hnf
    exact ⟨sl2,e3⟩
theorem madeE {pins : List (Addr × Obj)} {σ : St} {H1 : Hp} {s1 : Shared} {h' : Heap} {ae : Addr} {C : Value} {args : List Value} (I : Inv (cxOf (CXE P w) P w K mg base N qual scope f cd A outer s H E) pins σ H1 s1) (hx : Heap.MadeExcOf s1.heap h' ae C args) (hE : E C none H1) :
    (cxOf (CXE P w) P w K mg base N qual scope f cd A outer s H E).xe (.ref ae) { s1 with heap:=h' }:=by
  have sub : ∀ b ∈ frs outer,b ∈ frs (envOfC qual scope s.heap.objs.size f cd :: outer):=fun b hb => List.mem_cons_of_mem _ hb
  have hfs : s1.heap.FunFrames base (envOfC qual scope s.heap.objs.size f cd :: outer):=I.stack
  show wpAny _ _ (leaving _ _) _ _ _
  refine wpAny_leaves_madeW (base:=PySem.W.hideAll s1.heap (frs (envOfC qual scope s.heap.objs.size f cd :: outer))) (L:=s.heap.objs.size) I.ok.frames rfl (fun b o q => PySem.W.of_hideAll _ q) (PySem.W.funFrames_hide hfs fun env he b hb => List.mem_filterMap.mpr ⟨env,he,hb⟩) hx fun h'' t fl _ _ ups => ?_
  refine ⟨ae,C,.ref t,H1,rfl,⟨I.os,I.bare,fun b hb => I.stkFree b (sub b hb),s1.heap,_,I.base,I.hok,fl,fun b o e hb n => PySem.W.hideAll_get _ e fun z => ?_,fun b o e hb => ?_⟩,hE⟩
  · rcases List.mem_cons.mp z with y | y
    · rcases hb with hb | hb
      · exact hb (I.stkFree b z)
      · rw [y] at hb; exact Nat.lt_irrefl _ hb
    · exact n y
  · obtain ⟨_,o',e2,hnf⟩:=hfs.mem (sub b hb)
    rw [e] at e2
    cases e2
    exact ups b _ (hx.keeps b o e) hnf
end
end L2
set_option Elab.async false
set_option linter.all false
set_option maxRecDepth 100000
namespace L2
open PySem PySem.Spec PyProof.Rows
abbrev bmV : List Value:=[.type "ValueError",.type "Exception",.type "BaseException",.type "object"]
def mroIn (K : PySem.W.Frag) (C : Addr) : List Value:=match K.lookup C with
  | some ⟨_,_,.cls cd,_⟩ => cd.mro.tail
  | _ => []
theorem ns_all {K : PySem.W.Frag} {h : Heap} {N : Addr} (X : K.In h) (q : PySem.W.nsOkIn K N = true) : ∀ h',K.In h' → h'.Ns N (h.nsMap N):=fun h' X' => by
  obtain ⟨o,es,ep,ho,r⟩:=(show h.Ns N (h.nsMap N) from .of_isNs (PySem.W.isNs_of_in X q))
  unfold PySem.W.nsOkIn at q
  cases e : K.lookup N with
  | none => rw [e] at q; cases q
  | some o' =>
    have h1:=X _ _ e
    rw [ho] at h1
    cases h1
    exact ⟨o,es,ep,X' _ _ e,r⟩
theorem xat_of {K : PySem.W.Frag} {h : Heap} {C : Addr} (X : K.In h) (q : PySem.W.excIn K C bmV "ValueError.__new__" = true) :
    (∃ nm qn N bs hd sn sub ab col dd k0 k1 k2 k3 k5,∃ mN : Str → Option Value,K.lookup C = some (excClassObj nm qn C N bs (mroIn K C) hd sn sub ab col dd k0 k1 k2 k3 k5 "ValueError.__new__") ∧ (∀ h',K.In h' → h'.Ns N mN) ∧ mN "__init__" = none) ∧ ∀ h',K.In h' → OwnTail h' bmV (mroIn K C):=by
  unfold PySem.W.excIn at q
  cases e : K.lookup C with
  | none => rw [e] at q; cases q
  | some o =>
    rw [e] at q
    obtain ⟨c,d,dt,sl⟩:=o
    split at q
    · rename_i c1 d1 cdat sl1 heq
      cases heq
      split at q
      · rename_i D tl s0 s1 s2 s3 nid s5 em es
        rw [Bool.and_eq_true,Bool.and_eq_true,Bool.and_eq_true,Bool.and_eq_true,Bool.and_eq_true] at q
        obtain ⟨⟨⟨⟨⟨qa,qb⟩,qc⟩,qd⟩,qe⟩,qf⟩:=q
        have qa : D = C:=eq_of_beq qa
        have qb : nid = "ValueError.__new__":=eq_of_beq qb
        have qf : PySem.W.nsIn K cdat.ns "__init__" = some none:=eq_of_beq qf
        subst qa qb
        have em2 : mroIn K D = tl:=by unfold mroIn; rw [e]; show cdat.mro.tail = tl; rw [em]; rfl
        rw [em2]
        refine ⟨?_,fun h' X' => PySem.W.tail_of_in X' qd⟩
        obtain ⟨a1,a2,a3,a4,a5,a6,a7,a8,a9,a10,a11⟩:=cdat
        have em : a3 = Value.ref D :: tl:=em
        have qc2 : a11 = false:=by simpa using qc
        subst em
        subst qc2
        have es2 : sl = #[s0,s1,s2,s3,some (.builtin "ValueError.__new__"),s5]:=by cases sl; exact congrArg Array.mk es
        subst es2
        exact ⟨a1,a5,a4,a2,a6,a7,a8,a9,a10,_,s0,s1,s2,s3,s5,_,rfl,ns_all X qe,PySem.W.nsMap_none_of_in X qe qf⟩
      · cases q
    · cases q
structure XCls (K : PySem.W.Frag) (mg : Str → Option Value) (x : Str) (C : Addr) : Prop where
  mgx : mg x = some (.ref C)
  exc : PySem.W.excIn K C bmV "ValueError.__new__" = true
section
variable {P : Program} {w : World} {K : PySem.W.Frag} {mg : Str → Option Value} {base : Heap} {N : List Str} {qual : Str} {scope : Scope} {f : Addr} {cd : Value} {A : Around} {outer : List Env} {s : Shared} {H : Hp} {E : XK} {x : Str} {C : Addr} {e : Expr} {es : List Expr} {ta : TA} {np cpos pos : Pos}
theorem ps_raise (D : XCls K mg x C) (hg : Gl (cxOf (CXE P w) P w K mg base N qual scope f cd A outer s H E) x) (ha : PA (cxOf (CXE P w) P w K mg base N qual scope f cd A outer s H E) (e :: es) ta) (hdb : (x == ("__debug__" : Str)) = false:=by decide)
    (he : starEach (e :: es) (cxOf (CXE P w) P w K mg base N qual scope f cd A outer s H E).env = (false,eval e (cxOf (CXE P w) P w K mg base N qual scope f cd A outer s H E).env) :: starEach es (cxOf (CXE P w) P w K mg base N qual scope f cd A outer s H E).env:=by rfl)
    (hpl : (backTo cpos (starEach (e :: es) (cxOf (CXE P w) P w K mg base N qual scope f cd A outer s H E).env)).any (·.1) = false:=by rfl) :
    PS (cxOf (CXE P w) P w K mg base N qual scope f cd A outer s H E) (.Raise (some (.Call (.Name x np) (e :: es) [] cpos)) none pos) (fun _ σ H1 => ta σ H1 fun vs H2 => vs.length ≤ sizeLine ∧ E (.ref C) none H2):=by
  intro pins s1 σ H1 Dn I h
  obtain ⟨⟨nm,qn,NN,bs,hd,sn,sub,ab,col,dd,k0,k1,k2,k3,k5,mN,hC,hN,hni⟩,tl⟩:=xat_of I.kIn D.exc
  have hbase : (mroIn K C).contains (.type "BaseException") = true:=(tl _ I.kIn).hasType (X:="BaseException") (b:=true) (by decide +kernel)
  refine wpAny_Raise_call_subT (nm:=nm) (q:=qn) (C:=C) (N:=NN) (bs:=bs) (bm:=mroIn K C) (hdct:=hd) (sn:=sn) (sub:=sub) (ab:=ab) (col:=col) (dd:=dd) (k0:=k0) (k1:=k1) (k2:=k2) (k3:=k3) (k5:=k5) (mN:=mN) F.excBase_ValueError hbase (I.ok.hd rfl) hpl hni (ld_glob I hg D.mgx ⟨rfl,?_⟩ hdb)
  rw [he]
  refine Calls.evalArgs_plain ?_
  have hA:=ha cpos pins s1 σ H1 _ I h
  rw [he] at hA
  refine thn hA fun us s2 ⟨vs,H2,I2,r2,hl,hE⟩ => ⟨rfl,?_,I2.kIn _ _ hC,hN _ I2.kIn,tl _ I2.kIn,fun h' ae hm => madeE I2 hm hE⟩
  rw [← r2.length]; exact hl
end
end L2
set_option Elab.async false
set_option linter.all false
set_option maxRecDepth 100000
namespace L2
open PySem PySem.Spec PyProof.Rows
section
variable {P : Program} {w : World} {K : PySem.W.Frag} {mg : Str → Option Value} {base : Heap}
theorem Fun.okE {x qual : Str} {st : Stmt} {f : Addr} {fd : FuncData} {N ps : List Str} {k : Nat} {sp : Sp} (F : Fun K x qual st f fd) (S : FnScope N ps (defScope st)) (len : ∀ vs H Q E,sp vs H Q E → vs.length = ps.length)
    (hbody : ∀ (cdv : Value) (A : Around) (outer : List Env) (s : Shared) (H : Hp) (vs : List V) (Q : VK) (E : XK),Room k (A.deeper (envOfC qual (defScope st) s.heap.objs.size f cdv)) → sp vs H Q E →
      ∃ t,PSs (cxOf (CXE P w) P w K mg base N qual (defScope st) f cdv A outer s H E) (defBody st) t ∧ t { nx:=fun _ H' => Q .non H',rt:=Q } (start N vs) H) : FnOk P w K mg base (CXE P w) (k + 1) f fd ps sp:=by
  obtain ⟨oc,od,kV,doc,pm,an,cdv,ct,osl,rfl,lk,hcd⟩:=F.ex
  exact fn_of lk hcd S len fun A outer s H vs Q E hr hsp => hbody cdv A outer s H vs Q E hr hsp
end
section
variable (P : Program) (w : World) (K : PySem.W.Frag) (mg : Str → Option Value) (base : Heap)
structure MtE (C : Addr) (m : Str) (k : Nat) (ps : List Str) (sp : Sp) : Prop where
  ex : ∃ f fd,Meth K C m f ∧ FnOk P w K mg base (CXE P w) k f fd ps sp ∧ Binds K fd ps []
structure FnE (x : Str) (k : Nat) (ps : List Str) (sp : Sp) : Prop where
  ex : ∃ f fd,mg x = some (.ref f) ∧ PySem.W.keepIn K (.ref f) = true ∧ FnOk P w K mg base (CXE P w) k f fd ps sp ∧ Binds K fd ps []
end
section
variable {X : Cx} {E : XK} {k j : Nat} {C : Addr} {ps : List Str} {sp : Sp} {x m : Str} {p pos apos : Pos} {e o : Expr} {es : List Expr} {ta : TE} {t : TA}
theorem pe_mtE {pl : Sem Bool} (hx : Passes (CXE X.prog X.w) X E) (M : MtE X.prog X.w X.K X.mg X.base C m k ps sp) (c : Cls X.K C) (hr : Room j X.A) (hj : k ≤ j) (ho : PE X o ta) (ha : PA X (e :: es) t)
    (hst : starEach (e :: es) X.env = (false,eval e X.env) :: starEach es X.env:=by rfl) (hpl : (backTo pos (starEach es X.env)).any (·.1) = false:=by rfl)
    (ht : eval (.Call (.Attribute o m apos) (e :: es) [] pos) X.env = (do
      let ov ← eval o X.env
      standAt apos.atName
      let (f,first) ← holding [ov] (getMethod ov m pl)
      callWith pos f first (backTo pos (starEach (e :: es) X.env)) (backToKw pos (keywordEach [] X.env))):=by rfl) :
    PE X (.Call (.Attribute o m apos) (e :: es) [] pos) (tMeth C m sp [] E ta t):=by
  obtain ⟨f,fd,h1,h2,h3⟩:=M.ex
  exact pe_meth (pl:=pl) ho c h1 h2 (hr.mono hj) h3 .nil hx ha hst hpl ht
theorem pe_mtE0 {pl : Sem Bool} (hx : Passes (CXE X.prog X.w) X E) (M : MtE X.prog X.w X.K X.mg X.base C m k ps sp) (c : Cls X.K C) (hr : Room j X.A) (hj : k ≤ j) (ho : PE X o ta)
    (ht : eval (.Call (.Attribute o m apos) [] [] pos) X.env = (do
      let ov ← eval o X.env
      standAt apos.atName
      let (f,first) ← holding [ov] (getMethod ov m pl)
      callWith pos f first (backTo pos (starEach [] X.env)) (backToKw pos (keywordEach [] X.env))):=by rfl) :
    PE X (.Call (.Attribute o m apos) [] [] pos) (tMeth C m sp [] E ta tNil):=by
  obtain ⟨f,fd,h1,h2,h3⟩:=M.ex
  exact pe_meth0 (pl:=pl) ho c h1 h2 (hr.mono hj) h3 .nil hx ht
theorem pe_fnE (hx : Passes (CXE X.prog X.w) X E) (F : FnE X.prog X.w X.K X.mg X.base x k ps sp) (hr : Room j X.A) (hj : k ≤ j) (ha : PA X (e :: es) t) (hg : Gl X x:=by rfl) (hdb : (x == ("__debug__" : Str)) = false:=by decide)
    (he : starEach (e :: es) X.env = (false,eval e X.env) :: starEach es X.env:=by rfl) (hpl : (backTo pos (starEach es X.env)).any (·.1) = false:=by rfl) :
    PE X (.Call (.Name x p) (e :: es) [] pos) (tCall sp [] E t):=by
  obtain ⟨f,fd,h1,h2,h3,h4⟩:=F.ex
  exact pe_call h3 (hr.mono hj) hg h1 h2 h4 .nil hx ha hdb he hpl
end
section
variable {X : Cx} {st : Stmt} {rest : List Stmt} {t : TS}
theorem pss_halt (h1 : PS X st t) : PSs X (st :: rest) (fun D σ H => t { D with nx:=fun _ _ => False } σ H):=by
  intro pins s σ H D I h
  refine wpAny_execs_cons (thn (h1 pins s σ H { D with nx:=fun _ _ => False } I h) fun f s1 q => ?_)
  cases f with
  | next =>
    obtain ⟨_,_,_,z⟩:=q
    exact z.elim
  | brk => exact q
  | cont => exact q
  | ret u => exact q
end
abbrev Cx.held (X : Cx) (ae : Addr) (oe : Obj) : Cx:={ X with A:=X.A.mark (some (.ref ae)),calm:=false,pn:=(ae,oe) :: X.pn,xe:=fun _ _ => False }
section
variable {X : Cx} {pins : List (Addr × Obj)} {σ : St} {H : Hp} {s : Shared} {ae : Addr} {oe : Obj}
theorem Inv.hold (I : Inv X pins σ H s) (h1 : s.heap.get? ae = some oe) (h2 : H ae = none) (h3 : ae ≠ X.env.locals) (h4 : ae ∉ X.fs) (h5 : ∀ v,oe.data ≠ .cell v) : Inv (X.held ae oe) pins σ H s :=
  ⟨⟨I.ok.mod,I.ok.kind,I.ok.glob,I.ok.blt,I.ok.above,I.ok.inj,I.ok.has,I.ok.cab,(fun z => nomatch z),I.ok.frames,I.ok.stk,I.ok.exf,I.ok.bs,I.ok.bsz,I.ok.noex,I.ok.exfs,I.ok.funs,I.ok.frf⟩,I.os,I.bare,I.base,I.loc,I.cell,I.free,I.freeC,
    fun p hp => (List.mem_cons.mp hp).elim (fun z => by subst z; exact ⟨h1,h2,h3,h4,h5⟩) (I.pin p),I.hok,I.len⟩
theorem Inv.unhold (ok : X.Ok) (I : Inv (X.held ae oe) pins σ H s) : Inv X pins σ H s :=
  ⟨ok,I.os,I.bare,I.base,I.loc,I.cell,I.free,I.freeC,fun p hp => I.pin p (List.mem_cons_of_mem _ hp),I.hok,I.len⟩
theorem name_goes {n : Str} {i : Nat} {pos : Pos} {Q : Unit → Shared → Prop} {M : Model} {A : Around} {E : Value → Shared → Prop} (I : Inv X pins σ H s) (hN : X.N.Nodup) (hi : X.N[i]? = some n) (hl : X.env.kindOf n = some .local)
    (h : ∀ s',Inv X pins (σ.set i none) H s' → Q () s') : wpAny M A (do bindName X.env n .none; unbindBehindTheSuite X.env n pos) Q E s:=by
  obtain ⟨m,hn,hlk⟩:=id I.loc
  have hcls : (X.env.scope.kind == .class || (X.env.scope.kind == .module && X.env.locals != X.env.globals)) = false:=by rw [I.ok.kind]; rfl
  have hiσ : i < σ.length:=by rw [I.len]; exact (List.getElem?_eq_some_iff.mp hi).1
  have cne:=I.cne
  refine wpAny_nameGoes_keeps hl hn hcls fun h' v hn' hs => ?_
  obtain ⟨oL,_,_,hoL,_⟩:=id hn
  have up : ∀ b o,b ≠ X.env.locals → s.heap.get? b = some o → h'.get? b = some o:=fun b o hb e => (hs.2 b hb).trans e
  have ne : ∀ {b o},X.s₀.heap.get? b = some o → b ≠ X.env.locals:=fun e => Nat.ne_of_lt (Nat.lt_of_lt_of_le (Heap.lt_size e) I.ok.above)
  refine h _ ⟨I.ok,I.os,I.bare,⟨fun b o e n hb hx => up b o (ne e) (I.base.keep b o e n hb hx),fun b o e n hb hx => ?_,I.base.free,fun b o e hx => ?_,I.base.tups,I.base.frzs,I.base.tbls⟩,⟨_,hn',fun j y v' e1 e2 e3 => ?_⟩,fun y c e => ?_,I.free,I.freeC,fun p hp => ?_,fun b x e => ?_,by rw [List.length_set]; exact I.len⟩
  · obtain ⟨sl,e1⟩:=I.base.slot b o e n hb hx
    exact ⟨sl,up b _ (ne e) e1⟩
  · obtain ⟨o',e1⟩:=I.base.there b o e hx
    exact ⟨o',up b _ (ne e) e1⟩
  · have hj : j ≠ i:=fun z => by subst z; rw [List.getElem?_set_self hiσ] at e2; cases e2
    rw [List.getElem?_set_ne (Ne.symm hj)] at e2
    obtain ⟨u',r',q⟩:=hlk j y v' e1 e2 e3
    have hy : y ≠ n:=fun z => hj (by
      subst z
      exact (List.getElem?_inj (List.getElem?_eq_some_iff.mp e1).1 hN).mp (e1.trans hi.symm))
    refine ⟨u',r',?_⟩
    rcases q with ⟨q1,q2⟩ | ⟨q1,c,q2,q3⟩
    · exact .inl ⟨q1,by show (if y = n then v else m y) = some u'; rw [if_neg hy]; exact q2⟩
    · refine .inr ⟨q1,c,q2,?_⟩
      obtain ⟨o,e,d⟩:=q3
      exact ⟨o,up c o (cne y c q2) e,d⟩
  · obtain ⟨v',o,e',d⟩:=I.cell y c e
    exact ⟨v',o,up c o (cne y c e) e',d⟩
  · obtain ⟨a1,a2,a3,a4,a5⟩:=I.pin p hp
    exact ⟨up _ _ a3 a1,a2,a3,a4,a5⟩
  · refine (I.hok b x e).stay (fun c u hc q => up c u ?_ q) (fun _ q => q) fun _ _ q => q
    rintro rfl
    rcases hc with rfl | hc
    · rw [I.free] at e; cases e
    · rw [I.free] at hc; cases hc
end
end L2
set_option Elab.async false
set_option linter.all false
set_option maxRecDepth 100000
namespace L2
open PySem PySem.Spec PyProof.Rows
theorem ObjOk.here {P : Program} {w : World} {H : Hp} {h : Heap} {a : Addr} {o : HO} (x : ObjOk P w H h a o) : ∃ u,h.get? a = some u:=by
  cases o with
  | lst xs => obtain ⟨_,_,_,_,e⟩:=x; exact ⟨_,e⟩
  | tup xs => obtain ⟨_,_,_,u,e,_⟩:=x; exact ⟨_,e⟩
  | dK kvs => obtain ⟨_,_,_,_,o,_,_,e,_⟩:=x; exact ⟨_,e⟩
  | dT kvs => obtain ⟨_,_,_,_,o,_,_,e,_⟩:=x; exact ⟨_,e⟩
  | set S n => obtain ⟨o,_,_,_,e,_⟩:=x; exact ⟨_,e⟩
  | ins C dx fs => obtain ⟨_,_,_,e,_⟩:=x; exact ⟨_,e⟩
  | own y => exact x
  | xd fs => obtain ⟨_,⟨_,_,_,e,_⟩,_⟩:=x; exact ⟨_,e⟩
  | rng lo hi => obtain ⟨_,_,_,e⟩:=x; exact ⟨_,e⟩
  | frz ob u => obtain ⟨e,_⟩:=x; exact ⟨_,e⟩
  | tbl ps => exact ⟨_,show h.get? a = some _ from x⟩
  | met f y => exact ⟨_,show h.get? a = some _ from x⟩
  | ext φ => exact x.2.1
def Below (K : PySem.W.Frag) (CE : Addr) (C : Value) : Prop:=∃ c,C = .ref c ∧ PySem.W.excIn K c bmV "ValueError.__new__" = true ∧ (mroIn K c).contains (.ref CE) = true
section
variable {M : Model} {A : Around} {E : Value → Shared → Prop}
theorem exc_match {K : PySem.W.Frag} {s : Shared} {ae c CE : Addr} {oe : Obj} {Q : Bool → Shared → Prop} (X : K.In s.heap) (hc : PySem.W.excIn K c bmV "ValueError.__new__" = true) (hE : PySem.W.excIn K CE bmV "ValueError.__new__" = true) (hb : (mroIn K c).contains (.ref CE) = true)
    (he : s.heap.get? ae = some oe) (hcls : oe.cls = .ref c) (hq : Q true s) : wpAny M A (excMatches (.ref ae) (.ref CE)) Q E s:=by
  obtain ⟨⟨n1,q1,N1,b1,d1,s1,u1,a1,c1,e1,k10,k11,k12,k13,k15,m1,l1,_,_⟩,t1⟩:=xat_of X hc
  obtain ⟨⟨n2,q2,N2,b2,d2,s2,u2,a2,c2,e2,k20,k21,k22,k23,k25,m2,l2,_,_⟩,t2⟩:=xat_of X hE
  have h1:=X _ _ l1
  have h2:=X _ _ l2
  have y1 : (Value.ref c :: mroIn K c).contains (.ref CE) = true:=by rw [List.contains_cons,hb,Bool.or_true]
  have y2 : (Value.ref CE :: mroIn K CE).contains (.type "BaseException") = true:=by rw [List.contains_cons,(t2 _ X).hasType (X:="BaseException") (b:=true) (by decide +kernel),Bool.or_true]
  have f:=tc_notTuple
  obtain ⟨hp,g,d,tk,os⟩:=s
  unfold excMatches
  repeat (first | (with_reducible refine wpAny_loadPart_at he ?_; rw [hcls]) | with_reducible refine wpAny_loadPart_at h2 ?_ | (with_reducible refine wpAny_isSubtype_exc h2 ?_; rw [y2]) | (with_reducible refine wpAny_isSubtype_exc h1 ?_; rw [y1]) | wp_step)
  exact hq
end
def tTry (K : PySem.W.Frag) (CE : Addr) (i : Nat) (tb : XK → TS) (ts : Addr → Obj → TS) : TS:=fun D σ H =>
  tb (fun C _ H1 => Below K CE C ∧ ∀ ae oe,H1 ae = none → oe.cls = C → ∀ σ1 : St,σ1.length = σ.length →
    ts ae oe { nx:=fun σ' H' => D.nx (σ'.set i none) H',rt:=D.rt,bk:=fun σ' H' => D.bk (σ'.set i none) H',ct:=fun σ' H' => D.ct (σ'.set i none) H' } (σ1.set i (some (.ref ae))) H1) D σ H
abbrev Cx.at (X : Cx) (Et : Value → Shared → Prop) (pn' : List (Addr × Obj)) : Cx:={ X with xe:=Et,pn:=pn' }
section
variable {X : Cx} {pins pins1 : List (Addr × Obj)} {σ : St} {H : Hp} {s : Shared} {Et : Value → Shared → Prop}
theorem Cx.Ok.at (ok : X.Ok) (Et : Value → Shared → Prop) (pn' : List (Addr × Obj)) : (X.at Et pn').Ok :=
  ⟨ok.mod,ok.kind,ok.glob,ok.blt,ok.above,ok.inj,ok.has,ok.cab,ok.hd,ok.frames,ok.stk,ok.exf,ok.bs,ok.bsz,ok.noex,ok.exfs,ok.funs,ok.frf⟩
theorem Cx.Ok.unat {pn' : List (Addr × Obj)} (ok : (X.at Et pn').Ok) : X.Ok :=
  ⟨ok.mod,ok.kind,ok.glob,ok.blt,ok.above,ok.inj,ok.has,ok.cab,ok.hd,ok.frames,ok.stk,ok.exf,ok.bs,ok.bsz,ok.noex,ok.exfs,ok.funs,ok.frf⟩
theorem Inv.at (I : Inv X pins σ H s) (Et : Value → Shared → Prop) : Inv (X.at Et (X.pn ++ pins)) [] σ H s :=
  ⟨I.ok.at _ _,I.os,I.bare,I.base,I.loc,I.cell,I.free,I.freeC,fun p hp => I.pin p (by rw [List.append_nil] at hp; exact hp),I.hok,I.len⟩
theorem Inv.unat (I : Inv (X.at Et (X.pn ++ pins)) pins1 σ H s) : Inv X pins σ H s :=
  ⟨I.ok.unat,I.os,I.bare,I.base,I.loc,I.cell,I.free,I.freeC,fun p hp => I.pin p (List.mem_append_left _ hp),I.hok,I.len⟩
theorem SP.unat {D : Ends} {f : Flow} (h : SP (X.at Et (X.pn ++ pins)) pins1 D f s) : SP X pins D f s:=by
  cases f with
  | next => obtain ⟨σ',H',I,q⟩:=h; exact ⟨σ',H',I.unat,q⟩
  | brk => obtain ⟨σ',H',I,q⟩:=h; exact ⟨σ',H',I.unat,q⟩
  | cont => obtain ⟨σ',H',I,q⟩:=h; exact ⟨σ',H',I.unat,q⟩
  | ret u => obtain ⟨v,σ',H',I,r,q⟩:=h; exact ⟨v,σ',H',I.unat,r,q⟩
end
section
variable {X : Cx} {x n : Str} {CE : Addr} {i : Nat} {np hpos pos : Pos} {body suite : List Stmt} {b0 : Stmt} {tb : XK → TS} {ts : Addr → Obj → TS}
theorem ps_try (hst : X.stack = X.env :: X.outer) (hfr : X.env.frame = some X.env.locals) (hN : X.N.Nodup) (hi : X.N[i]? = some n) (hl : X.env.scope.names.lookup n = some .local) (D : XCls X.K X.mg x CE) (hg : Gl X x)
    (hb : ∀ (Et : Value → Shared → Prop) (pn' : List (Addr × Obj)) (E' : XK),Passes (CXE X.prog X.w) (X.at Et pn') E' → PSs (X.at Et pn') body (tb E')) (hs : ∀ ae oe,PSs (X.held ae oe) (b0 :: suite) (ts ae oe)) (hdb : (x == ("__debug__" : Str)) = false:=by decide) :
    PS X (.Try body [.ExceptHandler (some (.Name x np)) (some n) (b0 :: suite) hpos] [] [] pos) (tTry X.K CE i tb ts):=by
  intro pins s σ H Dn I h
  refine wpAny_Try_except ?_
  let Et : Value → Shared → Prop:=fun e s₁ => wpAny (model X.prog X.w) X.A (noteFrame e X.env) (fun _ s₂ => wpAny (model X.prog X.w) X.A (setFlight e none) (fun _ s₃ => wpAny (model X.prog X.w) X.A (handleBy e X.env [.ExceptHandler (some (.Name x np)) (some n) (b0 :: suite) hpos]) (SP X pins Dn) X.xe s₃) X.xe s₂) X.xe s₁
  refine wpAny_mono (E:=Et) (hb Et (X.pn ++ pins) _ ?_ [] s σ H Dn (I.at Et) h) (fun f s1 q => ?_) (fun _ _ z => z)
  · -- what came is caught
    rintro pins1 σ1 H2 s2 e s' I2 ⟨ae,C,a0,H1,rfl,F,⟨⟨c,rfl,hcx,hcm⟩,hE⟩⟩
    have J2 : Inv X pins σ1 H2 s2:=I2.unat
    obtain ⟨h1,B,u,hok,fl,cov,sl⟩:=F.ex
    have fl : Heap.FlyingW B (X.env :: X.outer) ae (.ref c) a0 s'.heap:=hst ▸ fl
    have frm : X.A.frames = some (X.env :: X.outer):=hst ▸ J2.ok.frames
    -- the state with the exception as it flies
    have mk : ∀ h',Heap.FlyingW B (X.env :: X.outer) ae (.ref c) a0 h' → s'.heap.UpToSlots h' → ∀ tk,Inv X pins σ1 H1 { s' with heap:=h',toks:=tk }:=fun h' fl' ups tk => by
      have F' : Flown X.prog X.w X.stack H2 s2 ae (.ref c) a0 H1 { s' with heap:=h',toks:=tk }:=by
        refine ⟨F.os,F.bare,F.frf,h1,B,u,hok,hst ▸ fl',cov,fun b o e hb => ?_⟩
        obtain ⟨s1,e1⟩:=sl b o e hb
        obtain ⟨_,o',e2,hnf⟩:=fl.2.2.1.mem (show b ∈ frs (X.env :: X.outer) from hst ▸ hb)
        rw [e1] at e2
        cases e2
        obtain ⟨s3,e3⟩:=ups b _ e1 hnf
        exact ⟨s3,e3⟩
      obtain ⟨u',hok'⟩:=F'.un
      exact J2.call' (ch:=[]) F'.os u' hok' F'.bare (fun b z => absurd z (by simp))
    have hnone : H1 ae = none:=by
      cases z : H1 ae with
      | none => rfl
      | some o =>
        obtain ⟨v,e⟩:=(hok ae o z).here
        have:=cov ae v e (.inl (by rw [z]; simp)) (fun y => by rw [F.frf ae y] at z; cases z)
        rw [fl.2.1] at this; cases this
    have hold : ∀ {h' tk},Heap.FlyingW B (X.env :: X.outer) ae (.ref c) a0 h' → Inv X pins σ1 H1 { s' with heap:=h',toks:=tk } → ∃ oe,h'.get? ae = some oe ∧ oe.cls = .ref c ∧ Inv (X.held ae oe) pins σ1 H1 { s' with heap:=h',toks:=tk }:=fun {h' tk} fl' J => by
      obtain ⟨oe,ws,e1,e2,e3,_⟩:=fl'.first
      refine ⟨oe,e1,e2,J.hold e1 hnone (fun z => ?_) (fun z => ?_) fun v z => ?_⟩
      · obtain ⟨m,⟨o',es,ep,ho',hd',_⟩,_⟩:=J.loc
        have ho' : h'.get? X.env.locals = some o':=ho'
        rw [← z,e1] at ho'
        cases ho'
        rw [e3] at hd'; cases hd'
      · obtain ⟨_,o',e4,hnf⟩:=fl'.2.2.1.mem (show ae ∈ frs (X.env :: X.outer) from by
          unfold frs; rw [List.filterMap_cons,hfr]; exact List.mem_cons_of_mem _ z)
        rw [e1] at e4
        cases e4
        exact hnf ws e3
      · rw [e3] at z; cases z
    show wpAny _ _ (noteFrame _ _) _ _ s'
    refine wpAny_looks_onW frm hfr fl fun h4 held4 up4 => ?_
    refine wpAny_landsW held4 fun h5 fl5 up5 => ?_
    have J5:=mk h5 fl5 (up4.trans up5) s'.toks
    obtain ⟨oe5,g5,c5,K5⟩:=hold fl5 J5
    refine wpAny_handleBy_cons (codeAny_handlers_test (ld_glob (X:=X.held ae oe5) K5 hg D.mgx ?_ hdb)) (by intro z; cases z)
    refine exc_match K5.kIn hcx D.exc hcm g5 c5 ?_
    refine codeAny_handlers_suite_as ?_
    refine lands_againW fl5 fun h6 fl6 up6 => ?_
    have J6:=mk h6 fl6 ((up4.trans up5).trans up6) s'.toks
    obtain ⟨oe6,g6,c6,K6⟩:=hold fl6 J6
    refine store_ok (X:=X.held ae oe6) K6 hN hi (.inl hl) (v:=.ref ae) rfl (fun s7 K7 => ?_) (.inr hl)
    have q7:=hE ae oe6 hnone c6 σ1 (by rw [J2.len,I.len])
    refine wpAny_mono (hs ae oe6 pins s7 _ H1 _ K7 q7) (fun f s8 q8 => ?_) fun _ _ z => z.elim
    have ok:=J2.ok
    cases f with
    | next =>
      obtain ⟨σ8,H8,K8,q⟩:=q8
      exact name_goes (K8.unhold ok) hN hi hl fun s9 J9 => ⟨_,H8,J9,q⟩
    | brk =>
      obtain ⟨σ8,H8,K8,q⟩:=q8
      exact name_goes (K8.unhold ok) hN hi hl fun s9 J9 => ⟨_,H8,J9,q⟩
    | cont =>
      obtain ⟨σ8,H8,K8,q⟩:=q8
      exact name_goes (K8.unhold ok) hN hi hl fun s9 J9 => ⟨_,H8,J9,q⟩
    | ret u =>
      obtain ⟨v,σ8,H8,K8,r,q⟩:=q8
      exact name_goes (K8.unhold ok) hN hi hl fun s9 J9 => ⟨v,_,H8,J9,r,q⟩
  · cases f with
    | next => exact wpAny_execs_nil q.unat
    | brk => exact q.unat
    | cont => exact q.unat
    | ret u => exact q.unat
end
end L2
set_option Elab.async false
set_option linter.all false
set_option maxRecDepth 100000
namespace L2
open PySem PySem.Spec PyProof.Rows
structure XInst (K : PySem.W.Frag) (D : Addr) : Prop where
  ga : PySem.W.findIn K (.ref D) "__getattribute__" = some (some (.builtin "BaseException.__getattribute__"))
  cl : PySem.W.findIn K (.ref D) "__class__" = some (some (.builtin "object.__class__"))
  no : PySem.W.findIn K (.ref D) "__getattr__" = some none
  ob : PySem.W.mroIn K D (.type "object") = some true
  be : PySem.W.mroIn K D (.type "BaseException") = some true
section
variable {prog : Program} {w : World} {A : Around} {E : Value → Shared → Prop} {h : Heap} {g : Array GenState} {d : Drawn} {t : Nat} {os : OsState} {a D : Addr} {o : Obj} {K : PySem.W.Frag}
theorem clx_get {R : Result → Shared → Prop} (XI : XInst K D) (X : K.In h) (hx : h.get? a = some o) (hc : o.cls = .ref D) (hq : R (.ok (.ret (.ref D))) ⟨h,g,d,t,os⟩) :
    codeAny (model prog w) A (.call (.builtin "getset_descriptor.__get__") ⟨[.builtin "object.__class__",.ref a,.ref D],[]⟩) R ⟨h,g,d,t,os⟩:=by
  have y5 : (⟨h,g,d,t,os⟩ : Shared).TypeIs (.builtin "object.__class__") "getset_descriptor":=F.typeOf_object_class
  have L8 : PySem.W.Looks (model prog w) h (isSubtype (.ref D) (.type (".".intercalate ("object.__class__".cutAt '.').dropLast))) true:=by rw [F.owner_object_class]; exact PySem.W.looks_mroIn X XI.ob
  refine codeAny_call_builtin F.slot_gs_get.plain F.entry_gs_get (F.slot_gs_get.check _ _ _ _ _ _ _ _ y5 (F.args_gs_get _ _ _) ?_)
  repeat (any_goals (first | assumption | (with_reducible refine wpAny_loadPart_at hx ?_; rw [hc]) | with_reducible refine L8.at ?_ | wp_step))
  refine ⟨Code.quiet_builtin _ (by decide +kernel),codeAny_builtin F.entry_object_class ?_⟩
  repeat (any_goals (first | assumption | (with_reducible refine wpAny_loadPart_at hx ?_; rw [hc]) | wp_step))
theorem clx_entry {tk : Tok} {Q : Fin → Shared → Prop} (XI : XInst K D) (X : K.In h) (hx : h.get? a = some o) (hc : o.cls = .ref D) (hq : Q (.done (.ret (.ref D))) ⟨h,g,d,t,os⟩) :
    wpAny (model prog w) A (Builtin.«object.__getattribute__» ⟨[.ref a,.str "__class__" tk],[]⟩) Q E ⟨h,g,d,t,os⟩:=by
  have y5 : (⟨h,g,d,t,os⟩ : Shared).TypeIs (.builtin "object.__class__") "getset_descriptor":=F.typeOf_object_class
  have y6:=F.slot_gs_get.lookup
  have y7:=F.slot_gs_set.lookup
  have y8:=F.typeOf_object_class
  have L4:=PySem.W.looks_findIn (M:=model prog w) X XI.cl
  repeat (any_goals (first | assumption | (with_reducible refine wpAny_loadPart_at hx ?_; rw [hc]) | with_reducible refine L4.at ?_ | wp_step))
  refine clx_get XI X hx hc ?_
  repeat (any_goals (first | assumption | wp_step))
theorem clx_check {M : Model} {nameV : Value} {Q : Unit → Shared → Prop} (XI : XInst K D) (X : K.In h) (hx : h.get? a = some o) (hc : o.cls = .ref D) (hq : Q () ⟨h,g,d,t,os⟩) : wpAny M A (checkBuiltinCall "BaseException.__getattribute__" ⟨[.ref a,nameV],[]⟩) Q E ⟨h,g,d,t,os⟩:=by
  have z1 : builtinKind "BaseException.__getattribute__" = some .slot:=by decide +kernel
  have z2 : splitId "BaseException.__getattribute__" = some ("BaseException","__getattribute__"):=by decide +kernel
  have L1:=PySem.W.looks_mroIn (M:=M) X XI.be
  have z3:=F.args_bexc_ga (.ref a) nameV
  simp only [checkBuiltinCall,z1,z2]
  refine wpAny_bind ?_
  unfold isInstance
  repeat (first | (with_reducible refine wpAny_loadPart_at hx ?_; rw [hc]) | with_reducible refine L1.at ?_ | wp_step)
  exact hq
theorem clx_by {tk : Tok} {Q : Value → Shared → Prop} (XI : XInst K D) (X : K.In h) (hx : h.get? a = some o) (hc : o.cls = .ref D) (hq : Q (.ref D) ⟨h,g,d,t,os⟩) : wpAny (model prog w) A (getAttrBy (.ref a) (.str "__class__" tk) false) Q E ⟨h,g,d,t,os⟩:=by
  have y3:=F.attrBase_ValueError.ga.bind (.ref a)
  have y4 : (Value.builtin "BaseException.__getattribute__" == Value.builtin "object.__getattribute__") = false:=by decide +kernel
  have y5 : (onTheHeap (Value.ref D) && Value.builtin "BaseException.__getattribute__" == Value.builtin "object.__getattribute__") = false:=by rw [y4]; rfl
  have y6 : (false && onTheHeap (Value.builtin "BaseException.__getattribute__")) = false:=rfl
  have L1:=PySem.W.looks_findIn (M:=model prog w) X XI.ga
  have L2:=PySem.W.looks_findIn (M:=model prog w) X XI.no
  repeat (any_goals (first | assumption | (with_reducible refine wpAny_loadPart_at hx ?_; rw [hc]) | with_reducible refine L1.at ?_ | with_reducible refine L2.at ?_ | wp_step))
  refine codeAny_call_builtin F.attrBase_ValueError.ga.plain F.entry_bexc_ga (clx_check XI X hx hc (clx_entry XI X hx hc ?_))
  repeat (any_goals (first | assumption | wp_step))
theorem clx_attr {Q : Option Value → Shared → Prop} (XI : XInst K D) (X : K.In h) (hx : h.get? a = some o) (hc : o.cls = .ref D) (hq : Q (some (.ref D)) ⟨h,g,d,t + 1,os⟩) : wpAny (model prog w) A (getAttr? (.ref a) "__class__") Q E ⟨h,g,d,t,os⟩:=by
  unfold getAttr? getAttrBy?
  repeat (any_goals (first | assumption | with_reducible apply clx_by XI X hx hc | wp_step))
end
theorem kitx_exc {K : PySem.W.Frag} {a D : Addr} (XI : XInst K D) (hD : PySem.W.excIn K D bmV "ValueError.__new__" = true) : PySem.W.KitX K (.ref a) (.ref D) (fun h => ∃ o,h.get? a = some o ∧ o.cls = .ref D) where
  ty:=fun M h _ ⟨o,e,c⟩ => c ▸ (PySem.W.Looks.ld e).andThen .now
  it:=fun M h X _ => by
    obtain ⟨⟨nm,qn,NN,bs,hd,sn,sub,ab,col,dd,k0,k1,k2,k3,k5,mN,hC,_,_⟩,_⟩:=xat_of X hD
    intro A' Q' E' s' k q
    unfold isType loadHead
    exact wpAny_bind (wpAny_loadPart (k _ _ (X _ _ hC)) (wpAny_pure q))
  ne:=fun h tp dd its n sl X htp => by
    obtain ⟨⟨nm,qn,NN,bs,hd,sn,sub,ab,col,dd',k0,k1,k2,k3,k5,mN,hC,_,_⟩,_⟩:=xat_of X hD
    refine Bool.eq_false_iff.mpr fun q => ?_
    have e : D = tp:=Value.ref.inj (beq_iff_eq.mp q)
    subst e
    have z:=(X _ _ hC).symm.trans htp
    exact absurd (Value.type.inj (congrArg Obj.cls (Option.some.inj z))) (by decide)
  ca:=fun {prog w A E Q s} X ⟨o,e,c⟩ k => by
    obtain ⟨hh,g,d,t,os⟩:=s
    exact clx_attr XI X e c k
section
variable {X : Cx} {ae : Addr} {oe : Obj}
def rIsX (K : PySem.W.Frag) (ae : Addr) (oe : Obj) : List V → Hp → VK → Prop:=fun xs H Q => ∃ D b,oe.cls = .ref D ∧ XInst K D ∧ PySem.W.excIn K D bmV "ValueError.__new__" = true ∧
  ((∃ c,xs = [.ref ae,.ref c] ∧ PySem.W.kitOne K (.ref D) (.ref c) = some b) ∨ ∃ t,xs = [.ref ae,.ty t] ∧ PySem.W.kitOne K (.ref D) (.type t) = some b) ∧ Q (.bl b) H
theorem call_isX (K : PySem.W.Frag) (hK : X.K = K) (hp : (ae,oe) ∈ X.pn) : CallR X (.builtin "isinstance") (rIsX K ae oe):=by
  subst hK
  intro pins s σ H xs us Q I r h
  obtain ⟨D,b,hc,XI,hD,hx,q⟩:=h
  obtain ⟨g1,_⟩:=I.pin (ae,oe) (List.mem_append_left _ hp)
  rcases hx with ⟨c,rfl,hk⟩ | ⟨c,rfl,hk⟩
  · obtain ⟨u1,u2,rfl,r1,r2⟩:=r.two
    cases (show u1 = Value.ref ae from r1)
    cases (show u2 = Value.ref c from r2)
    exact PySem.W.kia_one (kitx_exc XI hD) I.kIn ⟨oe,g1,hc⟩ hk (fun z => nomatch z) fun tk => ⟨.bl b,H,I.tok _,rfl,q⟩
  · obtain ⟨u1,u2,rfl,r1,r2⟩:=r.two
    cases (show u1 = Value.ref ae from r1)
    cases (show u2 = Value.type c from r2)
    exact PySem.W.kia_one (kitx_exc XI hD) I.kIn ⟨oe,g1,hc⟩ hk (fun z => nomatch z) fun tk => ⟨.bl b,H,I.tok _,rfl,q⟩
end
end L2
set_option Elab.async false
namespace Qh
def up {α : Type} (f : Nat → α) (i : Nat) (v : α) : Nat → α:=fun j => if j = i then v else f j
theorem up_same {α : Type} (f : Nat → α) (i : Nat) (v : α) : up f i v i = v:=by simp [up]
theorem up_ne {α : Type} (f : Nat → α) {i j : Nat} (v : α) (h : j ≠ i) : up f i v j = f j:=by simp [up,h]
theorem up_at {α : Type} (f : Nat → α) (i j : Nat) (v : α) : up f i v j = if j = i then v else f j:=rfl
def up2 {α : Type} (f : Nat → Nat → α) (i j : Nat) (v : α) : Nat → Nat → α:=up f i (up (f i) j v)
theorem up2_at {α : Type} (f : Nat → Nat → α) (i j a b : Nat) (v : α) : up2 f i j v a b = if a = i ∧ b = j then v else f a b:=by
  unfold up2 up
  by_cases h : a = i
  · subst h
    by_cases g : b = j <;> simp [g]
  · simp [h]
def sm : Nat → (Nat → Int) → Int
  | 0,_ => 0
  | n + 1,f => sm n f + f n
theorem sm_zero (f : Nat → Int) : sm 0 f = 0:=rfl
theorem sm_succ (n : Nat) (f : Nat → Int) : sm (n + 1) f = sm n f + f n:=rfl
theorem sm_congr {n : Nat} {f g : Nat → Int} (h : ∀ i,i < n → f i = g i) : sm n f = sm n g:=by
  induction n with
  | zero => rfl
  | succ n ih => rw [sm_succ,sm_succ,ih fun i hi => h i (Nat.lt_succ_of_lt hi),h n (Nat.lt_succ_self n)]
theorem sm_up_out {n i : Nat} (f : Nat → Int) (v : Int) (h : n ≤ i) : sm n (up f i v) = sm n f :=
  sm_congr fun j hj => up_ne f v (by omega)
theorem sm_up {n i : Nat} (f : Nat → Int) (v : Int) (h : i < n) : sm n (up f i v) = sm n f + v - f i:=by
  induction n with
  | zero => omega
  | succ n ih =>
    rw [sm_succ,sm_succ]
    by_cases e : i = n
    · subst e
      rw [sm_up_out f v (Nat.le_refl _),up_same]
      omega
    · rw [ih (by omega),up_ne f v (by omega)]
      omega
theorem sm_at {n i : Nat} {f g : Nat → Int} (h : i < n) (e : ∀ j,j < n → j ≠ i → g j = f j) : sm n g = sm n f + g i - f i:=by
  have q : sm n g = sm n (up f i (g i)):=sm_congr fun j hj => by
    by_cases z : j = i
    · subst z; rw [up_same]
    · rw [up_ne f _ z,e j hj z]
  rw [q,sm_up f _ h]
theorem sm_nonneg {n : Nat} {f : Nat → Int} (h : ∀ i,i < n → 0 ≤ f i) : 0 ≤ sm n f:=by
  induction n with
  | zero => exact Int.le_refl 0
  | succ n ih =>
    have a:=ih fun i hi => h i (Nat.lt_succ_of_lt hi)
    have b:=h n (Nat.lt_succ_self n)
    rw [sm_succ]; omega
theorem sm_ge {n i : Nat} {f : Nat → Int} (h : ∀ i,i < n → 0 ≤ f i) (hi : i < n) : f i ≤ sm n f:=by
  have e:=sm_up f 0 hi
  have q : 0 ≤ sm n (up f i 0):=sm_nonneg fun j hj => by
    unfold up
    split
    · exact Int.le_refl 0
    · exact h j hj
  omega
theorem sm_zero_of {n : Nat} {f : Nat → Int} (h : ∀ i,i < n → 0 ≤ f i) (e : sm n f = 0) {i : Nat} (hi : i < n) : f i = 0:=by
  have a:=sm_ge h hi
  have b:=h i hi
  omega
theorem sm_const_zero {n : Nat} {f : Nat → Int} (h : ∀ i,i < n → f i = 0) : sm n f = 0:=by
  have e : sm n f = sm n (fun _ => 0):=sm_congr h
  rw [e]
  clear e h
  induction n with
  | zero => rfl
  | succ n ih => rw [sm_succ,ih]; rfl
def sumL : List Nat → Nat
  | [] => 0
  | x :: r => x + sumL r
theorem sumL_append (a b : List Nat) : sumL (a ++ b) = sumL a + sumL b:=by
  induction a with
  | nil => simp [sumL]
  | cons x r ih => simp [sumL,ih]; omega
theorem sumL_ge {x : Nat} : ∀ {l : List Nat},x ∈ l → x ≤ sumL l
  | [],h => by simp at h
  | y :: r,h => by
    rcases List.mem_cons.mp h with e | e
    · subst e; simp [sumL]
    · have:=sumL_ge e; simp [sumL]; omega
inductive Act where
  | send (a b : Nat) | take (a b : Nat) | rest (a : Nat) | back (a b : Nat) | home (a : Nat) | pass
  deriving DecidableEq
structure S where
  busy : Nat → Bool
  rows : Nat → Nat → List Nat
  due : Nat → Nat
  over : Nat → Option Nat
  slips : Nat → Nat → Nat
  held : Nat → Nat
  hw : Nat → List Nat
  cnt : Nat → Int
  black : Nat → Bool
  place : Nat
  tcnt : Int
  tblack : Bool
  begun : Bool
  found : Bool
def new : S where
  busy:=fun k => decide (k = 0)
  rows:=fun _ _ => []
  due:=fun _ => 0
  over:=fun _ => none
  slips:=fun _ _ => 0
  held:=fun k => if k = 0 then 2 ^ 90 else 0
  hw:=fun _ => []
  cnt:=fun _ => 0
  black:=fun _ => false
  place:=0
  tcnt:=0
  tblack:=false
  begun:=false
  found:=false
def leaves (s : S) (k : Nat) : Option Nat:=if k ≠ 0 ∧ s.busy k = false ∧ s.due k = 0 then s.over k else none
def settle (s : S) (k : Nat) : S:=match leaves s k with
  | some p => { s with slips:=up2 s.slips p k (s.slips p k + 1),over:=up s.over k none }
  | none => s
def calm (s : S) : Bool:=s.begun && !s.tblack && !s.black 0 && decide (s.tcnt + s.cnt 0 = 0)
def step (n : Nat) (s : S) : Act → S
  | .send a b => { s with held:=up s.held a (s.held a / 2),rows:=up2 s.rows a b (s.rows a b ++ [s.held a / 2]),due:=up s.due a (s.due a + 1),cnt:=up s.cnt a (s.cnt a + 1) }
  | .take a b =>
    let t : S:={ s with held:=up s.held b (s.held b + (s.rows a b).headD 0),rows:=up2 s.rows a b (s.rows a b).tail,busy:=up s.busy b true,cnt:=up s.cnt b (s.cnt b - 1),black:=up s.black b true }
    if b ≠ 0 ∧ s.over b = none then { t with over:=up s.over b (some a) } else { t with slips:=up2 s.slips a b (s.slips a b + 1) }
  | .rest a =>
    let t : S:={ s with busy:=up s.busy a false }
    if a = 0 then t else settle { t with hw:=up s.hw a (s.hw a ++ [s.held a]),held:=up s.held a 0 } a
  | .back a b => settle { s with slips:=up2 s.slips a b (s.slips a b - 1),due:=up s.due a (s.due a - 1) } a
  | .home a => { s with held:=up s.held 0 (s.held 0 + (s.hw a).headD 0),hw:=up s.hw a (s.hw a).tail }
  | .pass =>
    if s.place = 0 then { s with place:=n - 1,tcnt:=0,tblack:=false,begun:=true,found:=s.found || calm s,black:=up s.black 0 false }
    else { s with place:=s.place - 1,tcnt:=s.tcnt + s.cnt s.place,tblack:=s.tblack || s.black s.place,black:=up s.black s.place false }
def Can (n : Nat) (s : S) : Act → Prop
  | .send a b => a < n ∧ b < n ∧ a ≠ b ∧ s.busy a = true
  | .take a b => a < n ∧ b < n ∧ a ≠ b ∧ s.rows a b ≠ []
  | .rest a => a < n ∧ s.busy a = true
  | .back a b => a < n ∧ b < n ∧ a ≠ b ∧ s.slips a b ≠ 0
  | .home a => a < n ∧ a ≠ 0 ∧ s.hw a ≠ []
  | .pass => s.busy s.place = false
def ln (l : List Nat) : Int:=(l.length : Int)
def wayOf (n : Nat) (s : S) (a : Nat) : Int:=sm n fun b => ln (s.rows a b)
def way (n : Nat) (s : S) : Int:=sm n fun a => wayOf n s a
def kids (n : Nat) (s : S) (a : Nat) : Int:=sm n fun c => if s.over c = some a then 1 else 0
def owed (n : Nat) (s : S) (a : Nat) : Int:=sm n fun b => ln (s.rows a b) + (s.slips a b : Int)
def Quiet (n : Nat) (s : S) : Prop:=(∀ k,k < n → s.busy k = false) ∧ ∀ a b,a < n → b < n → a ≠ b → s.rows a b = []
def treeTells (s : S) : Bool:=!s.busy 0 && decide (s.due 0 = 0)
def weightsTell (s : S) : Bool:=!s.busy 0 && decide (s.held 0 = 2 ^ 90)
structure TreeX (n : Nat) (s : S) (x : Option Nat) : Prop where
  pos : 0 < n
  self : ∀ a,s.rows a a = [] ∧ s.slips a a = 0
  top : s.over 0 = none
  inn : ∀ k p,k < n → s.over k = some p → p < n ∧ p ≠ k
  opn : ∀ a,a < n → (s.due a : Int) = owed n s a + kids n s a
  out : ∀ k,k < n → k ≠ 0 → s.over k = none → s.busy k = false ∧ s.due k = 0
  has : ∀ k,k < n → k ≠ 0 → some k ≠ x → s.over k ≠ none → s.busy k = true ∨ s.due k ≠ 0
  depth : ∃ d : Nat → Nat,∀ k p,k < n → s.over k = some p → d p < d k
abbrev Tree (n : Nat) (s : S) : Prop:=TreeX n s none
theorem owed_nonneg (n : Nat) (s : S) (a : Nat) : 0 ≤ owed n s a:=sm_nonneg fun b _ => by unfold ln; omega
theorem kids_nonneg (n : Nat) (s : S) (a : Nat) : 0 ≤ kids n s a:=sm_nonneg fun b _ => by split <;> omega
theorem owed_ge {n : Nat} {s : S} {a b : Nat} (hb : b < n) : ln (s.rows a b) + (s.slips a b : Int) ≤ owed n s a :=
  sm_ge (f:=fun b => ln (s.rows a b) + (s.slips a b : Int)) (fun b _ => by unfold ln; omega) hb
theorem kids_ge {n : Nat} {s : S} {a c : Nat} (hc : c < n) (h : s.over c = some a) : 1 ≤ kids n s a:=by
  have q:=sm_ge (f:=fun c => if s.over c = some a then (1 : Int) else 0) (fun b _ => by split <;> omega) hc
  rw [if_pos h] at q
  exact q
theorem TreeX.nokids {n : Nat} {s : S} {x : Option Nat} (T : TreeX n s x) {b : Nat} (hb : b < n) (h : s.due b = 0) {c : Nat} (hc : c < n) : s.over c ≠ some b:=fun e => by
  have a:=T.opn b hb
  have g:=kids_ge hc e
  have o:=owed_nonneg n s b
  omega
theorem owed_at {n : Nat} {s t : S} {a b : Nat} (hb : b < n) (hr : ∀ j,j ≠ b → t.rows a j = s.rows a j) (hs : ∀ j,j ≠ b → t.slips a j = s.slips a j) :
    owed n t a = owed n s a + (ln (t.rows a b) + (t.slips a b : Int)) - (ln (s.rows a b) + (s.slips a b : Int)):=by
  unfold owed
  exact sm_at (f:=fun j => ln (s.rows a j) + (s.slips a j : Int)) (g:=fun j => ln (t.rows a j) + (t.slips a j : Int)) hb fun j _ hj => by rw [hr j hj,hs j hj]
theorem owed_eq {n : Nat} {s t : S} {a : Nat} (hr : ∀ j,t.rows a j = s.rows a j) (hs : ∀ j,t.slips a j = s.slips a j) : owed n t a = owed n s a:=by
  unfold owed
  exact sm_congr fun j _ => by rw [hr j,hs j]
theorem kids_eq {n : Nat} {s t : S} {a : Nat} (h : ∀ j,t.over j = s.over j) : kids n t a = kids n s a:=by
  unfold kids
  exact sm_congr fun j _ => by rw [h j]
theorem kids_at {n : Nat} {s t : S} {a k : Nat} (hk : k < n) (h : ∀ j,j ≠ k → t.over j = s.over j) :
    kids n t a = kids n s a + (if t.over k = some a then 1 else 0) - (if s.over k = some a then 1 else 0):=by
  unfold kids
  exact sm_at (f:=fun j => if s.over j = some a then (1 : Int) else 0) (g:=fun j => if t.over j = some a then (1 : Int) else 0) hk fun j _ hj => by rw [h j hj]
theorem leaves_some {s : S} {k p : Nat} (h : leaves s k = some p) : k ≠ 0 ∧ s.busy k = false ∧ s.due k = 0 ∧ s.over k = some p:=by
  unfold leaves at h
  split at h
  · rename_i c; exact ⟨c.1,c.2.1,c.2.2,h⟩
  · cases h
theorem settle_tree {n : Nat} {s : S} {k : Nat} (hk : k < n) (T : TreeX n s (some k)) : Tree n (settle s k):=by
  unfold settle
  cases e : leaves s k with
  | none =>
    refine ⟨T.pos,T.self,T.top,T.inn,T.opn,T.out,fun j hj h0 _ ho => ?_,T.depth⟩
    by_cases z : j = k
    · subst z
      unfold leaves at e
      by_cases c : j ≠ 0 ∧ s.busy j = false ∧ s.due j = 0
      · rw [if_pos c] at e; exact absurd e ho
      · by_cases b : s.busy j = true
        · exact .inl b
        · refine .inr fun d => c ⟨h0,by simpa using b,d⟩
    · exact T.has j hj h0 (by simpa using z) ho
  | some p =>
    obtain ⟨h0,hb,hd,ho⟩:=leaves_some e
    obtain ⟨hp,hpk⟩:=T.inn k p hk ho
    refine ⟨T.pos,fun a => ⟨(T.self a).1,?_⟩,?_,fun j q hj hq => ?_,fun a ha => ?_,fun j hj hj0 hjo => ?_,fun j hj hj0 _ hjo => ?_,?_⟩
    · show up2 s.slips p k _ a a = 0
      rw [up2_at,if_neg (by rintro ⟨rfl,rfl⟩; exact hpk rfl)]
      exact (T.self a).2
    · show up s.over k none 0 = none
      rw [up_ne _ _ (Ne.symm h0)]; exact T.top
    · have hq : up s.over k none j = some q:=hq
      by_cases z : j = k
      · subst z; rw [up_same] at hq; cases hq
      · rw [up_ne _ _ z] at hq; exact T.inn j q hj hq
    · show (s.due a : Int) = _
      rw [T.opn a ha]
      have ek : kids n { s with slips:=up2 s.slips p k (s.slips p k + 1),over:=up s.over k none } a = kids n s a + (if (none : Option Nat) = some a then 1 else 0) - (if s.over k = some a then 1 else 0):=by
        rw [kids_at (s:=s) (t:={ s with slips:=up2 s.slips p k (s.slips p k + 1),over:=up s.over k none }) hk fun j hj => up_ne _ _ hj]
        show _ + (if up s.over k none k = some a then (1 : Int) else 0) - _ = _
        rw [up_same]
      rw [ek,ho]
      by_cases z : a = p
      · subst z
        have eo : owed n { s with slips:=up2 s.slips a k (s.slips a k + 1),over:=up s.over k none } a = owed n s a + 1:=by
          rw [owed_at (s:=s) (t:={ s with slips:=up2 s.slips a k (s.slips a k + 1),over:=up s.over k none }) hk (fun _ _ => rfl) (fun j hj => by show up2 s.slips a k _ a j = _; rw [up2_at,if_neg (by rintro ⟨_,z⟩; exact hj z)])]
          show owed n s a + (ln (s.rows a k) + (up2 s.slips a k (s.slips a k + 1) a k : Nat)) - _ = _
          rw [up2_at,if_pos ⟨rfl,rfl⟩]
          omega
        rw [eo,if_neg (by simp),if_pos rfl]
        omega
      · have eo : owed n { s with slips:=up2 s.slips p k (s.slips p k + 1),over:=up s.over k none } a = owed n s a:=owed_eq (fun _ => rfl) fun j => by
          show up2 s.slips p k _ a j = _
          rw [up2_at,if_neg (by rintro ⟨z',_⟩; exact z z')]
        rw [eo,if_neg (by simp),if_neg (by simp; exact fun q => z q.symm)]
        omega
    · have hjo : up s.over k none j = none:=hjo
      by_cases z : j = k
      · subst z; exact ⟨hb,hd⟩
      · rw [up_ne _ _ z] at hjo; exact T.out j hj hj0 hjo
    · have hjo : up s.over k none j ≠ none:=hjo
      by_cases z : j = k
      · subst z; rw [up_same] at hjo; exact absurd rfl hjo
      · rw [up_ne _ _ z] at hjo; exact T.has j hj hj0 (by simpa using z) hjo
    · obtain ⟨d,hd⟩:=T.depth
      refine ⟨d,fun j q hj hq => ?_⟩
      have hq : up s.over k none j = some q:=hq
      by_cases z : j = k
      · subst z; rw [up_same] at hq; cases hq
      · rw [up_ne _ _ z] at hq; exact hd j q hj hq
theorem take_new {n : Nat} {s t : S} {a b w : Nat} {r : List Nat} (T : Tree n s) (ha : a < n) (hb : b < n) (hab : a ≠ b) (er : s.rows a b = w :: r) (hb0 : b ≠ 0) (hbo : s.over b = none)
    (e1 : t.rows = up2 s.rows a b (s.rows a b).tail) (e2 : t.slips = s.slips) (e3 : t.over = up s.over b (some a)) (e4 : t.due = s.due) (e5 : t.busy = up s.busy b true) : Tree n t:=by
  obtain ⟨bb,bd⟩:=T.out b hb hb0 hbo
  have nk:=fun c (hc : c < n) => T.nokids hb bd hc
  refine ⟨T.pos,fun i => ⟨?_,by rw [e2]; exact (T.self i).2⟩,?_,fun k p hk hp => ?_,fun i hi => ?_,fun k hk h0 ho => ?_,fun k hk h0 hx ho => ?_,?_⟩
  · rw [e1,up2_at,if_neg (by rintro ⟨rfl,rfl⟩; exact hab rfl)]; exact (T.self i).1
  · rw [e3,up_ne _ _ (Ne.symm hb0)]; exact T.top
  · rw [e3] at hp
    by_cases z : k = b
    · subst z; rw [up_same] at hp; cases hp; exact ⟨ha,hab⟩
    · rw [up_ne _ _ z] at hp; exact T.inn k p hk hp
  · have ek:=kids_at (s:=s) (t:=t) (a:=i) hb fun j hj => by rw [e3,up_ne _ _ hj]
    rw [e3,up_same,hbo,if_neg (show ¬ (none : Option Nat) = some i by simp)] at ek
    rw [e4,T.opn i hi,ek]
    by_cases z : i = a
    · subst z
      have eo:=owed_at (s:=s) (t:=t) (a:=i) hb (fun j hj => by rw [e1,up2_at,if_neg (by rintro ⟨_,z⟩; exact hj z)]) fun j _ => by rw [e2]
      rw [e1,e2,up2_at,if_pos ⟨rfl,rfl⟩,er] at eo
      rw [if_pos rfl,eo]
      unfold ln
      simp only [List.tail_cons,List.length_cons]
      omega
    · have eo:=owed_eq (n:=n) (s:=s) (t:=t) (a:=i) (fun j => by rw [e1,up2_at,if_neg (by rintro ⟨z',_⟩; exact z z')]) fun j => by rw [e2]
      rw [eo,if_neg (by simp; exact fun q => z q.symm)]
      omega
  · rw [e3] at ho
    by_cases z : k = b
    · subst z; rw [up_same] at ho; cases ho
    · rw [up_ne _ _ z] at ho
      rw [e5,e4,up_ne _ _ z]
      exact T.out k hk h0 ho
  · rw [e3] at ho
    rw [e5,e4]
    by_cases z : k = b
    · subst z; rw [up_same]; exact .inl rfl
    · rw [up_ne _ _ z] at ho ⊢; exact T.has k hk h0 hx ho
  · obtain ⟨d,hd⟩:=T.depth
    refine ⟨up d b (d a + 1),fun k p hk hp => ?_⟩
    rw [e3] at hp
    by_cases z : k = b
    · subst z; rw [up_same] at hp ⊢; cases hp
      rw [up_ne _ _ hab]; omega
    · rw [up_ne _ _ z] at hp ⊢
      have zp : p ≠ b:=by rintro rfl; exact nk k hk hp
      rw [up_ne _ _ zp]
      exact hd k p hk hp
theorem take_old {n : Nat} {s t : S} {a b w : Nat} {r : List Nat} (T : Tree n s) (ha : a < n) (hb : b < n) (hab : a ≠ b) (er : s.rows a b = w :: r) (hc : ¬ (b ≠ 0 ∧ s.over b = none))
    (e1 : t.rows = up2 s.rows a b (s.rows a b).tail) (e2 : t.slips = up2 s.slips a b (s.slips a b + 1)) (e3 : t.over = s.over) (e4 : t.due = s.due) (e5 : t.busy = up s.busy b true) : Tree n t:=by
  refine ⟨T.pos,fun i => ⟨?_,?_⟩,by rw [e3]; exact T.top,by rw [e3]; exact T.inn,fun i hi => ?_,fun k hk h0 ho => ?_,fun k hk h0 hx ho => ?_,by rw [e3]; exact T.depth⟩
  · rw [e1,up2_at,if_neg (by rintro ⟨rfl,rfl⟩; exact hab rfl)]; exact (T.self i).1
  · rw [e2,up2_at,if_neg (by rintro ⟨rfl,rfl⟩; exact hab rfl)]; exact (T.self i).2
  · rw [e4,kids_eq (s:=s) (t:=t) fun j => by rw [e3],T.opn i hi]
    by_cases z : i = a
    · subst z
      have eo:=owed_at (s:=s) (t:=t) (a:=i) hb (fun j hj => by rw [e1,up2_at,if_neg (by rintro ⟨_,z⟩; exact hj z)]) fun j hj => by rw [e2,up2_at,if_neg (by rintro ⟨_,z⟩; exact hj z)]
      rw [e1,e2,up2_at,up2_at,if_pos ⟨rfl,rfl⟩,if_pos ⟨rfl,rfl⟩,er] at eo
      rw [eo]
      unfold ln
      simp only [List.tail_cons,List.length_cons]
      omega
    · rw [owed_eq (s:=s) (t:=t) (fun j => by rw [e1,up2_at,if_neg (by rintro ⟨z',_⟩; exact z z')]) fun j => by rw [e2,up2_at,if_neg (by rintro ⟨z',_⟩; exact z z')]]
  · rw [e3] at ho
    rw [e5,e4,up_ne _ _ (by rintro rfl; exact hc ⟨h0,ho⟩)]
    exact T.out k hk h0 ho
  · rw [e3] at ho
    rw [e5,e4]
    by_cases z : k = b
    · subst z; rw [up_same]; exact .inl rfl
    · rw [up_ne _ _ z]; exact T.has k hk h0 hx ho
theorem step_tree {n : Nat} {s : S} {c : Act} (T : Tree n s) (h : Can n s c) : Tree n (step n s c):=by
  cases c with
  | send a b =>
    obtain ⟨ha,hb,hab,hbu⟩:=h
    have nr : ∀ i j,¬ (i = a ∧ j = b) → (step n s (.send a b)).rows i j = s.rows i j:=fun i j z => by show up2 s.rows a b _ i j = _; rw [up2_at,if_neg z]
    refine ⟨T.pos,fun i => ⟨?_,(T.self i).2⟩,T.top,T.inn,fun i hi => ?_,fun k hk h0 ho => ?_,fun k hk h0 hx ho => ?_,T.depth⟩
    · rw [nr i i (by rintro ⟨rfl,rfl⟩; exact hab rfl)]; exact (T.self i).1
    · show ((up s.due a (s.due a + 1) i : Nat) : Int) = _
      rw [kids_eq (s:=s) (t:=step n s (.send a b)) fun _ => rfl]
      by_cases z : i = a
      · subst z
        rw [up_same,owed_at (s:=s) (t:=step n s (.send i b)) hb (fun j hj => nr i j (by rintro ⟨_,z⟩; exact hj z)) fun _ _ => rfl]
        have e : (step n s (.send i b)).rows i b = s.rows i b ++ [s.held i / 2]:=by show up2 s.rows i b _ i b = _; rw [up2_at,if_pos ⟨rfl,rfl⟩]
        have e2 : (step n s (.send i b)).slips i b = s.slips i b:=rfl
        rw [e,e2]
        have q:=T.opn i hi
        unfold ln
        rw [List.length_append]
        simp only [List.length_cons,List.length_nil]
        omega
      · rw [up_ne _ _ z,owed_eq (s:=s) (t:=step n s (.send a b)) (fun j => nr i j (by rintro ⟨z',_⟩; exact z z')) fun _ => rfl]
        exact T.opn i hi
    · obtain ⟨q1,q2⟩:=T.out k hk h0 ho
      refine ⟨q1,?_⟩
      show up s.due a _ k = 0
      rw [up_ne _ _ (by rintro rfl; rw [hbu] at q1; cases q1)]; exact q2
    · rcases T.has k hk h0 hx ho with q | q
      · exact .inl q
      · refine .inr ?_
        show up s.due a _ k ≠ 0
        unfold up
        split
        · omega
        · exact q
  | take a b =>
    obtain ⟨ha,hb,hab,hne⟩:=h
    obtain ⟨w,r,er⟩ : ∃ w r,s.rows a b = w :: r:=by
      cases e : s.rows a b with
      | nil => exact absurd e hne
      | cons w r => exact ⟨w,r,rfl⟩
    show Tree n (if b ≠ 0 ∧ s.over b = none then _ else _)
    by_cases hc : b ≠ 0 ∧ s.over b = none
    · rw [if_pos hc]
      exact take_new T ha hb hab er hc.1 hc.2 rfl rfl rfl rfl rfl
    · rw [if_neg hc]
      exact take_old T ha hb hab er (fun z => hc z) rfl rfl rfl rfl rfl
  | rest a =>
    obtain ⟨ha,hbu⟩:=h
    have pre : ∀ t : S,t.rows = s.rows → t.slips = s.slips → t.over = s.over → t.due = s.due → t.busy = up s.busy a false → TreeX n t (some a):=fun t e1 e2 e3 e4 e5 => by
      refine ⟨T.pos,fun i => by rw [e1,e2]; exact T.self i,by rw [e3]; exact T.top,fun k p hk hp => T.inn k p hk (by rw [e3] at hp; exact hp),fun i hi => ?_,fun k hk h0 ho => ?_,fun k hk h0 hx ho => ?_,?_⟩
      · rw [e4,owed_eq (s:=s) (fun j => by rw [e1]) (fun j => by rw [e2]),kids_eq (s:=s) fun j => by rw [e3]]
        exact T.opn i hi
      · rw [e3] at ho
        rw [e5,e4]
        refine ⟨?_,(T.out k hk h0 ho).2⟩
        unfold up
        split
        · rfl
        · exact (T.out k hk h0 ho).1
      · rw [e3] at ho
        rw [e5,e4,up_ne _ _ (by rintro rfl; exact hx rfl)]
        exact T.has k hk h0 (by simp) ho
      · obtain ⟨d,hd⟩:=T.depth
        exact ⟨d,fun k p hk hp => hd k p hk (by rw [e3] at hp; exact hp)⟩
    show Tree n (if a = 0 then _ else _)
    by_cases z : a = 0
    · rw [if_pos z]
      have P:=pre { s with busy:=up s.busy a false } rfl rfl rfl rfl rfl
      refine ⟨P.pos,P.self,P.top,P.inn,P.opn,P.out,fun k hk h0 _ ho => P.has k hk h0 (by rw [z]; simpa using h0) ho,P.depth⟩
    · rw [if_neg z]
      exact settle_tree ha (pre _ rfl rfl rfl rfl rfl)
  | back a b =>
    obtain ⟨ha,hb,hab,hne⟩:=h
    refine settle_tree ha ?_
    have hge:=owed_ge (s:=s) (a:=a) hb
    have hop:=T.opn a ha
    have hkk:=kids_nonneg n s a
    refine ⟨T.pos,fun i => ⟨(T.self i).1,?_⟩,T.top,T.inn,fun i hi => ?_,fun k hk h0 ho => ?_,fun k hk h0 hx ho => ?_,T.depth⟩
    · show up2 s.slips a b _ i i = 0
      rw [up2_at,if_neg (by rintro ⟨rfl,rfl⟩; exact hab rfl)]; exact (T.self i).2
    · have key : ∀ t : S,t.rows = s.rows → t.slips = up2 s.slips a b (s.slips a b - 1) → t.over = s.over → t.due = up s.due a (s.due a - 1) → (t.due i : Int) = owed n t i + kids n t i:=fun t e1 e2 e3 e4 => by
        rw [kids_eq (s:=s) (t:=t) fun j => by rw [e3],e4]
        by_cases z : i = a
        · subst z
          have eo:=owed_at (s:=s) (t:=t) (a:=i) hb (fun j _ => by rw [e1]) fun j hj => by rw [e2,up2_at,if_neg (by rintro ⟨_,z⟩; exact hj z)]
          rw [e1,e2,up2_at,if_pos ⟨rfl,rfl⟩] at eo
          rw [up_same,eo]
          unfold ln at hge ⊢
          omega
        · rw [up_ne _ _ z,owed_eq (s:=s) (t:=t) (fun j => by rw [e1]) fun j => by rw [e2,up2_at,if_neg (by rintro ⟨z',_⟩; exact z z')]]
          exact T.opn i hi
      exact key _ rfl rfl rfl rfl
    · obtain ⟨q1,q2⟩:=T.out k hk h0 ho
      refine ⟨q1,?_⟩
      show up s.due a _ k = 0
      unfold up
      split
      · rename_i z; subst z; omega
      · exact q2
    · show s.busy k = true ∨ up s.due a _ k ≠ 0
      rw [up_ne _ _ (by rintro rfl; exact hx rfl)]
      exact T.has k hk h0 (by simp) ho
  | home a => exact ⟨T.pos,T.self,T.top,T.inn,T.opn,T.out,T.has,T.depth⟩
  | pass =>
    show Tree n (if s.place = 0 then _ else _)
    split
    · exact ⟨T.pos,T.self,T.top,T.inn,T.opn,T.out,T.has,T.depth⟩
    · exact ⟨T.pos,T.self,T.top,T.inn,T.opn,T.out,T.has,T.depth⟩
theorem new_tree {n : Nat} (h : 0 < n) : Tree n new:=by
  have no : ∀ k p,new.over k = some p → False:=fun k p e => by cases (show (none : Option Nat) = some p from e)
  refine ⟨h,fun _ => ⟨rfl,rfl⟩,rfl,fun k p _ e => (no k p e).elim,fun a _ => ?_,fun k _ h0 _ => ⟨by simp [new,h0],rfl⟩,fun k _ _ _ ho => absurd rfl ho,⟨fun _ => 0,fun k p _ e => (no k p e).elim⟩⟩
  rw [show owed n new a = 0 from sm_const_zero fun _ _ => rfl,show kids n new a = 0 from sm_const_zero fun _ _ => rfl]
  rfl
theorem settle_busy (s : S) (k : Nat) : (settle s k).busy = s.busy:=by unfold settle; split <;> rfl
theorem settle_rows (s : S) (k : Nat) : (settle s k).rows = s.rows:=by unfold settle; split <;> rfl
theorem settle_held (s : S) (k : Nat) : (settle s k).held = s.held:=by unfold settle; split <;> rfl
theorem settle_hw (s : S) (k : Nat) : (settle s k).hw = s.hw:=by unfold settle; split <;> rfl
theorem settle_cnt (s : S) (k : Nat) : (settle s k).cnt = s.cnt:=by unfold settle; split <;> rfl
theorem settle_black (s : S) (k : Nat) : (settle s k).black = s.black:=by unfold settle; split <;> rfl
theorem settle_place (s : S) (k : Nat) : (settle s k).place = s.place:=by unfold settle; split <;> rfl
theorem settle_tcnt (s : S) (k : Nat) : (settle s k).tcnt = s.tcnt:=by unfold settle; split <;> rfl
theorem settle_tblack (s : S) (k : Nat) : (settle s k).tblack = s.tblack:=by unfold settle; split <;> rfl
theorem settle_begun (s : S) (k : Nat) : (settle s k).begun = s.begun:=by unfold settle; split <;> rfl
theorem settle_found (s : S) (k : Nat) : (settle s k).found = s.found:=by unfold settle; split <;> rfl
structure SameW (s t : S) : Prop where
  held : t.held = s.held
  rows : t.rows = s.rows
  hw : t.hw = s.hw
  busy : t.busy = s.busy
structure SameR (s t : S) : Prop where
  rows : t.rows = s.rows
  busy : t.busy = s.busy
  cnt : t.cnt = s.cnt
  black : t.black = s.black
  place : t.place = s.place
  tcnt : t.tcnt = s.tcnt
  tblack : t.tblack = s.tblack
  begun : t.begun = s.begun
  found : t.found = s.found
theorem settle_w (s : S) (k : Nat) : SameW s (settle s k):=⟨settle_held s k,settle_rows s k,settle_hw s k,settle_busy s k⟩
theorem settle_r (s : S) (k : Nat) : SameR s (settle s k):=⟨settle_rows s k,settle_busy s k,settle_cnt s k,settle_black s k,settle_place s k,settle_tcnt s k,settle_tblack s k,settle_begun s k,settle_found s k⟩
def onWay (n : Nat) (s : S) (a : Nat) : Int:=sm n fun b => (sumL (s.rows a b) : Int)
def total (n : Nat) (s : S) : Int:=sm n (fun k => (s.held k : Int)) + sm n (onWay n s) + sm n (fun k => (sumL (s.hw k) : Int))
structure Wts (n : Nat) (s : S) (m : Nat) : Prop where
  pos : 0 < n
  tot : total n s = 2 ^ 90
  held : ∀ k,k < n → (0 < s.held k ↔ k = 0 ∨ s.busy k = true)
  rows : ∀ a b w,w ∈ s.rows a b → 0 < w ∧ 2 ^ (90 - m) ∣ w
  hw : ∀ a w,w ∈ s.hw a → 0 < w ∧ 2 ^ (90 - m) ∣ w
  hw0 : s.hw 0 = []
  dv : ∀ k,2 ^ (90 - m) ∣ s.held k
theorem total_eq {n : Nat} {s t : S} (h : SameW s t) : total n t = total n s:=by unfold total onWay; rw [h.held,h.rows,h.hw]
theorem Wts.same {n m : Nat} {s t : S} (W : Wts n s m) (h : SameW s t) : Wts n t m:=by
  refine ⟨W.pos,by rw [total_eq h]; exact W.tot,fun k hk => by rw [h.held,h.busy]; exact W.held k hk,fun a b w hw => W.rows a b w (by rw [h.rows] at hw; exact hw),fun a w hw => W.hw a w (by rw [h.hw] at hw; exact hw),by rw [h.hw]; exact W.hw0,fun k => by rw [h.held]; exact W.dv k⟩
theorem Wts.later {n m m' : Nat} {s : S} (W : Wts n s m) (h : m ≤ m') : Wts n s m':=by
  have d : 2 ^ (90 - m') ∣ 2 ^ (90 - m):=Nat.pow_dvd_pow 2 (by omega)
  exact ⟨W.pos,W.tot,W.held,fun a b w hw => ⟨(W.rows a b w hw).1,Nat.dvd_trans d (W.rows a b w hw).2⟩,fun a w hw => ⟨(W.hw a w hw).1,Nat.dvd_trans d (W.hw a w hw).2⟩,W.hw0,fun k => Nat.dvd_trans d (W.dv k)⟩
theorem sm_held {n i : Nat} (f : Nat → Nat) (v : Nat) (h : i < n) : sm n (fun k => ((up f i v k : Nat) : Int)) = sm n (fun k => (f k : Int)) + v - f i:=by
  rw [sm_at (f:=fun k => (f k : Int)) (g:=fun k => ((up f i v k : Nat) : Int)) h (fun j _ hj => by rw [up_ne f v hj]),up_same]
theorem sm_hw {n i : Nat} (f : Nat → List Nat) (v : List Nat) (h : i < n) : sm n (fun k => (sumL (up f i v k) : Int)) = sm n (fun k => (sumL (f k) : Int)) + sumL v - sumL (f i):=by
  rw [sm_at (f:=fun k => (sumL (f k) : Int)) (g:=fun k => (sumL (up f i v k) : Int)) h (fun j _ hj => by rw [up_ne f v hj]),up_same]
theorem sm_rows {n i j : Nat} (f : Nat → Nat → List Nat) (v : List Nat) (hi : i < n) (hj : j < n) :
    sm n (fun a => sm n fun b => (sumL (up2 f i j v a b) : Int)) = sm n (fun a => sm n fun b => (sumL (f a b) : Int)) + sumL v - sumL (f i j):=by
  rw [sm_at (f:=fun a => sm n fun b => (sumL (f a b) : Int)) (g:=fun a => sm n fun b => (sumL (up2 f i j v a b) : Int)) hi (fun a _ ha => sm_congr fun b _ => by rw [up2_at,if_neg (by rintro ⟨z,_⟩; exact ha z)])]
  rw [sm_at (f:=fun b => (sumL (f i b) : Int)) (g:=fun b => (sumL (up2 f i j v i b) : Int)) hj (fun b _ hb => by rw [up2_at,if_neg (by rintro ⟨_,z⟩; exact hb z)]),up2_at,if_pos ⟨rfl,rfl⟩]
  omega
theorem sm_lens {n i j : Nat} (f : Nat → Nat → List Nat) (v : List Nat) (hi : i < n) (hj : j < n) :
    sm n (fun a => sm n fun b => ln (up2 f i j v a b)) = sm n (fun a => sm n fun b => ln (f a b)) + ln v - ln (f i j):=by
  rw [sm_at (f:=fun a => sm n fun b => ln (f a b)) (g:=fun a => sm n fun b => ln (up2 f i j v a b)) hi (fun a _ ha => sm_congr fun b _ => by rw [up2_at,if_neg (by rintro ⟨z,_⟩; exact ha z)])]
  rw [sm_at (f:=fun b => ln (f i b)) (g:=fun b => ln (up2 f i j v i b)) hj (fun b _ hb => by rw [up2_at,if_neg (by rintro ⟨_,z⟩; exact hb z)]),up2_at,if_pos ⟨rfl,rfl⟩]
  omega
theorem half_ok {m w : Nat} (hm : m < 90) (h : 2 ^ (90 - m) ∣ w) : 2 * (w / 2) = w ∧ 2 ^ (90 - (m + 1)) ∣ w / 2:=by
  have e : 90 - m = (90 - (m + 1)) + 1:=by omega
  obtain ⟨q,rfl⟩:=h
  rw [e,Nat.pow_succ]
  have r : 2 ^ (90 - (m + 1)) * 2 * q / 2 = 2 ^ (90 - (m + 1)) * q:=by
    rw [Nat.mul_right_comm,Nat.mul_div_cancel _ (by decide)]
  rw [r]
  exact ⟨by rw [Nat.mul_comm 2,Nat.mul_right_comm],Nat.dvd_mul_right _ _⟩
def bump (m : Nat) : Act → Nat
  | .send _ _ => m + 1
  | _ => m
theorem bump_le (m : Nat) (c : Act) : m ≤ bump m c:=by cases c <;> simp [bump]
theorem bump_up (m : Nat) (c : Act) : bump m c ≤ m + 1:=by cases c <;> simp [bump]
theorem step_wts {n m : Nat} {s : S} {c : Act} (W : Wts n s m) (hm : m < 90) (h : Can n s c) : Wts n (step n s c) (bump m c):=by
  have W1:=W.later (bump_le m c)
  cases c with
  | send a b =>
    obtain ⟨ha,hb,hab,hbu⟩:=h
    obtain ⟨h2,hd⟩:=half_ok hm (W.dv a)
    have hp : 0 < s.held a:=(W.held a ha).mpr (.inr hbu)
    refine ⟨W.pos,?_,fun k hk => ?_,fun i j w hw => ?_,W1.hw,W.hw0,fun k => ?_⟩
    · have t:=W.tot
      unfold total onWay at t ⊢
      show sm n (fun k => ((up s.held a (s.held a / 2) k : Nat) : Int)) + sm n (fun i => sm n fun j => (sumL (up2 s.rows a b (s.rows a b ++ [s.held a / 2]) i j) : Int)) + _ = _
      rw [sm_held _ _ ha,sm_rows _ _ ha hb,sumL_append]
      have e : sumL [s.held a / 2] = s.held a / 2:=by simp [sumL]
      rw [e]
      show _ + sm n (fun k => (sumL (s.hw k) : Int)) = _
      omega
    · show 0 < up s.held a _ k ↔ k = 0 ∨ s.busy k = true
      rw [← W.held k hk]
      unfold up
      split
      · rename_i z; subst z; omega
      · rfl
    · have hw : w ∈ up2 s.rows a b (s.rows a b ++ [s.held a / 2]) i j:=hw
      rw [up2_at] at hw
      split at hw
      · rcases List.mem_append.mp hw with z | z
        · exact W1.rows a b w z
        · rw [List.mem_singleton] at z; subst z; exact ⟨by omega,hd⟩
      · exact W1.rows i j w hw
    · show _ ∣ up s.held a _ k
      unfold up
      split
      · exact hd
      · exact W1.dv k
  | take a b =>
    obtain ⟨ha,hb,hab,hne⟩:=h
    obtain ⟨w,r,er⟩ : ∃ w r,s.rows a b = w :: r:=by
      cases e : s.rows a b with
      | nil => exact absurd e hne
      | cons w r => exact ⟨w,r,rfl⟩
    have hwr:=W1.rows a b w (by rw [er]; simp)
    have key : ∀ t : S,t.held = up s.held b (s.held b + (s.rows a b).headD 0) → t.rows = up2 s.rows a b (s.rows a b).tail → t.busy = up s.busy b true → t.hw = s.hw → Wts n t m:=fun t e1 e2 e3 e4 => by
      rw [er] at e1 e2
      refine ⟨W.pos,?_,fun k hk => ?_,fun i j x hx => ?_,by rw [e4]; exact W1.hw,by rw [e4]; exact W.hw0,fun k => ?_⟩
      · have t':=W.tot
        unfold total onWay at t' ⊢
        rw [e1,e2,e4,sm_held _ _ hb,sm_rows _ _ ha hb,er]
        simp only [List.headD_cons,List.tail_cons,sumL]
        omega
      · rw [e1,e3]
        unfold up
        split
        · simp only [List.headD_cons,or_true,iff_true]; omega
        · exact W.held k hk
      · rw [e2,up2_at] at hx
        split at hx
        · exact W1.rows a b x (by rw [er]; exact List.mem_cons_of_mem _ hx)
        · exact W1.rows i j x hx
      · rw [e1]
        unfold up
        split
        · exact Nat.dvd_add (W1.dv b) hwr.2
        · exact W1.dv k
    show Wts n (if b ≠ 0 ∧ s.over b = none then _ else _) m
    split
    · exact key _ rfl rfl rfl rfl
    · exact key _ rfl rfl rfl rfl
  | rest a =>
    obtain ⟨ha,hbu⟩:=h
    show Wts n (if a = 0 then _ else _) m
    by_cases z : a = 0
    · rw [if_pos z]
      subst z
      refine ⟨W.pos,W.tot,fun k hk => ?_,W1.rows,W1.hw,W.hw0,W1.dv⟩
      show 0 < s.held k ↔ k = 0 ∨ up s.busy 0 false k = true
      rw [W.held k hk]
      by_cases y : k = 0
      · simp [y]
      · rw [up_ne _ _ y]
    · rw [if_neg z]
      refine Wts.same ?_ (settle_w _ _)
      have hp : 0 < s.held a:=(W.held a ha).mpr (.inr hbu)
      refine ⟨W.pos,?_,fun k hk => ?_,W1.rows,fun i x hx => ?_,?_,fun k => ?_⟩
      · have t:=W.tot
        unfold total onWay at t ⊢
        show sm n (fun k => ((up s.held a 0 k : Nat) : Int)) + _ + sm n (fun k => (sumL (up s.hw a (s.hw a ++ [s.held a]) k) : Int)) = _
        rw [sm_held _ _ ha,sm_hw _ _ ha,sumL_append]
        have e : sumL [s.held a] = s.held a:=by simp [sumL]
        rw [e]
        show _ + sm n (fun i => sm n fun j => (sumL (s.rows i j) : Int)) + _ = _
        omega
      · show 0 < up s.held a 0 k ↔ k = 0 ∨ up s.busy a false k = true
        by_cases y : k = a
        · subst y; rw [up_same,up_same]; simp [z]
        · rw [up_ne _ _ y,up_ne _ _ y]; exact W.held k hk
      · have hx : x ∈ up s.hw a (s.hw a ++ [s.held a]) i:=hx
        by_cases y : i = a
        · subst y
          rw [up_same] at hx
          rcases List.mem_append.mp hx with q | q
          · exact W1.hw i x q
          · rw [List.mem_singleton] at q; subst q; exact ⟨hp,W1.dv i⟩
        · rw [up_ne _ _ y] at hx; exact W1.hw i x hx
      · show up s.hw a _ 0 = []
        rw [up_ne _ _ (Ne.symm z)]; exact W.hw0
      · show _ ∣ up s.held a 0 k
        unfold up
        split
        · exact Nat.dvd_zero _
        · exact W1.dv k
  | back a b => exact Wts.same W1 ⟨settle_held _ _,settle_rows _ _,settle_hw _ _,settle_busy _ _⟩
  | home a =>
    obtain ⟨ha,h0,hne⟩:=h
    obtain ⟨w,r,er⟩ : ∃ w r,s.hw a = w :: r:=by
      cases e : s.hw a with
      | nil => exact absurd e hne
      | cons w r => exact ⟨w,r,rfl⟩
    have hwr:=W1.hw a w (by rw [er]; simp)
    refine ⟨W.pos,?_,fun k hk => ?_,W1.rows,fun i x hx => ?_,?_,fun k => ?_⟩
    · have t:=W.tot
      unfold total onWay at t ⊢
      show sm n (fun k => ((up s.held 0 (s.held 0 + (s.hw a).headD 0) k : Nat) : Int)) + _ + sm n (fun k => (sumL (up s.hw a (s.hw a).tail k) : Int)) = _
      rw [sm_held _ _ W.pos,sm_hw _ _ ha,er]
      simp only [List.headD_cons,List.tail_cons,sumL]
      show _ + sm n (fun i => sm n fun j => (sumL (s.rows i j) : Int)) + _ = _
      omega
    · show 0 < up s.held 0 _ k ↔ k = 0 ∨ s.busy k = true
      have q:=W.held k hk
      by_cases y : k = 0
      · subst y; rw [up_same,er]; simp only [List.headD_cons,true_or,iff_true]; omega
      · rw [up_ne _ _ y]; exact q
    · have hx : x ∈ up s.hw a (s.hw a).tail i:=hx
      by_cases y : i = a
      · subst y; rw [up_same,er] at hx; exact W1.hw i x (by rw [er]; exact List.mem_cons_of_mem _ hx)
      · rw [up_ne _ _ y] at hx; exact W1.hw i x hx
    · show up s.hw a _ 0 = []
      rw [up_ne _ _ (Ne.symm h0)]; exact W.hw0
    · show _ ∣ up s.held 0 _ k
      unfold up
      split
      · rw [er]; exact Nat.dvd_add (W1.dv 0) hwr.2
      · exact W1.dv k
  | pass =>
    refine Wts.same W1 ?_
    show SameW s (if s.place = 0 then _ else _)
    split
    · exact ⟨rfl,rfl,rfl,rfl⟩
    · exact ⟨rfl,rfl,rfl,rfl⟩
theorem new_wts {n : Nat} (h : 0 < n) : Wts n new 0:=by
  refine ⟨h,?_,fun k _ => ?_,fun a b w hw => ?_,fun a w hw => ?_,rfl,fun k => ?_⟩
  · unfold total
    rw [show sm n (onWay n new) = 0 from sm_const_zero fun a _ => sm_const_zero fun b _ => rfl,show sm n (fun k => (sumL (new.hw k) : Int)) = 0 from sm_const_zero fun _ _ => rfl]
    have e:=sm_at (f:=fun _ => 0) (g:=fun k => (new.held k : Int)) h (fun j _ hj => by simp [new,hj])
    rw [e,sm_const_zero fun _ _ => rfl]
    simp [new]
  · show 0 < (if k = 0 then 2 ^ 90 else 0) ↔ k = 0 ∨ decide (k = 0) = true
    by_cases z : k = 0
    · simp [z]
    · simp [z]
  · cases (show w ∈ ([] : List Nat) from hw)
  · cases (show w ∈ ([] : List Nat) from hw)
  · show _ ∣ (if k = 0 then 2 ^ 90 else 0)
    split
    · exact Nat.dvd_refl _
    · exact Nat.dvd_zero _
theorem parts_nonneg (n : Nat) (s : S) : 0 ≤ sm n (onWay n s) ∧ 0 ≤ sm n (fun k => (sumL (s.hw k) : Int)) ∧ 0 ≤ sm n (fun k => (s.held k : Int)) :=
  ⟨sm_nonneg fun a _ => sm_nonneg fun b _ => by omega,sm_nonneg fun a _ => by omega,sm_nonneg fun a _ => by omega⟩
theorem Wts.held_le {n m : Nat} {s : S} (W : Wts n s m) {k : Nat} (hk : k < n) : s.held k ≤ 2 ^ 90:=by
  obtain ⟨a,b,c⟩:=parts_nonneg n s
  have t:=W.tot
  unfold total at t
  have g:=sm_ge (f:=fun k => (s.held k : Int)) (fun _ _ => by omega) hk
  have g : (s.held k : Int) ≤ sm n fun k => (s.held k : Int):=g
  omega
structure Ring (n : Nat) (s : S) : Prop where
  pos : 0 < n
  cnts : sm n s.cnt = way n s
  plc : s.place < n
  saf : s.begun = true → ((∀ i,s.place < i → i < n → s.busy i = false) ∧ s.tcnt = sm n s.cnt - sm (s.place + 1) s.cnt) ∨ 0 < sm (s.place + 1) s.cnt + s.tcnt ∨ (∃ i,i ≤ s.place ∧ s.black i = true) ∨ s.tblack = true
  fnd : s.found = true → Quiet n s
theorem way_nonneg (n : Nat) (s : S) : 0 ≤ way n s:=sm_nonneg fun a _ => sm_nonneg fun b _ => by unfold ln; omega
theorem way_zero {n : Nat} {s : S} (h : way n s = 0) {a b : Nat} (ha : a < n) (hb : b < n) : s.rows a b = []:=by
  have e:=sm_zero_of (f:=wayOf n s) (fun j _ => sm_nonneg fun b _ => by unfold ln; omega) h ha
  have e2:=sm_zero_of (f:=fun b => ln (s.rows a b)) (fun b _ => by unfold ln; omega) e hb
  have e2 : ln (s.rows a b) = 0:=e2
  unfold ln at e2
  exact List.eq_nil_of_length_eq_zero (by omega)
theorem way_pos {n : Nat} {s : S} {a b : Nat} (ha : a < n) (hb : b < n) (h : s.rows a b ≠ []) : 0 < way n s:=by
  have g:=way_nonneg n s
  by_cases z : way n s = 0
  · exact absurd (way_zero z ha hb) h
  · omega
theorem quiet_of {n : Nat} {s t : S} (q : Quiet n s) (h1 : t.busy = s.busy) (h2 : t.rows = s.rows) : Quiet n t:=⟨fun k hk => by rw [h1]; exact q.1 k hk,fun a b ha hb hab => by rw [h2]; exact q.2 a b ha hb hab⟩
theorem quiet_step {n : Nat} {s : S} {c : Act} (q : Quiet n s) (h : Can n s c) : (step n s c).busy = s.busy ∧ (step n s c).rows = s.rows:=by
  cases c with
  | send a b => have:=q.1 a h.1; rw [h.2.2.2] at this; cases this
  | take a b => exact absurd (q.2 a b h.1 h.2.1 h.2.2.1) h.2.2.2
  | rest a => have:=q.1 a h.1; rw [h.2] at this; cases this
  | back a b => exact ⟨settle_busy _ _,settle_rows _ _⟩
  | home a => exact ⟨rfl,rfl⟩
  | pass =>
    show (if s.place = 0 then _ else _ : S).busy = _ ∧ (if s.place = 0 then _ else _ : S).rows = _
    split <;> exact ⟨rfl,rfl⟩
theorem quiet_stays {n : Nat} {s : S} {c : Act} (q : Quiet n s) (h : Can n s c) : Quiet n (step n s c):=quiet_of q (quiet_step q h).1 (quiet_step q h).2
theorem sm_up_le {n i : Nat} (f : Nat → Int) (v : Int) : sm n (up f i v) = if i < n then sm n f + v - f i else sm n f:=by
  split
  · rename_i h; exact sm_up f v h
  · rename_i h; exact sm_up_out f v (by omega)
theorem Ring.same {n : Nat} {s t : S} (R : Ring n s) (h : SameR s t) : Ring n t:=by
  refine ⟨R.pos,?_,by rw [h.place]; exact R.plc,?_,fun f => quiet_of (R.fnd (by rw [h.found] at f; exact f)) h.busy h.rows⟩
  · have:=R.cnts
    unfold way wayOf at this ⊢
    rw [h.cnt,h.rows]; exact this
  · rw [h.begun,h.place,h.busy,h.tcnt,h.cnt,h.black,h.tblack]; exact R.saf
theorem step_ring {n : Nat} {s : S} {c : Act} (R : Ring n s) (self : ∀ a,s.rows a a = []) (h : Can n s c) : Ring n (step n s c):=by
  have hp:=R.plc
  have fn : ∀ t : S,t = step n s c → s.found = true → Quiet n t:=fun t e f => e ▸ quiet_stays (R.fnd f) h
  cases c with
  | send a b =>
    obtain ⟨ha,hb,hab,hbu⟩:=h
    refine ⟨R.pos,?_,R.plc,fun bg => ?_,fn _ rfl⟩
    · show sm n (up s.cnt a (s.cnt a + 1)) = sm n fun i => sm n fun j => ln (up2 s.rows a b (s.rows a b ++ [s.held a / 2]) i j)
      rw [sm_up _ _ ha,sm_lens _ _ ha hb]
      have q:=R.cnts
      unfold way wayOf at q
      have e : ln (s.rows a b ++ [s.held a / 2]) = ln (s.rows a b) + 1:=by unfold ln; simp
      rw [e]
      omega
    · show ((∀ i,s.place < i → i < n → s.busy i = false) ∧ s.tcnt = sm n (up s.cnt a (s.cnt a + 1)) - sm (s.place + 1) (up s.cnt a (s.cnt a + 1))) ∨ 0 < sm (s.place + 1) (up s.cnt a (s.cnt a + 1)) + s.tcnt ∨ (∃ i,i ≤ s.place ∧ s.black i = true) ∨ s.tblack = true
      rw [sm_up _ _ ha,sm_up_le]
      rcases R.saf bg with ⟨q1,q2⟩ | q | q | q
      · by_cases z : s.place < a
        · have:=q1 a z ha; rw [hbu] at this; cases this
        · rw [if_pos (by omega)]
          exact .inl ⟨q1,by omega⟩
      · refine .inr (.inl ?_)
        split <;> omega
      · exact .inr (.inr (.inl q))
      · exact .inr (.inr (.inr q))
  | take a b =>
    obtain ⟨ha,hb,hab,hne⟩:=h
    obtain ⟨w,r,er⟩ : ∃ w r,s.rows a b = w :: r:=by
      cases e : s.rows a b with
      | nil => exact absurd e hne
      | cons w r => exact ⟨w,r,rfl⟩
    have wp:=way_pos (s:=s) ha hb hne
    have key : ∀ t : S,t.rows = up2 s.rows a b (s.rows a b).tail → t.busy = up s.busy b true → t.cnt = up s.cnt b (s.cnt b - 1) → t.black = up s.black b true → t.place = s.place → t.tcnt = s.tcnt → t.tblack = s.tblack → t.begun = s.begun → (s.found = true → Quiet n t) → t.found = s.found → Ring n t:=fun t e1 e2 e3 e4 e5 e6 e7 e8 e9 e10 => by
      refine ⟨R.pos,?_,by rw [e5]; exact R.plc,fun bg => ?_,fun f => e9 (by rw [e10] at f; exact f)⟩
      · unfold way wayOf
        rw [e3,e1,sm_up _ _ hb,sm_lens _ _ ha hb,er]
        have q:=R.cnts
        unfold way wayOf at q
        have e : ln (w :: r) = ln r + 1:=by unfold ln; simp
        simp only [List.tail_cons]
        rw [e]
        omega
      · rw [e8] at bg
        rw [e2,e3,e4,e5,e6,e7,sm_up _ _ hb,sm_up_le]
        by_cases z : b ≤ s.place
        · exact .inr (.inr (.inl ⟨b,z,up_same _ _ _⟩))
        · rw [if_neg (by omega)]
          rcases R.saf bg with ⟨q1,q2⟩ | q | ⟨i,q1,q2⟩ | q
          · refine .inr (.inl ?_)
            have q:=R.cnts
            omega
          · exact .inr (.inl q)
          · exact .inr (.inr (.inl ⟨i,q1,by rw [up_ne _ _ (by omega)]; exact q2⟩))
          · exact .inr (.inr (.inr q))
    have fn':=fun t e => fn t e
    revert fn'
    show (∀ t : S,t = (if b ≠ 0 ∧ s.over b = none then _ else _) → s.found = true → Quiet n t) → Ring n (if b ≠ 0 ∧ s.over b = none then _ else _)
    split
    · intro fn'; exact key _ rfl rfl rfl rfl rfl rfl rfl rfl (fn' _ rfl) rfl
    · intro fn'; exact key _ rfl rfl rfl rfl rfl rfl rfl rfl (fn' _ rfl) rfl
  | rest a =>
    obtain ⟨ha,hbu⟩:=h
    have key : ∀ t : S,t.rows = s.rows → t.busy = up s.busy a false → t.cnt = s.cnt → t.black = s.black → t.place = s.place → t.tcnt = s.tcnt → t.tblack = s.tblack → t.begun = s.begun → t.found = s.found → Ring n t:=fun t e1 e2 e3 e4 e5 e6 e7 e8 e10 => by
      refine ⟨R.pos,?_,by rw [e5]; exact R.plc,fun bg => ?_,fun f => ?_⟩
      · have q:=R.cnts
        unfold way wayOf at q ⊢
        rw [e3,e1]; exact q
      · rw [e8] at bg
        rw [e2,e3,e4,e5,e6,e7]
        rcases R.saf bg with ⟨q1,q2⟩ | q | q | q
        · refine .inl ⟨fun i h1 h2 => ?_,q2⟩
          unfold up
          split
          · rfl
          · exact q1 i h1 h2
        · exact .inr (.inl q)
        · exact .inr (.inr (.inl q))
        · exact .inr (.inr (.inr q))
      · have q:=R.fnd (by rw [e10] at f; exact f)
        have:=q.1 a ha
        rw [hbu] at this; cases this
    show Ring n (if a = 0 then _ else _)
    split
    · exact key _ rfl rfl rfl rfl rfl rfl rfl rfl rfl
    · exact Ring.same (key { s with busy:=up s.busy a false,hw:=up s.hw a (s.hw a ++ [s.held a]),held:=up s.held a 0 } rfl rfl rfl rfl rfl rfl rfl rfl rfl) (settle_r _ _)
  | back a b => exact Ring.same (s:=s) R ⟨settle_rows _ _,settle_busy _ _,settle_cnt _ _,settle_black _ _,settle_place _ _,settle_tcnt _ _,settle_tblack _ _,settle_begun _ _,settle_found _ _⟩
  | home a => exact Ring.same R ⟨rfl,rfl,rfl,rfl,rfl,rfl,rfl,rfl,rfl⟩
  | pass =>
    have hb : s.busy s.place = false:=h
    show Ring n (if s.place = 0 then _ else _)
    by_cases z : s.place = 0
    · rw [if_pos z]
      refine ⟨R.pos,R.cnts,by show n - 1 < n; omega,fun _ => .inl ⟨fun i h1 h2 => ?_,?_⟩,fun f => ?_⟩
      · have h1 : n - 1 < i:=h1; omega
      · show (0 : Int) = sm n s.cnt - sm (n - 1 + 1) s.cnt
        rw [show n - 1 + 1 = n by omega]; omega
      · have f : (s.found || calm s) = true:=f
        rcases Bool.or_eq_true _ _ ▸ f with f | f
        · exact quiet_of (R.fnd f) rfl rfl
        · unfold calm at f
          simp only [Bool.and_eq_true,Bool.not_eq_true',decide_eq_true_eq] at f
          obtain ⟨⟨⟨f1,f2⟩,f3⟩,f4⟩:=f
          have q1:=sm_succ 0 s.cnt
          rw [sm_zero] at q1
          rcases R.saf f1 with ⟨q,q2⟩ | q | ⟨i,qi,qb⟩ | q
          · rw [z] at q q2
            have w0 : way n s = 0:=by rw [← R.cnts]; omega
            refine quiet_of (s:=s) ⟨fun k hk => ?_,fun a b ha hb' _ => way_zero w0 ha hb'⟩ rfl rfl
            by_cases y : k = 0
            · subst y; rw [z] at hb; exact hb
            · exact q k (by omega) hk
          · rw [z] at q; exfalso; omega
          · rw [z] at qi
            have : i = 0:=by omega
            subst this
            rw [f3] at qb; cases qb
          · rw [f2] at q; cases q
    · rw [if_neg z]
      have e1 : s.place - 1 + 1 = s.place:=by omega
      have q1:=sm_succ s.place s.cnt
      refine ⟨R.pos,R.cnts,by show s.place - 1 < n; omega,fun bg => ?_,fun f => quiet_of (R.fnd f) rfl rfl⟩
      show ((∀ i,s.place - 1 < i → i < n → s.busy i = false) ∧ s.tcnt + s.cnt s.place = sm n s.cnt - sm (s.place - 1 + 1) s.cnt) ∨ 0 < sm (s.place - 1 + 1) s.cnt + (s.tcnt + s.cnt s.place) ∨ (∃ i,i ≤ s.place - 1 ∧ up s.black s.place false i = true) ∨ (s.tblack || s.black s.place) = true
      rw [e1]
      rcases R.saf bg with ⟨q,q2⟩ | q | ⟨i,qi,qb⟩ | q
      · refine .inl ⟨fun i h1 h2 => ?_,by omega⟩
        by_cases y : i = s.place
        · subst y; exact hb
        · exact q i (by omega) h2
      · exact .inr (.inl (by omega))
      · by_cases y : i = s.place
        · subst y; rw [qb]; exact .inr (.inr (.inr (by simp)))
        · exact .inr (.inr (.inl ⟨i,by omega,by rw [up_ne _ _ y]; exact qb⟩))
      · rw [q]; exact .inr (.inr (.inr rfl))
theorem new_ring {n : Nat} (h : 0 < n) : Ring n new:=by
  refine ⟨h,?_,h,fun b => ?_,fun b => ?_⟩
  · rw [show way n new = 0 from sm_const_zero fun a _ => sm_const_zero fun b _ => rfl]
    exact sm_const_zero fun _ _ => rfl
  · cases (show false = true from b)
  · cases (show false = true from b)
def homes (n : Nat) (s : S) : Int:=sm n fun k => ln (s.hw k)
def busies (n : Nat) (s : S) : Int:=sm n fun k => if s.busy k = true then 1 else 0
theorem busies_nonneg (n : Nat) (s : S) : 0 ≤ busies n s:=sm_nonneg fun k _ => by split <;> omega
theorem busies_at {n : Nat} {s t : S} {a : Nat} (ha : a < n) (h : ∀ j,j ≠ a → t.busy j = s.busy j) : busies n t = busies n s + (if t.busy a = true then 1 else 0) - (if s.busy a = true then 1 else 0):=by
  unfold busies
  exact sm_at (f:=fun k => if s.busy k = true then (1 : Int) else 0) (g:=fun k => if t.busy k = true then (1 : Int) else 0) ha fun j _ hj => by rw [h j hj]
theorem homes_nonneg (n : Nat) (s : S) : 0 ≤ homes n s:=sm_nonneg fun k _ => by unfold ln; omega
def Few (n : Nat) (s : S) (m : Nat) : Prop:=way n s + busies n s + homes n s ≤ (m : Int) + 1
theorem Few.row {n m : Nat} {s : S} (h : Few n s m) {a b : Nat} (ha : a < n) (hb : b < n) : (s.rows a b).length ≤ m + 1:=by
  have h1:=busies_nonneg n s
  have h2:=homes_nonneg n s
  have e1:=sm_ge (f:=wayOf n s) (fun j _ => sm_nonneg fun b _ => by unfold ln; omega) ha
  have e2:=sm_ge (f:=fun b => ln (s.rows a b)) (fun b _ => by unfold ln; omega) hb
  unfold Few at h
  have e1 : sm n (fun b => ln (s.rows a b)) ≤ way n s:=e1
  have e2 : ((s.rows a b).length : Int) ≤ sm n (fun b => ln (s.rows a b)):=e2
  omega
theorem Few.home {n m : Nat} {s : S} (h : Few n s m) {a : Nat} (ha : a < n) : (s.hw a).length ≤ m + 1:=by
  have h1:=busies_nonneg n s
  have h2:=way_nonneg n s
  have e2:=sm_ge (f:=fun k => ln (s.hw k)) (fun b _ => by unfold ln; omega) ha
  unfold Few at h
  have e2 : ((s.hw a).length : Int) ≤ homes n s:=e2
  omega
theorem new_few {n : Nat} (h : 0 < n) : Few n new 0:=by
  unfold Few
  have e1 : way n new = 0:=sm_const_zero fun a _ => sm_const_zero fun b _ => rfl
  have e2 : homes n new = 0:=sm_const_zero fun a _ => rfl
  have e3 : busies n new = 1:=by
    have q:=busies_at (n:=n) (s:={ new with busy:=fun _ => false }) (t:=new) (a:=0) h (fun j hj => by show decide (j = 0) = false; exact decide_eq_false hj)
    rw [q]
    have z : busies n { new with busy:=fun _ => false } = 0:=sm_const_zero fun a _ => rfl
    rw [z]; rfl
  rw [e1,e2,e3]; decide
theorem step_few {n m : Nat} {s : S} {c : Act} (F : Few n s m) (h : Can n s c) : Few n (step n s c) (bump m c):=by
  unfold Few at F ⊢
  have hh : ∀ t : S,t.hw = s.hw → homes n t = homes n s:=fun t e => by unfold homes; rw [e]
  have hb : ∀ t : S,t.busy = s.busy → busies n t = busies n s:=fun t e => by unfold busies; rw [e]
  have hy : ∀ t : S,t.rows = s.rows → way n t = way n s:=fun t e => by unfold way wayOf; rw [e]
  cases c with
  | send a b =>
    obtain ⟨ha,hb',_,_⟩:=h
    have e : way n (step n s (.send a b)) = way n s + 1:=by
      unfold way wayOf
      show sm n (fun i => sm n fun j => ln (up2 s.rows a b (s.rows a b ++ [s.held a / 2]) i j)) = _
      rw [sm_lens _ _ ha hb']
      unfold ln; rw [List.length_append]; simp only [List.length_cons,List.length_nil]; omega
    rw [e,hh (step n s (.send a b)) rfl,hb (step n s (.send a b)) rfl]
    show _ ≤ ((m + 1 : Nat) : Int) + 1
    omega
  | take a b =>
    obtain ⟨ha,hb',_,hne⟩:=h
    have key : ∀ t : S,t.rows = up2 s.rows a b (s.rows a b).tail → t.busy = up s.busy b true → t.hw = s.hw → way n t + busies n t + homes n t ≤ (m : Int) + 1:=fun t e1 e2 e3 => by
      have q:=busies_at (s:=s) (t:=t) hb' fun j hj => by rw [e2,up_ne _ _ hj]
      rw [e2,up_same,if_pos rfl] at q
      have r : way n t = way n s - 1:=by
        unfold way wayOf
        rw [e1,sm_lens _ _ ha hb']
        cases e : s.rows a b with
        | nil => exact absurd e hne
        | cons w r => unfold ln; simp only [List.tail_cons,List.length_cons]; omega
      rw [q,r,hh _ e3]
      split <;> omega
    show way n (if b ≠ 0 ∧ s.over b = none then _ else _ : S) + busies n (if b ≠ 0 ∧ s.over b = none then _ else _ : S) + homes n (if b ≠ 0 ∧ s.over b = none then _ else _ : S) ≤ _
    split
    · exact key _ rfl rfl rfl
    · exact key _ rfl rfl rfl
  | rest a =>
    obtain ⟨ha,hbu⟩:=h
    have key : ∀ t : S,t.rows = s.rows → t.busy = up s.busy a false → homes n t ≤ homes n s + 1 → way n t + busies n t + homes n t ≤ (m : Int) + 1:=fun t e1 e2 e3 => by
      have q:=busies_at (s:=s) (t:=t) ha fun j hj => by rw [e2,up_ne _ _ hj]
      rw [e2,up_same,hbu,if_pos rfl,if_neg (by simp)] at q
      rw [q,hy _ e1]; omega
    show way n (if a = 0 then _ else _ : S) + busies n (if a = 0 then _ else _ : S) + homes n (if a = 0 then _ else _ : S) ≤ _
    split
    · refine key _ rfl rfl ?_
      rw [hh { s with busy:=up s.busy a false } rfl]; omega
    · refine key _ (settle_rows _ _) (settle_busy _ _) ?_
      unfold homes
      rw [settle_hw]
      show sm n (fun k => ln (up s.hw a (s.hw a ++ [s.held a]) k)) ≤ _
      rw [sm_at (f:=fun k => ln (s.hw k)) (g:=fun k => ln (up s.hw a (s.hw a ++ [s.held a]) k)) ha (fun j _ hj => by rw [up_ne _ _ hj]),up_same]
      unfold ln; rw [List.length_append]; simp only [List.length_cons,List.length_nil]; omega
  | back a b =>
    rw [hy (step n s (.back a b)) (settle_rows _ _),hb (step n s (.back a b)) (settle_busy _ _),hh (step n s (.back a b)) (settle_hw _ _)]
    exact F
  | home a =>
    obtain ⟨ha,h0,hne⟩:=h
    have e : homes n (step n s (.home a)) = homes n s - 1:=by
      unfold homes
      show sm n (fun k => ln (up s.hw a (s.hw a).tail k)) = _
      rw [sm_at (f:=fun k => ln (s.hw k)) (g:=fun k => ln (up s.hw a (s.hw a).tail k)) ha (fun j _ hj => by rw [up_ne _ _ hj]),up_same]
      cases e : s.hw a with
      | nil => exact absurd e hne
      | cons w r => unfold ln; simp only [List.tail_cons,List.length_cons]; omega
    rw [e,hy (step n s (.home a)) rfl,hb (step n s (.home a)) rfl]
    show _ ≤ (m : Int) + 1
    omega
  | pass =>
    have key : ∀ t : S,t.rows = s.rows → t.busy = s.busy → t.hw = s.hw → way n t + busies n t + homes n t ≤ (m : Int) + 1:=fun t e1 e2 e3 => by
      rw [hy _ e1,hb _ e2,hh _ e3]; exact F
    show way n (if s.place = 0 then _ else _ : S) + busies n (if s.place = 0 then _ else _ : S) + homes n (if s.place = 0 then _ else _ : S) ≤ _
    split
    · exact key _ rfl rfl rfl
    · exact key _ rfl rfl rfl
structure Good (n : Nat) (s : S) (m : Nat) : Prop where
  tree : Tree n s
  wts : Wts n s m
  ring : Ring n s
  few : Few n s m
theorem new_good {n : Nat} (h : 0 < n) : Good n new 0:=⟨new_tree h,new_wts h,new_ring h,new_few h⟩
theorem step_good {n m : Nat} {s : S} {c : Act} (G : Good n s m) (hm : m < 90) (h : Can n s c) : Good n (step n s c) (bump m c) :=
  ⟨step_tree G.tree h,step_wts G.wts hm h,step_ring G.ring (fun a => (G.tree.self a).1) h,step_few G.few h⟩
end Qh
set_option Elab.async false
set_option linter.all false
namespace Qh
theorem few {n : Nat} : ∀ {l : List Nat},l.Nodup → (∀ x ∈ l,x < n) → l.length ≤ n:=by
  induction n with
  | zero =>
    intro l _ h
    cases l with
    | nil => exact Nat.le_refl _
    | cons x r => exact absurd (h x List.mem_cons_self) (Nat.not_lt_zero _)
  | succ n ih =>
    intro l hn h
    have e : l.length = l.countP (fun x => decide (x = n)) + l.countP (fun x => ! decide (x = n)):=by
      have:=List.length_eq_countP_add_countP (fun x => decide (x = n)) (l:=l)
      simpa using this
    have c1 : l.countP (fun x => decide (x = n)) ≤ 1:=by
      have:=List.nodup_iff_count.mp hn n
      have e2 : l.count n = l.countP (fun x => decide (x = n)):=by
        unfold List.count
        congr 1
      omega
    have c2 : l.countP (fun x => ! decide (x = n)) = (l.filter fun x => ! decide (x = n)).length:=List.countP_eq_length_filter
    have c3:=ih (l:=l.filter fun x => ! decide (x = n)) (hn.sublist List.filter_sublist) fun x hx => by
      obtain ⟨h1,h2⟩:=List.mem_filter.mp hx
      have:=h x h1
      have : x ≠ n:=by simpa using h2
      omega
    omega
theorem pass_busy (n : Nat) (s : S) : (step n s .pass).busy = s.busy ∧ (step n s .pass).rows = s.rows ∧ (step n s .pass).cnt = s.cnt ∧ (step n s .pass).due = s.due ∧ (step n s .pass).over = s.over ∧ (step n s .pass).slips = s.slips ∧ (step n s .pass).held = s.held ∧ (step n s .pass).hw = s.hw:=by
  show (if s.place = 0 then _ else _ : S).busy = _ ∧ (if s.place = 0 then _ else _ : S).rows = _ ∧ (if s.place = 0 then _ else _ : S).cnt = _ ∧ (if s.place = 0 then _ else _ : S).due = _ ∧ (if s.place = 0 then _ else _ : S).over = _ ∧ (if s.place = 0 then _ else _ : S).slips = _ ∧ (if s.place = 0 then _ else _ : S).held = _ ∧ (if s.place = 0 then _ else _ : S).hw = _
  split <;> exact ⟨rfl,rfl,rfl,rfl,rfl,rfl,rfl,rfl⟩
end Qh
set_option Elab.async false
set_option linter.all false
namespace Qh
theorem land_two (a b : Nat) : a &&& b = 2 * ((a / 2) &&& (b / 2)) + (a % 2) * (b % 2):=by
  have h1 : (a &&& b) / 2 = (a / 2) &&& (b / 2):=Nat.and_div_two
  have h2 : (a &&& b) % 2 = (a % 2) * (b % 2):=by
    have:=Nat.and_mod_two_pow (a:=a) (b:=b) (n:=1)
    rw [Nat.pow_one] at this
    rw [this]
    rcases Nat.mod_two_eq_zero_or_one a with h | h <;> rcases Nat.mod_two_eq_zero_or_one b with g | g <;> rw [h,g] <;> rfl
  have:=Nat.div_add_mod (a &&& b) 2
  omega
theorem lowbit (u : Nat) (hu : u % 2 = 1) : ∀ t,2 ^ t * u - (2 ^ t * u &&& (2 ^ t * u - 1)) = 2 ^ t
  | 0 => by
    rw [Nat.pow_zero,Nat.one_mul,land_two]
    have e1 : (u - 1) / 2 = u / 2:=by omega
    have e2 : (u - 1) % 2 = 0:=by omega
    rw [e1,e2,Nat.and_self]
    omega
  | t + 1 => by
    have ih:=lowbit u hu t
    have hp : 0 < 2 ^ t * u:=Nat.mul_pos (Nat.two_pow_pos t) (by omega)
    have e : 2 ^ (t + 1) * u = 2 * (2 ^ t * u):=by rw [Nat.pow_succ,Nat.mul_comm (2 ^ t) 2,Nat.mul_assoc]
    rw [e,Nat.pow_succ]
    generalize 2 ^ t * u = x at ih hp ⊢
    rw [land_two]
    have e1 : 2 * x / 2 = x:=by omega
    have e2 : (2 * x - 1) / 2 = x - 1:=by omega
    have e3 : 2 * x % 2 = 0:=by omega
    rw [e1,e2,e3]
    omega
structure WR (x u p : Nat) : Prop where
  is : (x = 0 ∧ u = 0 ∧ p = 0) ∨ (u % 2 = 1 ∧ p ≤ 90 ∧ x = 2 ^ (90 - p) * u)
theorem odd_part_unique {u v : Nat} (hu : u % 2 = 1) (hv : v % 2 = 1) : ∀ {s t : Nat},2 ^ s * u = 2 ^ t * v → s = t ∧ u = v
  | 0,0,h => ⟨rfl,by simpa using h⟩
  | 0,t + 1,h => by
    exfalso
    rw [Nat.pow_zero,Nat.one_mul,Nat.pow_succ,Nat.mul_comm (2 ^ t) 2,Nat.mul_assoc] at h
    omega
  | s + 1,0,h => by
    exfalso
    rw [Nat.pow_zero,Nat.one_mul,Nat.pow_succ,Nat.mul_comm (2 ^ s) 2,Nat.mul_assoc] at h
    omega
  | s + 1,t + 1,h => by
    rw [Nat.pow_succ,Nat.pow_succ,Nat.mul_comm (2 ^ s) 2,Nat.mul_comm (2 ^ t) 2,Nat.mul_assoc,Nat.mul_assoc] at h
    have:=odd_part_unique hu hv (s:=s) (t:=t) (by omega)
    exact ⟨by omega,this.2⟩
theorem pow_pos_mul {t u : Nat} (hu : u % 2 = 1) : 2 ^ t * u ≠ 0:=Nat.ne_of_gt (Nat.mul_pos (Nat.two_pow_pos t) (by omega))
theorem WR.unique {x u p v q : Nat} (a : WR x u p) (b : WR x v q) : u = v ∧ p = q:=by
  rcases a.is with ⟨a1,a2,a3⟩ | ⟨a1,a2,a3⟩ <;> rcases b.is with ⟨b1,b2,b3⟩ | ⟨b1,b2,b3⟩
  · exact ⟨by omega,by omega⟩
  · rw [a1] at b3; exact absurd b3.symm (pow_pos_mul b1)
  · rw [b1] at a3; exact absurd a3.symm (pow_pos_mul a1)
  · rw [a3] at b3
    obtain ⟨e1,e2⟩:=odd_part_unique a1 b1 b3
    exact ⟨e2,by omega⟩
theorem odd_part (x : Nat) (hx : x ≠ 0) : ∃ t u,u % 2 = 1 ∧ x = 2 ^ t * u:=by
  induction x using Nat.strongRecOn with
  | ind x ih =>
    by_cases h : x % 2 = 1
    · exact ⟨0,x,h,by simp⟩
    · obtain ⟨t,u,hu,e⟩:=ih (x / 2) (by omega) (by omega)
      refine ⟨t + 1,u,hu,?_⟩
      rw [Nat.pow_succ,Nat.mul_comm (2 ^ t) 2,Nat.mul_assoc,← e]; omega
theorem WR.half {x u p : Nat} (a : WR x u p) (h : x ≠ 0) (hp : p < 90) : WR (x / 2) u (p + 1):=by
  rcases a.is with ⟨a1,_,_⟩ | ⟨a1,a2,a3⟩
  · exact absurd a1 h
  · refine ⟨.inr ⟨a1,hp,?_⟩⟩
    have e : 90 - p = (90 - (p + 1)) + 1:=by omega
    rw [a3,e,Nat.pow_succ,Nat.mul_right_comm,Nat.mul_div_cancel _ (by decide)]
theorem WR.small {x u p m : Nat} (a : WR x u p) (hx : x ≤ 2 ^ 90) (hm : m ≤ 90) (hd : 2 ^ (90 - m) ∣ x) : p ≤ m ∧ u ≤ 2 ^ m:=by
  rcases a.is with ⟨a1,a2,a3⟩ | ⟨a1,a2,a3⟩
  · subst a2 a3; exact ⟨Nat.zero_le _,Nat.zero_le _⟩
  · have hpm : p ≤ m:=by
      obtain ⟨q,e⟩:=hd
      apply Classical.byContradiction
      intro z
      have e2 : 90 - m = (90 - p) + (p - m):=by omega
      rw [a3,e2,Nat.pow_add,Nat.mul_assoc] at e
      have e3:=Nat.eq_of_mul_eq_mul_left (Nat.two_pow_pos (90 - p)) e
      have e4 : p - m = (p - m - 1) + 1:=by omega
      rw [e4,Nat.pow_succ,Nat.mul_comm (2 ^ (p - m - 1)) 2,Nat.mul_assoc] at e3
      omega
    refine ⟨hpm,?_⟩
    have h1 : 2 ^ (90 - p) * u ≤ 2 ^ (90 - p) * 2 ^ p:=by rw [← a3,← Nat.pow_add,show 90 - p + p = 90 by omega]; exact hx
    have h2:=Nat.le_of_mul_le_mul_left h1 (Nat.two_pow_pos _)
    exact Nat.le_trans h2 (Nat.pow_le_pow_right (by decide) hpm)
theorem WR.at_ {x u p P : Nat} (a : WR x u p) (h : p ≤ P) (hP : P ≤ 90) : 2 ^ (90 - P) * (u * 2 ^ (P - p)) = x:=by
  rcases a.is with ⟨a1,a2,a3⟩ | ⟨a1,a2,a3⟩
  · subst a2; rw [a1,Nat.zero_mul,Nat.mul_zero]
  · have e : 2 ^ (90 - P) * 2 ^ (P - p) = 2 ^ (90 - p):=by rw [← Nat.pow_add,show 90 - P + (P - p) = 90 - p by omega]
    rw [a3,← e,Nat.mul_comm u,Nat.mul_assoc]
theorem WR.sum {x y z u v p q t o : Nat} (a : WR x u p) (b : WR y v q) (hz : x + y = z) (hz90 : z ≤ 2 ^ 90) (hp : p ≤ 90) (hq : q ≤ 90) (ho : o % 2 = 1) (e : u * 2 ^ (max p q - p) + v * 2 ^ (max p q - q) = 2 ^ t * o) : t ≤ max p q ∧ WR z o (max p q - t):=by
  have hP : max p q ≤ 90:=Nat.max_le.mpr ⟨hp,hq⟩
  have e1:=a.at_ (Nat.le_max_left p q) hP
  have e2:=b.at_ (Nat.le_max_right p q) hP
  have ez : 2 ^ (90 - max p q) * (2 ^ t * o) = z:=by rw [← e,Nat.mul_add,e1,e2,hz]
  generalize max p q = P at *
  have ht : t ≤ P:=by
    apply Classical.byContradiction
    intro y
    have h1 : 2 ^ (90 - P) * 2 ^ t * 1 ≤ 2 ^ (90 - P) * 2 ^ t * o:=Nat.mul_le_mul_left _ (by omega)
    rw [← Nat.pow_add,Nat.mul_one] at h1
    have h2 : 2 ^ 91 ≤ 2 ^ (90 - P + t):=Nat.pow_le_pow_right (by decide) (by omega)
    have h3 : 2 ^ (90 - P + t) * o = z:=by rw [Nat.pow_add,Nat.mul_assoc]; exact ez
    have : (2 : Nat) ^ 90 < 2 ^ 91:=by decide
    omega
  refine ⟨ht,⟨.inr ⟨ho,by omega,?_⟩⟩⟩
  rw [← ez,← Nat.mul_assoc,← Nat.pow_add,show 90 - P + t = 90 - (P - t) by omega]
end Qh
set_option Elab.async false
set_option linter.all false
set_option maxRecDepth 100000
namespace Qh
open PySem L2
def TupK (K : PySem.W.Frag) (a : Addr) (xs : List V) : Prop:=∃ (o : Obj) (its : Array Value) (n : Nat),K.lookup a = some o ∧ o.cls = .type "tuple" ∧ o.data = .seq its n ∧ its.size ≤ sizeLine ∧ Vals xs its.toList
def TupS (K : PySem.W.Frag) (H : Hp) (a : Addr) (xs : List V) : Prop:=H a = some (.tup xs) ∨ TupK K a xs
theorem TupS.sq {K : PySem.W.Frag} {H : Hp} {a : Addr} {xs : List V} (h : TupS K H a xs) : SqT K H a xs:=h.elim SqT.of .inr
theorem TupS.keep {K : PySem.W.Frag} {H H' : Hp} {a : Addr} {xs : List V} (h : TupS K H a xs) (k : ∀ b ys,H b = some (.tup ys) → H' b = some (.tup ys)) : TupS K H' a xs:=h.elim (fun h => .inl (k _ _ h)) .inr
def WV (K : PySem.W.Frag) (H : Hp) (v : V) (x : Nat) : Prop:=∃ (a : Addr) (u p : Nat),v = .ref a ∧ TupS K H a [.int u,.int p] ∧ WR x u p
abbrev WL (K : PySem.W.Frag) (H : Hp) : List V → List Nat → Prop:=Paired fun v x => WV K H v x
theorem Same.tup {K : PySem.W.Frag} {H H' : Hp} {a : Addr} {xs : List V} (e : Same H H') (h : SqT K H a xs) : SqT K H' a xs:=by
  rcases h with (h | ⟨o,h⟩) | h
  · exact .inl (.inl (e _ _ h))
  · exact .inl (.inr ⟨o,e _ _ h⟩)
  · exact .inr h
theorem WV.keep {K : PySem.W.Frag} {H H' : Hp} {v : V} {x : Nat} (h : WV K H v x) (k : ∀ b ys,H b = some (.tup ys) → H' b = some (.tup ys)) : WV K H' v x:=let ⟨a,u,p,q,t,r⟩:=h; ⟨a,u,p,q,t.keep k,r⟩
theorem WL.keep {K : PySem.W.Frag} {H H' : Hp} {vs : List V} {xs : List Nat} (h : WL K H vs xs) (k : ∀ b ys,H b = some (.tup ys) → H' b = some (.tup ys)) : WL K H' vs xs:=Paired.mapP h fun _ _ z => z.keep k
theorem WV.same {K : PySem.W.Frag} {H H' : Hp} {v : V} {x : Nat} (e : Same H H') (h : WV K H v x) : WV K H' v x:=h.keep fun b _ z => e b _ z
theorem WL.same {K : PySem.W.Frag} {H H' : Hp} {vs : List V} {xs : List Nat} (e : Same H H') (h : WL K H vs xs) : WL K H' vs xs:=h.keep fun b _ z => e b _ z
def workers (n : Nat) (s : S) : List Nat:=(List.range n).filter s.busy
def colour (b : Bool) : Str:=if b then "black" else "white"
def optV : Option Nat → V
  | none => .non
  | some p => .int p
def meths : List Str:=["send","take","rest","back","home","pass_on","working","works","is_quiet","open_of","above","receipts","weight_of","weights_on","weights_home","token","count_of","colour_of","told"]
structure HallI (K : PySem.W.Frag) (C : Addr) where
  At : Nat → Hp → Addr → S → (Addr → Prop) → Prop
  ins : ∀ {n H p s F},At n H p s F → ∃ dx fs,H p = some (.ins C dx fs) ∧ ∀ m ∈ meths,fs.lookup m = none
  foot : ∀ {n H p s F},At n H p s F → ∀ b,F b → H b ≠ none ∧ ∀ xs,H b ≠ some (.tup xs)
  keep : ∀ {n H H' p s F},At n H p s F → (∀ b o,H b = some o → (F b ∨ ∃ xs,o = .tup xs) → H' b = some o) → At n H' p s F
section
variable {K : PySem.W.Frag} {C : Addr} (I : HallI K C)
theorem HallI.same {n : Nat} {H H' : Hp} {p : Addr} {s : S} {F : Addr → Prop} (h : I.At n H p s F) (e : Same H H') : I.At n H' p s F:=I.keep h fun b o z _ => e b o z
structure Kept (H H' : Hp) (F F' : Addr → Prop) : Prop where
  keep : ∀ b o,H b = some o → ¬ F b → H' b = some o
  new : ∀ b,F' b → F b ∨ H b = none
def spQ0 (A : Nat → S → Hp → V → Prop) : Sp:=fun vs H Q _ => ∃ n p s F,vs = [.ref p] ∧ I.At n H p s F ∧ ∀ v H',Same H H' → A n s H' v → Q v H'
def spQ1 (A : Nat → S → Nat → Hp → V → Prop) : Sp:=fun vs H Q _ => ∃ n p s F a,vs = [.ref p,.int (a : Nat)] ∧ I.At n H p s F ∧ a < n ∧ ∀ v H',Same H H' → A n s a H' v → Q v H'
def spQ2 (A : Nat → S → Nat → Nat → Hp → V → Prop) : Sp:=fun vs H Q _ => ∃ n p s F a b,vs = [.ref p,.int (a : Nat),.int (b : Nat)] ∧ I.At n H p s F ∧ a < n ∧ b < n ∧ a ≠ b ∧ ∀ v H',Same H H' → A n s a b H' v → Q v H'
def spAct (args : Act → Option (List V)) : Sp:=fun vs H Q _ => ∃ n p s F c m,some vs = (args c).map (V.ref p :: ·) ∧ I.At n H p s F ∧ Can n s c ∧ Good n s m ∧ bump m c ≤ 60 ∧
  ∀ H' F',I.At n H' p (step n s c) F' → Kept H H' F F' → Q .non H'
def aSend : Act → Option (List V) | .send a b => some [.int a,.int b] | _ => none
def aTake : Act → Option (List V) | .take a b => some [.int a,.int b] | _ => none
def aRest : Act → Option (List V) | .rest a => some [.int a] | _ => none
def aBack : Act → Option (List V) | .back a b => some [.int a,.int b] | _ => none
def aHome : Act → Option (List V) | .home a => some [.int a] | _ => none
def aPass : Act → Option (List V) | .pass => some [] | _ => none
def spInit : Sp:=fun vs H Q _ => ∃ (n : Nat) (p dx : Addr),vs = [.ref p,.int n] ∧ 2 ≤ n ∧ n ≤ 6 ∧ H p = some (.ins C dx []) ∧ H dx = some (.own p) ∧ dx ≠ p ∧
  ∀ H' F,I.At n H' p new F → (∀ b o,H b = some o → b ≠ p → b ≠ dx → H' b = some o) → (∀ b,F b → b = p ∨ b = dx ∨ H b = none) → Q .non H'
def qWorking : Nat → S → Hp → V → Prop:=fun n s H v => ∃ t,v = .ref t ∧ SqT K H t ((workers n s).map fun k => V.int (k : Nat))
def qWorks : Nat → S → Nat → Nat → Hp → V → Prop:=fun _ s a b _ v => v = .int ((s.rows a b).length : Nat)
def qReceipts : Nat → S → Nat → Nat → Hp → V → Prop:=fun _ s a b _ v => v = .int (s.slips a b : Nat)
def qHome : Nat → S → Nat → Hp → V → Prop:=fun _ s a H v => ∃ t xs,v = .ref t ∧ SqT K H t xs ∧ WL K H xs (s.hw a)
def qToken : Nat → S → Hp → V → Prop:=fun _ s H v => ∃ t,v = .ref t ∧ SqT K H t [.int (s.place : Nat),.int s.tcnt,.str (colour s.tblack)]
def qTold : Nat → S → Hp → V → Prop:=fun _ s H v => ∃ t,v = .ref t ∧ SqT K H t [.bl (treeTells s),.bl (weightsTell s),.bl s.found]
def qQuiet : Nat → S → Hp → V → Prop:=fun n s _ v => ∃ b,v = .bl b ∧ (b = true ↔ Quiet n s)
def qOpen : Nat → S → Nat → Hp → V → Prop:=fun _ s a _ v => v = .int (s.due a : Nat)
def qAbove : Nat → S → Nat → Hp → V → Prop:=fun _ s a _ v => v = optV (s.over a)
def qWeight : Nat → S → Nat → Hp → V → Prop:=fun _ s a H v => WV K H v (s.held a)
def qOn : Nat → S → Nat → Nat → Hp → V → Prop:=fun _ s a b H v => ∃ t xs,v = .ref t ∧ SqT K H t xs ∧ WL K H xs (s.rows a b)
def qCount : Nat → S → Nat → Hp → V → Prop:=fun _ s a _ v => v = .int (s.cnt a)
def qColour : Nat → S → Nat → Hp → V → Prop:=fun _ s a _ v => v = .str (colour (s.black a))
end
end Qh
set_option Elab.async false
set_option linter.all false
set_option maxRecDepth 100000
namespace Qh
open PySem L2
def kI (k : Nat) : Key:=.inl (k : Int)
def kII (a b : Nat) : List Key:=[.inl (a : Int),.inl (b : Int)]
theorem kI_inj {a b : Nat} (h : kI a = kI b) : a = b:=by
  have : ((a : Nat) : Int) = ((b : Nat) : Int):=Sum.inl.inj h
  omega
theorem kII_inj {a b c d : Nat} (h : kII a b = kII c d) : a = c ∧ b = d:=by
  have h : [kI a,kI b] = [kI c,kI d]:=h
  injection h with h1 h2
  injection h2 with h2 _
  exact ⟨kI_inj h1,kI_inj h2⟩
section
variable {κ : Type} [DecidableEq κ]
theorem keys_put (kvs : List (κ × V)) (k : κ) (v : V) : (putK kvs k v).map (·.1) = if (valV kvs k).isSome = true then kvs.map (·.1) else kvs.map (·.1) ++ [k]:=by
  unfold putK
  rw [valV_any]
  split
  · rw [List.map_map]
    apply List.map_congr_left
    intro x _
    show (if x.1 = k then (x.1,v) else x).1 = x.1
    split <;> rfl
  · rw [List.map_append]; rfl
theorem nd_put {kvs : List (κ × V)} {k : κ} (v : V) (h : (kvs.map (·.1)).Nodup) : ((putK kvs k v).map (·.1)).Nodup:=by
  cases e : valV kvs k with
  | none => exact nd_putK v h e
  | some x => rw [keys_put,e]; exact h
theorem mem_put {kvs : List (κ × V)} {k x : κ} {v : V} (h : x ∈ (putK kvs k v).map (·.1)) : x ∈ kvs.map (·.1) ∨ x = k:=by
  rw [keys_put] at h
  split at h
  · exact .inl h
  · rcases List.mem_append.mp h with h | h
    · exact .inl h
    · exact .inr (List.mem_singleton.mp h)
theorem valV_drop (k j : κ) : ∀ kvs : List (κ × V),valV (dropK kvs k) j = if j = k then none else valV kvs j
  | [] => by simp [dropK,valV]
  | p :: r => by
    have ih:=valV_drop k j r
    by_cases e : p.1 = k
    · rw [dropK_pos e,ih]
      by_cases z : j = k
      · rw [if_pos z,if_pos z]
      · rw [if_neg z,if_neg z,valV_neg (fun q => z (q.symm.trans e))]
    · rw [dropK_neg e]
      by_cases z : p.1 = j
      · rw [valV_pos z,valV_pos z,if_neg (fun q => e (z.trans q))]
      · rw [valV_neg z,valV_neg z,ih]
end
structure DK (n : Nat) (kvs : List (Key × V)) (f : Nat → Option V) : Prop where
  nd : (kvs.map (·.1)).Nodup
  rng : ∀ x ∈ kvs.map (·.1),∃ k,k < n ∧ x = kI k
  val : ∀ k,valV kvs (kI k) = f k
theorem DK.nil (n : Nat) : DK n [] (fun _ => none):=⟨List.nodup_nil,fun x hx => by simp at hx,fun _ => rfl⟩
theorem DK.keys {n : Nat} {kvs : List (Key × V)} {f : Nat → Option V} (h : DK n kvs f) : ∃ ks : List Nat,kvs.map (·.1) = ks.map kI ∧ ks.Nodup ∧ (∀ k ∈ ks,k < n) ∧ ∀ k,k ∈ ks ↔ f k ≠ none:=by
  have key : ∀ l : List Key,l.Nodup → (∀ x ∈ l,∃ k,k < n ∧ x = kI k) → ∃ ks : List Nat,l = ks.map kI ∧ ks.Nodup ∧ ∀ k ∈ ks,k < n:=by
    intro l
    induction l with
    | nil => exact fun _ _ => ⟨[],rfl,List.nodup_nil,fun k hk => by simp at hk⟩
    | cons x r ih =>
      intro nd rg
      obtain ⟨h1,h2⟩:=List.nodup_cons.mp nd
      obtain ⟨ks,e,n1,n2⟩:=ih h2 fun y hy => rg y (List.mem_cons_of_mem _ hy)
      obtain ⟨k,hk,ek⟩:=rg x List.mem_cons_self
      refine ⟨k :: ks,by rw [List.map_cons,← e,ek],List.nodup_cons.mpr ⟨fun z => h1 ?_,n1⟩,fun j hj => ?_⟩
      · rw [e,ek]; exact List.mem_map.mpr ⟨k,z,rfl⟩
      · rcases List.mem_cons.mp hj with z | z
        · rw [z]; exact hk
        · exact n2 j z
  obtain ⟨ks,e,n1,n2⟩:=key _ h.nd h.rng
  refine ⟨ks,e,n1,n2,fun k => ⟨fun hk z => ?_,fun hk => ?_⟩⟩
  · rw [← h.val k] at z
    exact valV_not z (by rw [e]; exact List.mem_map.mpr ⟨k,hk,rfl⟩)
  · rw [← h.val k] at hk
    obtain ⟨v,hv⟩:=Option.ne_none_iff_exists'.mp hk
    have:=valV_in hv
    rw [e] at this
    obtain ⟨j,hj,ej⟩:=List.mem_map.mp this
    rw [← kI_inj ej]; exact hj
theorem DK.len {n : Nat} {kvs : List (Key × V)} {f : Nat → Option V} (h : DK n kvs f) : kvs.length ≤ n:=by
  obtain ⟨ks,e,n1,n2,_⟩:=h.keys
  have:=congrArg List.length e
  rw [List.length_map,List.length_map] at this
  rw [this]
  exact few n1 n2
theorem DK.small {n : Nat} {kvs : List (Key × V)} {f : Nat → Option V} (h : DK n kvs f) (hn : n ≤ 6) : kvs.length < sizeLine:=by
  have:=h.len
  exact small1000 (by omega)
theorem DK.put {n : Nat} {kvs : List (Key × V)} {f g : Nat → Option V} (h : DK n kvs f) {k : Nat} (hk : k < n) (v : V) (e : ∀ j,g j = if j = k then some v else f j) : DK n (putK kvs (kI k) v) g:=by
  refine ⟨nd_put v h.nd,fun x hx => ?_,fun j => ?_⟩
  · rcases mem_put hx with z | z
    · exact h.rng x z
    · exact ⟨k,hk,z⟩
  · rw [valV_put,e,h.val]
    by_cases z : j = k
    · rw [if_pos z,if_pos (by rw [z])]
    · rw [if_neg z,if_neg fun q => z (kI_inj q)]
theorem DK.drop {n : Nat} {kvs : List (Key × V)} {f g : Nat → Option V} (h : DK n kvs f) (k : Nat) (e : ∀ j,g j = if j = k then none else f j) : DK n (dropK kvs (kI k)) g:=by
  refine ⟨nd_dropK h.nd,fun x hx => ?_,fun j => ?_⟩
  · obtain ⟨p,hp,ep⟩:=List.mem_map.mp hx
    exact h.rng x (List.mem_map.mpr ⟨p,dropK_mem hp,ep⟩)
  · rw [valV_drop,e,h.val]
    by_cases z : j = k
    · rw [if_pos z,if_pos (by rw [z])]
    · rw [if_neg z,if_neg fun q => z (kI_inj q)]
structure DT (n : Nat) (kvs : List (List Key × V)) (f : Nat → Nat → Option V) : Prop where
  nd : (kvs.map (·.1)).Nodup
  rng : ∀ x ∈ kvs.map (·.1),∃ a b,a < n ∧ b < n ∧ x = kII a b
  val : ∀ a b,valV kvs (kII a b) = f a b
theorem DT.nil (n : Nat) : DT n [] (fun _ _ => none):=⟨List.nodup_nil,fun x hx => by simp at hx,fun _ _ => rfl⟩
theorem DT.len {n : Nat} {kvs : List (List Key × V)} {f : Nat → Nat → Option V} (h : DT n kvs f) : kvs.length ≤ n * n:=by
  have key : ∀ l : List (List Key),l.Nodup → (∀ x ∈ l,∃ a b,a < n ∧ b < n ∧ x = kII a b) → ∃ ks : List Nat,l.length = ks.length ∧ ks.Nodup ∧ (∀ k ∈ ks,k < n * n) ∧ ∀ k ∈ ks,∃ a b,a < n ∧ b < n ∧ k = n * a + b ∧ kII a b ∈ l:=by
    intro l
    induction l with
    | nil => exact fun _ _ => ⟨[],rfl,List.nodup_nil,fun k hk => by simp at hk,fun k hk => by simp at hk⟩
    | cons x r ih =>
      intro nd rg
      obtain ⟨h1,h2⟩:=List.nodup_cons.mp nd
      obtain ⟨ks,e,n1,n2,n3⟩:=ih h2 fun y hy => rg y (List.mem_cons_of_mem _ hy)
      obtain ⟨a,b,ha,hb,ek⟩:=rg x List.mem_cons_self
      have lt : n * a + b < n * n:=by
        have : n * (a + 1) ≤ n * n:=Nat.mul_le_mul_left _ (by omega)
        rw [Nat.mul_add] at this; omega
      refine ⟨(n * a + b) :: ks,by rw [List.length_cons,List.length_cons,e],List.nodup_cons.mpr ⟨fun z => h1 ?_,n1⟩,fun j hj => ?_,fun j hj => ?_⟩
      · obtain ⟨c,d,hc,hd,e1,e2⟩:=n3 _ z
        have ea : a = c:=by
          have x1 : (n * a + b) / n = a:=by rw [Nat.mul_add_div (by omega),Nat.div_eq_of_lt hb]; omega
          have x2 : (n * c + d) / n = c:=by rw [Nat.mul_add_div (by omega),Nat.div_eq_of_lt hd]; omega
          rw [← x1,← x2,e1]
        subst ea
        have eb : b = d:=by omega
        subst eb
        rw [ek]; exact e2
      · rcases List.mem_cons.mp hj with z | z
        · rw [z]; exact lt
        · exact n2 j z
      · rcases List.mem_cons.mp hj with z | z
        · exact ⟨a,b,ha,hb,z,by rw [ek]; exact List.mem_cons_self⟩
        · obtain ⟨c,d,hc,hd,e1,e2⟩:=n3 j z
          exact ⟨c,d,hc,hd,e1,List.mem_cons_of_mem _ e2⟩
  obtain ⟨ks,e,n1,n2,_⟩:=key _ h.nd h.rng
  rw [List.length_map] at e
  rw [e]
  exact few n1 n2
theorem DT.small {n : Nat} {kvs : List (List Key × V)} {f : Nat → Nat → Option V} (h : DT n kvs f) (hn : n ≤ 6) : kvs.length < sizeLine:=by
  have:=h.len
  have : n * n ≤ 6 * 6:=Nat.mul_le_mul hn hn
  exact small1000 (by omega)
theorem DT.put {n : Nat} {kvs : List (List Key × V)} {f g : Nat → Nat → Option V} (h : DT n kvs f) {a b : Nat} (ha : a < n) (hb : b < n) (v : V) (e : ∀ i j,g i j = if i = a ∧ j = b then some v else f i j) : DT n (putK kvs (kII a b) v) g:=by
  refine ⟨nd_put v h.nd,fun x hx => ?_,fun i j => ?_⟩
  · rcases mem_put hx with z | z
    · exact h.rng x z
    · exact ⟨a,b,ha,hb,z⟩
  · rw [valV_put,e,h.val]
    by_cases z : i = a ∧ j = b
    · rw [if_pos z,if_pos (by rw [z.1,z.2])]
    · rw [if_neg z,if_neg fun q => z (kII_inj q)]
def Num (n : Nat) (kvs : List (Key × V)) (g : Nat → Int) : Prop:=∃ f,DK n kvs f ∧ ∀ k,(f k).getD (.int 0) = .int (g k)
theorem Num.nil (n : Nat) : Num n [] (fun _ => 0):=⟨_,DK.nil n,fun _ => rfl⟩
theorem Num.get {n : Nat} {kvs : List (Key × V)} {g : Nat → Int} (h : Num n kvs g) (k : Nat) : (valV kvs (kI k)).getD (.int 0) = .int (g k):=let ⟨_,d,e⟩:=h; by rw [d.val]; exact e k
theorem Num.small {n : Nat} {kvs : List (Key × V)} {g : Nat → Int} (h : Num n kvs g) (hn : n ≤ 6) : kvs.length < sizeLine:=let ⟨_,d,_⟩:=h; d.small hn
theorem Num.put {n : Nat} {kvs : List (Key × V)} {g g' : Nat → Int} (h : Num n kvs g) {k : Nat} (hk : k < n) (v : Int) (e : ∀ j,g' j = if j = k then v else g j) : Num n (putK kvs (kI k) (.int v)) g':=by
  obtain ⟨f,d,q⟩:=h
  refine ⟨_,d.put hk (.int v) (fun _ => rfl),fun j => ?_⟩
  rw [e]
  by_cases z : j = k
  · simp only [z,if_true]; rfl
  · simp only [if_neg z]; exact q j
def Num2 (n : Nat) (kvs : List (List Key × V)) (g : Nat → Nat → Nat) : Prop:=∃ f,DT n kvs f ∧ ∀ a b,(f a b).getD (.int 0) = .int (g a b : Nat)
theorem Num2.nil (n : Nat) : Num2 n [] (fun _ _ => 0):=⟨_,DT.nil n,fun _ _ => rfl⟩
theorem Num2.get {n : Nat} {kvs : List (List Key × V)} {g : Nat → Nat → Nat} (h : Num2 n kvs g) (a b : Nat) : (valV kvs (kII a b)).getD (.int 0) = .int (g a b : Nat):=let ⟨_,d,e⟩:=h; by rw [d.val]; exact e a b
theorem Num2.small {n : Nat} {kvs : List (List Key × V)} {g : Nat → Nat → Nat} (h : Num2 n kvs g) (hn : n ≤ 6) : kvs.length < sizeLine:=let ⟨_,d,_⟩:=h; d.small hn
theorem Num2.put {n : Nat} {kvs : List (List Key × V)} {g g' : Nat → Nat → Nat} (h : Num2 n kvs g) {a b : Nat} (ha : a < n) (hb : b < n) (v : Nat) (e : ∀ i j,g' i j = if i = a ∧ j = b then v else g i j) : Num2 n (putK kvs (kII a b) (.int (v : Nat))) g':=by
  obtain ⟨f,d,q⟩:=h
  refine ⟨_,d.put ha hb (.int (v : Nat)) (fun _ _ => rfl),fun i j => ?_⟩
  rw [e]
  by_cases z : i = a ∧ j = b
  · simp only [if_pos z]; rfl
  · simp only [if_neg z]; exact q i j
theorem Kept.refl (H : Hp) (F : Addr → Prop) : Kept H H F F:=⟨fun _ _ h _ => h,fun _ h => .inl h⟩
theorem Kept.same {H H' : Hp} (e : Same H H') (F : Addr → Prop) : Kept H H' F F:=⟨fun _ _ h _ => e _ _ h,fun _ h => .inl h⟩
theorem Kept.upd {H : Hp} {F : Addr → Prop} {a : Addr} (x : HO) (h : F a) : Kept H (L2.upd H a x) F F:=⟨fun b o z n => by rw [upd_ne (fun e : b = a => n (by rw [e]; exact h))]; exact z,fun _ h => .inl h⟩
theorem Kept.trans {H H1 H2 : Hp} {F F1 F2 : Addr → Prop} (a : Kept H H1 F F1) (b : Kept H1 H2 F1 F2) : Kept H H2 F F2:=by
  refine ⟨fun c o h n => b.keep c o (a.keep c o h n) fun z => ?_,fun c h => ?_⟩
  · rcases a.new c z with q | q
    · exact n q
    · rw [h] at q; cases q
  · rcases b.new c h with q | q
    · exact a.new c q
    · by_cases z : F c
      · exact .inl z
      · refine .inr ?_
        cases e : H c with
        | none => rfl
        | some o => rw [a.keep c o e z] at q; cases q
structure Part (At : Hp → Prop) (H : Hp) (F : Addr → Prop) : Prop where
  foot : ∀ b,F b → H b ≠ none ∧ ∀ xs,H b ≠ some (.tup xs)
  keep : ∀ H',(∀ b o,H b = some o → (F b ∨ ∃ xs,o = .tup xs) → H' b = some o) → At H'
theorem Part.carry {At : Hp → Prop} {H H1 : Hp} {F G G' : Addr → Prop} (p : Part At H F) (k : Kept H H1 G G') (dis : ∀ b,F b → ¬ G b) (tup : ∀ b,G b → ∀ xs,H b ≠ some (.tup xs)) : At H1 :=
  p.keep H1 fun b o e h => k.keep b o e fun g => by
    rcases h with z | ⟨xs,rfl⟩
    · exact dis b z g
    · exact tup b g xs e
end Qh
set_option Elab.async false
set_option linter.all false
namespace Tx
open PySem L2
def top (i : Nat) : Stmt:=PySem.Challenge.pw_quiethall_k04_refusals.main.body.getD i (.Pass ⟨0,0,0,0⟩)
abbrev s_Ring___init__ : Stmt:=inClass (top 7) 0
abbrev s_Ring_token : Stmt:=inClass (top 7) 1
abbrev s_Ring_count_of : Stmt:=inClass (top 7) 2
abbrev s_Ring_colour_of : Stmt:=inClass (top 7) 3
abbrev s_Ring_send : Stmt:=inClass (top 7) 4
abbrev s_Ring_take : Stmt:=inClass (top 7) 5
abbrev s_Ring_pass_on : Stmt:=inClass (top 7) 6
abbrev s_Ring_end_round : Stmt:=inClass (top 7) 7
abbrev s_Ring_begin_round : Stmt:=inClass (top 7) 8
abbrev s_Ring_step_down : Stmt:=inClass (top 7) 9
abbrev s_Tree___init__ : Stmt:=inClass (top 9) 0
abbrev s_Tree_open_of : Stmt:=inClass (top 9) 1
abbrev s_Tree_above : Stmt:=inClass (top 9) 2
abbrev s_Tree_receipts : Stmt:=inClass (top 9) 3
abbrev s_Tree_send : Stmt:=inClass (top 9) 4
abbrev s_Tree_take : Stmt:=inClass (top 9) 5
abbrev s_Tree_back : Stmt:=inClass (top 9) 6
abbrev s_Tree_leave_if_done : Stmt:=inClass (top 9) 7
abbrev s_Tree_holds : Stmt:=inClass (top 9) 8
abbrev s_Tree_send_receipt : Stmt:=inClass (top 9) 9
abbrev s_half_of : Stmt:=top 13
abbrev s_sum_of : Stmt:=top 14
abbrev s_upper_at : Stmt:=top 15
abbrev s_in_one_form : Stmt:=top 16
abbrev s_twos_in : Stmt:=top 17
abbrev s_Weights___init__ : Stmt:=inClass (top 18) 0
abbrev s_Weights_weight_of : Stmt:=inClass (top 18) 1
abbrev s_Weights_weights_on : Stmt:=inClass (top 18) 2
abbrev s_Weights_weights_home : Stmt:=inClass (top 18) 3
abbrev s_Weights_send : Stmt:=inClass (top 18) 4
abbrev s_Weights_take : Stmt:=inClass (top 18) 5
abbrev s_Weights_rest : Stmt:=inClass (top 18) 6
abbrev s_Weights_home : Stmt:=inClass (top 18) 7
abbrev s_Weights_add_to : Stmt:=inClass (top 18) 8
abbrev s_Hall___init__ : Stmt:=inClass (top 20) 0
abbrev s_Hall_send : Stmt:=inClass (top 20) 1
abbrev s_Hall_take : Stmt:=inClass (top 20) 2
abbrev s_Hall_rest : Stmt:=inClass (top 20) 3
abbrev s_Hall_back : Stmt:=inClass (top 20) 4
abbrev s_Hall_home : Stmt:=inClass (top 20) 5
abbrev s_Hall_pass_on : Stmt:=inClass (top 20) 6
abbrev s_Hall_working : Stmt:=inClass (top 20) 7
abbrev s_Hall_works : Stmt:=inClass (top 20) 8
abbrev s_Hall_is_quiet : Stmt:=inClass (top 20) 9
abbrev s_Hall_open_of : Stmt:=inClass (top 20) 10
abbrev s_Hall_above : Stmt:=inClass (top 20) 11
abbrev s_Hall_receipts : Stmt:=inClass (top 20) 12
abbrev s_Hall_weight_of : Stmt:=inClass (top 20) 13
abbrev s_Hall_weights_on : Stmt:=inClass (top 20) 14
abbrev s_Hall_weights_home : Stmt:=inClass (top 20) 15
abbrev s_Hall_token : Stmt:=inClass (top 20) 16
abbrev s_Hall_count_of : Stmt:=inClass (top 20) 17
abbrev s_Hall_colour_of : Stmt:=inClass (top 20) 18
abbrev s_Hall_told : Stmt:=inClass (top 20) 19
abbrev s_Hall_need_hand : Stmt:=inClass (top 20) 20
abbrev s_Hall_need_two : Stmt:=inClass (top 20) 21
abbrev s_Hall_need_working : Stmt:=inClass (top 20) 22
abbrev s__law_cell : Stmt:=top 22
abbrev s__law_mix : Stmt:=top 23
abbrev s__law_many : Stmt:=top 24
abbrev s__law_roads : Stmt:=top 25
abbrev s__law_choices : Stmt:=top 26
abbrev s__law_act : Stmt:=top 27
abbrev s__law_do : Stmt:=top 28
abbrev s__law_play : Stmt:=top 29
abbrev s__law_shown : Stmt:=top 30
abbrev s__law_ask : Stmt:=top 31
abbrev s__law_ask_one : Stmt:=top 32
abbrev s__law_said : Stmt:=top 33
abbrev s__law_can : Stmt:=top 34
abbrev s_law : Stmt:=top 35
end Tx
set_option Elab.async false
set_option linter.all false
set_option maxRecDepth 100000
namespace Tx
open PySem L2
structure Txt_Ring (K : PySem.W.Frag) (mg : Str → Option Value) (C : Addr) : Prop where
  cl : Cls K C
  mgC : mg "Ring" = some (.ref C)
  init : ∃ f fd,Mk K C f ∧ Fun K "__init__" "Ring.__init__" s_Ring___init__ f fd
  m_token : ∃ f fd,Meth K C "token" f ∧ Fun K "token" "Ring.token" s_Ring_token f fd
  m_count_of : ∃ f fd,Meth K C "count_of" f ∧ Fun K "count_of" "Ring.count_of" s_Ring_count_of f fd
  m_colour_of : ∃ f fd,Meth K C "colour_of" f ∧ Fun K "colour_of" "Ring.colour_of" s_Ring_colour_of f fd
  m_send : ∃ f fd,Meth K C "send" f ∧ Fun K "send" "Ring.send" s_Ring_send f fd
  m_take : ∃ f fd,Meth K C "take" f ∧ Fun K "take" "Ring.take" s_Ring_take f fd
  m_pass_on : ∃ f fd,Meth K C "pass_on" f ∧ Fun K "pass_on" "Ring.pass_on" s_Ring_pass_on f fd
  m_end_round : ∃ f fd,Meth K C "end_round" f ∧ Fun K "end_round" "Ring.end_round" s_Ring_end_round f fd
  m_begin_round : ∃ f fd,Meth K C "begin_round" f ∧ Fun K "begin_round" "Ring.begin_round" s_Ring_begin_round f fd
  m_step_down : ∃ f fd,Meth K C "step_down" f ∧ Fun K "step_down" "Ring.step_down" s_Ring_step_down f fd
  n_last : NoAttr K C "last"
  n_counts : NoAttr K C "counts"
  n_colours : NoAttr K C "colours"
  n_place : NoAttr K C "place"
  n_gathered : NoAttr K C "gathered"
  n_shade : NoAttr K C "shade"
  n_has_gone : NoAttr K C "has_gone"
  n_telling : NoAttr K C "telling"
theorem mk_Ring {K : PySem.W.Frag} {h : Heap} {mg : Str → Option Value} (X : K.In h) (G : h.Ns mainGlobals mg) {C : Addr} (aC : PySem.W.nsIn K mainGlobals "Ring" = some (some (.ref C))) {oc0 kV0 dc0 pm0 cd0 ct0 : Value} {od0 an0 : Option Addr} {sl0 : Array (Option Value)} {f0 : Addr} (a0 : PySem.W.findIn K (.ref C) "__init__" = some (some (.ref f0))) (i0 : PySem.W.isFn K (.ref f0) = true) (l0 : K.lookup f0 = some ⟨oc0,od0,.func (PySem.W.fnOf "__init__" "Ring.__init__" (defArgs s_Ring___init__) (defBody s_Ring___init__) (defScope s_Ring___init__) .none kV0 dc0 pm0 an0 cd0 ct0),sl0⟩) (c0 : PySem.W.codeIn K cd0 "Ring.__init__" = true) (k0 : PySem.W.keepIn K (.ref f0) = true) {oc1 kV1 dc1 pm1 cd1 ct1 : Value} {od1 an1 : Option Addr} {sl1 : Array (Option Value)} {f1 : Addr} (a1 : PySem.W.findIn K (.ref C) "token" = some (some (.ref f1))) (i1 : PySem.W.isFn K (.ref f1) = true) (l1 : K.lookup f1 = some ⟨oc1,od1,.func (PySem.W.fnOf "token" "Ring.token" (defArgs s_Ring_token) (defBody s_Ring_token) (defScope s_Ring_token) .none kV1 dc1 pm1 an1 cd1 ct1),sl1⟩) (c1 : PySem.W.codeIn K cd1 "Ring.token" = true) (k1 : PySem.W.keepIn K (.ref f1) = true) {oc2 kV2 dc2 pm2 cd2 ct2 : Value} {od2 an2 : Option Addr} {sl2 : Array (Option Value)} {f2 : Addr} (a2 : PySem.W.findIn K (.ref C) "count_of" = some (some (.ref f2))) (i2 : PySem.W.isFn K (.ref f2) = true) (l2 : K.lookup f2 = some ⟨oc2,od2,.func (PySem.W.fnOf "count_of" "Ring.count_of" (defArgs s_Ring_count_of) (defBody s_Ring_count_of) (defScope s_Ring_count_of) .none kV2 dc2 pm2 an2 cd2 ct2),sl2⟩) (c2 : PySem.W.codeIn K cd2 "Ring.count_of" = true) (k2 : PySem.W.keepIn K (.ref f2) = true) {oc3 kV3 dc3 pm3 cd3 ct3 : Value} {od3 an3 : Option Addr} {sl3 : Array (Option Value)} {f3 : Addr} (a3 : PySem.W.findIn K (.ref C) "colour_of" = some (some (.ref f3))) (i3 : PySem.W.isFn K (.ref f3) = true) (l3 : K.lookup f3 = some ⟨oc3,od3,.func (PySem.W.fnOf "colour_of" "Ring.colour_of" (defArgs s_Ring_colour_of) (defBody s_Ring_colour_of) (defScope s_Ring_colour_of) .none kV3 dc3 pm3 an3 cd3 ct3),sl3⟩) (c3 : PySem.W.codeIn K cd3 "Ring.colour_of" = true) (k3 : PySem.W.keepIn K (.ref f3) = true) {oc4 kV4 dc4 pm4 cd4 ct4 : Value} {od4 an4 : Option Addr} {sl4 : Array (Option Value)} {f4 : Addr} (a4 : PySem.W.findIn K (.ref C) "send" = some (some (.ref f4))) (i4 : PySem.W.isFn K (.ref f4) = true) (l4 : K.lookup f4 = some ⟨oc4,od4,.func (PySem.W.fnOf "send" "Ring.send" (defArgs s_Ring_send) (defBody s_Ring_send) (defScope s_Ring_send) .none kV4 dc4 pm4 an4 cd4 ct4),sl4⟩) (c4 : PySem.W.codeIn K cd4 "Ring.send" = true) (k4 : PySem.W.keepIn K (.ref f4) = true) {oc5 kV5 dc5 pm5 cd5 ct5 : Value} {od5 an5 : Option Addr} {sl5 : Array (Option Value)} {f5 : Addr} (a5 : PySem.W.findIn K (.ref C) "take" = some (some (.ref f5))) (i5 : PySem.W.isFn K (.ref f5) = true) (l5 : K.lookup f5 = some ⟨oc5,od5,.func (PySem.W.fnOf "take" "Ring.take" (defArgs s_Ring_take) (defBody s_Ring_take) (defScope s_Ring_take) .none kV5 dc5 pm5 an5 cd5 ct5),sl5⟩) (c5 : PySem.W.codeIn K cd5 "Ring.take" = true) (k5 : PySem.W.keepIn K (.ref f5) = true) {oc6 kV6 dc6 pm6 cd6 ct6 : Value} {od6 an6 : Option Addr} {sl6 : Array (Option Value)} {f6 : Addr} (a6 : PySem.W.findIn K (.ref C) "pass_on" = some (some (.ref f6))) (i6 : PySem.W.isFn K (.ref f6) = true) (l6 : K.lookup f6 = some ⟨oc6,od6,.func (PySem.W.fnOf "pass_on" "Ring.pass_on" (defArgs s_Ring_pass_on) (defBody s_Ring_pass_on) (defScope s_Ring_pass_on) .none kV6 dc6 pm6 an6 cd6 ct6),sl6⟩) (c6 : PySem.W.codeIn K cd6 "Ring.pass_on" = true) (k6 : PySem.W.keepIn K (.ref f6) = true) {oc7 kV7 dc7 pm7 cd7 ct7 : Value} {od7 an7 : Option Addr} {sl7 : Array (Option Value)} {f7 : Addr} (a7 : PySem.W.findIn K (.ref C) "end_round" = some (some (.ref f7))) (i7 : PySem.W.isFn K (.ref f7) = true) (l7 : K.lookup f7 = some ⟨oc7,od7,.func (PySem.W.fnOf "end_round" "Ring.end_round" (defArgs s_Ring_end_round) (defBody s_Ring_end_round) (defScope s_Ring_end_round) .none kV7 dc7 pm7 an7 cd7 ct7),sl7⟩) (c7 : PySem.W.codeIn K cd7 "Ring.end_round" = true) (k7 : PySem.W.keepIn K (.ref f7) = true) {oc8 kV8 dc8 pm8 cd8 ct8 : Value} {od8 an8 : Option Addr} {sl8 : Array (Option Value)} {f8 : Addr} (a8 : PySem.W.findIn K (.ref C) "begin_round" = some (some (.ref f8))) (i8 : PySem.W.isFn K (.ref f8) = true) (l8 : K.lookup f8 = some ⟨oc8,od8,.func (PySem.W.fnOf "begin_round" "Ring.begin_round" (defArgs s_Ring_begin_round) (defBody s_Ring_begin_round) (defScope s_Ring_begin_round) .none kV8 dc8 pm8 an8 cd8 ct8),sl8⟩) (c8 : PySem.W.codeIn K cd8 "Ring.begin_round" = true) (k8 : PySem.W.keepIn K (.ref f8) = true) {oc9 kV9 dc9 pm9 cd9 ct9 : Value} {od9 an9 : Option Addr} {sl9 : Array (Option Value)} {f9 : Addr} (a9 : PySem.W.findIn K (.ref C) "step_down" = some (some (.ref f9))) (i9 : PySem.W.isFn K (.ref f9) = true) (l9 : K.lookup f9 = some ⟨oc9,od9,.func (PySem.W.fnOf "step_down" "Ring.step_down" (defArgs s_Ring_step_down) (defBody s_Ring_step_down) (defScope s_Ring_step_down) .none kV9 dc9 pm9 an9 cd9 ct9),sl9⟩) (c9 : PySem.W.codeIn K cd9 "Ring.step_down" = true) (k9 : PySem.W.keepIn K (.ref f9) = true) (pg : PySem.W.plainGet K C Str.empty = true) (hd : PySem.W.hasDictIn K C = true) (po : PySem.W.plainOver K C = true) (sa : PySem.W.findIn K (.ref C) "__setattr__" = some (some (.builtin "object.__setattr__"))) (mk : PySem.W.makesIn K C = true) (kc : PySem.W.keepIn K (.ref C) = true) (n0 : PySem.W.findIn K (.ref C) "last" = some none) (n1 : PySem.W.findIn K (.ref C) "counts" = some none) (n2 : PySem.W.findIn K (.ref C) "colours" = some none) (n3 : PySem.W.findIn K (.ref C) "place" = some none) (n4 : PySem.W.findIn K (.ref C) "gathered" = some none) (n5 : PySem.W.findIn K (.ref C) "shade" = some none) (n6 : PySem.W.findIn K (.ref C) "has_gone" = some none) (n7 : PySem.W.findIn K (.ref C) "telling" = some none) : ∃ C,Txt_Ring K mg C :=
  ⟨C,⟨pg,hd,po,sa⟩,PySem.W.mg_of X G aC,⟨f0,_,⟨mk,a0,i0,kc⟩,fun_mk l0 c0 k0⟩,⟨f1,_,⟨a1,i1,k1⟩,fun_mk l1 c1 k1⟩,⟨f2,_,⟨a2,i2,k2⟩,fun_mk l2 c2 k2⟩,⟨f3,_,⟨a3,i3,k3⟩,fun_mk l3 c3 k3⟩,⟨f4,_,⟨a4,i4,k4⟩,fun_mk l4 c4 k4⟩,⟨f5,_,⟨a5,i5,k5⟩,fun_mk l5 c5 k5⟩,⟨f6,_,⟨a6,i6,k6⟩,fun_mk l6 c6 k6⟩,⟨f7,_,⟨a7,i7,k7⟩,fun_mk l7 c7 k7⟩,⟨f8,_,⟨a8,i8,k8⟩,fun_mk l8 c8 k8⟩,⟨f9,_,⟨a9,i9,k9⟩,fun_mk l9 c9 k9⟩,n0,n1,n2,n3,n4,n5,n6,n7⟩
structure Txt_Tree (K : PySem.W.Frag) (mg : Str → Option Value) (C : Addr) : Prop where
  cl : Cls K C
  mgC : mg "Tree" = some (.ref C)
  init : ∃ f fd,Mk K C f ∧ Fun K "__init__" "Tree.__init__" s_Tree___init__ f fd
  m_open_of : ∃ f fd,Meth K C "open_of" f ∧ Fun K "open_of" "Tree.open_of" s_Tree_open_of f fd
  m_above : ∃ f fd,Meth K C "above" f ∧ Fun K "above" "Tree.above" s_Tree_above f fd
  m_receipts : ∃ f fd,Meth K C "receipts" f ∧ Fun K "receipts" "Tree.receipts" s_Tree_receipts f fd
  m_send : ∃ f fd,Meth K C "send" f ∧ Fun K "send" "Tree.send" s_Tree_send f fd
  m_take : ∃ f fd,Meth K C "take" f ∧ Fun K "take" "Tree.take" s_Tree_take f fd
  m_back : ∃ f fd,Meth K C "back" f ∧ Fun K "back" "Tree.back" s_Tree_back f fd
  m_leave_if_done : ∃ f fd,Meth K C "leave_if_done" f ∧ Fun K "leave_if_done" "Tree.leave_if_done" s_Tree_leave_if_done f fd
  m_holds : ∃ f fd,Meth K C "holds" f ∧ Fun K "holds" "Tree.holds" s_Tree_holds f fd
  m_send_receipt : ∃ f fd,Meth K C "send_receipt" f ∧ Fun K "send_receipt" "Tree.send_receipt" s_Tree_send_receipt f fd
  n_opens : NoAttr K C "opens"
  n_parents : NoAttr K C "parents"
  n_letters : NoAttr K C "letters"
theorem mk_Tree {K : PySem.W.Frag} {h : Heap} {mg : Str → Option Value} (X : K.In h) (G : h.Ns mainGlobals mg) {C : Addr} (aC : PySem.W.nsIn K mainGlobals "Tree" = some (some (.ref C))) {oc0 kV0 dc0 pm0 cd0 ct0 : Value} {od0 an0 : Option Addr} {sl0 : Array (Option Value)} {f0 : Addr} (a0 : PySem.W.findIn K (.ref C) "__init__" = some (some (.ref f0))) (i0 : PySem.W.isFn K (.ref f0) = true) (l0 : K.lookup f0 = some ⟨oc0,od0,.func (PySem.W.fnOf "__init__" "Tree.__init__" (defArgs s_Tree___init__) (defBody s_Tree___init__) (defScope s_Tree___init__) .none kV0 dc0 pm0 an0 cd0 ct0),sl0⟩) (c0 : PySem.W.codeIn K cd0 "Tree.__init__" = true) (k0 : PySem.W.keepIn K (.ref f0) = true) {oc1 kV1 dc1 pm1 cd1 ct1 : Value} {od1 an1 : Option Addr} {sl1 : Array (Option Value)} {f1 : Addr} (a1 : PySem.W.findIn K (.ref C) "open_of" = some (some (.ref f1))) (i1 : PySem.W.isFn K (.ref f1) = true) (l1 : K.lookup f1 = some ⟨oc1,od1,.func (PySem.W.fnOf "open_of" "Tree.open_of" (defArgs s_Tree_open_of) (defBody s_Tree_open_of) (defScope s_Tree_open_of) .none kV1 dc1 pm1 an1 cd1 ct1),sl1⟩) (c1 : PySem.W.codeIn K cd1 "Tree.open_of" = true) (k1 : PySem.W.keepIn K (.ref f1) = true) {oc2 kV2 dc2 pm2 cd2 ct2 : Value} {od2 an2 : Option Addr} {sl2 : Array (Option Value)} {f2 : Addr} (a2 : PySem.W.findIn K (.ref C) "above" = some (some (.ref f2))) (i2 : PySem.W.isFn K (.ref f2) = true) (l2 : K.lookup f2 = some ⟨oc2,od2,.func (PySem.W.fnOf "above" "Tree.above" (defArgs s_Tree_above) (defBody s_Tree_above) (defScope s_Tree_above) .none kV2 dc2 pm2 an2 cd2 ct2),sl2⟩) (c2 : PySem.W.codeIn K cd2 "Tree.above" = true) (k2 : PySem.W.keepIn K (.ref f2) = true) {oc3 kV3 dc3 pm3 cd3 ct3 : Value} {od3 an3 : Option Addr} {sl3 : Array (Option Value)} {f3 : Addr} (a3 : PySem.W.findIn K (.ref C) "receipts" = some (some (.ref f3))) (i3 : PySem.W.isFn K (.ref f3) = true) (l3 : K.lookup f3 = some ⟨oc3,od3,.func (PySem.W.fnOf "receipts" "Tree.receipts" (defArgs s_Tree_receipts) (defBody s_Tree_receipts) (defScope s_Tree_receipts) .none kV3 dc3 pm3 an3 cd3 ct3),sl3⟩) (c3 : PySem.W.codeIn K cd3 "Tree.receipts" = true) (k3 : PySem.W.keepIn K (.ref f3) = true) {oc4 kV4 dc4 pm4 cd4 ct4 : Value} {od4 an4 : Option Addr} {sl4 : Array (Option Value)} {f4 : Addr} (a4 : PySem.W.findIn K (.ref C) "send" = some (some (.ref f4))) (i4 : PySem.W.isFn K (.ref f4) = true) (l4 : K.lookup f4 = some ⟨oc4,od4,.func (PySem.W.fnOf "send" "Tree.send" (defArgs s_Tree_send) (defBody s_Tree_send) (defScope s_Tree_send) .none kV4 dc4 pm4 an4 cd4 ct4),sl4⟩) (c4 : PySem.W.codeIn K cd4 "Tree.send" = true) (k4 : PySem.W.keepIn K (.ref f4) = true) {oc5 kV5 dc5 pm5 cd5 ct5 : Value} {od5 an5 : Option Addr} {sl5 : Array (Option Value)} {f5 : Addr} (a5 : PySem.W.findIn K (.ref C) "take" = some (some (.ref f5))) (i5 : PySem.W.isFn K (.ref f5) = true) (l5 : K.lookup f5 = some ⟨oc5,od5,.func (PySem.W.fnOf "take" "Tree.take" (defArgs s_Tree_take) (defBody s_Tree_take) (defScope s_Tree_take) .none kV5 dc5 pm5 an5 cd5 ct5),sl5⟩) (c5 : PySem.W.codeIn K cd5 "Tree.take" = true) (k5 : PySem.W.keepIn K (.ref f5) = true) {oc6 kV6 dc6 pm6 cd6 ct6 : Value} {od6 an6 : Option Addr} {sl6 : Array (Option Value)} {f6 : Addr} (a6 : PySem.W.findIn K (.ref C) "back" = some (some (.ref f6))) (i6 : PySem.W.isFn K (.ref f6) = true) (l6 : K.lookup f6 = some ⟨oc6,od6,.func (PySem.W.fnOf "back" "Tree.back" (defArgs s_Tree_back) (defBody s_Tree_back) (defScope s_Tree_back) .none kV6 dc6 pm6 an6 cd6 ct6),sl6⟩) (c6 : PySem.W.codeIn K cd6 "Tree.back" = true) (k6 : PySem.W.keepIn K (.ref f6) = true) {oc7 kV7 dc7 pm7 cd7 ct7 : Value} {od7 an7 : Option Addr} {sl7 : Array (Option Value)} {f7 : Addr} (a7 : PySem.W.findIn K (.ref C) "leave_if_done" = some (some (.ref f7))) (i7 : PySem.W.isFn K (.ref f7) = true) (l7 : K.lookup f7 = some ⟨oc7,od7,.func (PySem.W.fnOf "leave_if_done" "Tree.leave_if_done" (defArgs s_Tree_leave_if_done) (defBody s_Tree_leave_if_done) (defScope s_Tree_leave_if_done) .none kV7 dc7 pm7 an7 cd7 ct7),sl7⟩) (c7 : PySem.W.codeIn K cd7 "Tree.leave_if_done" = true) (k7 : PySem.W.keepIn K (.ref f7) = true) {oc8 kV8 dc8 pm8 cd8 ct8 : Value} {od8 an8 : Option Addr} {sl8 : Array (Option Value)} {f8 : Addr} (a8 : PySem.W.findIn K (.ref C) "holds" = some (some (.ref f8))) (i8 : PySem.W.isFn K (.ref f8) = true) (l8 : K.lookup f8 = some ⟨oc8,od8,.func (PySem.W.fnOf "holds" "Tree.holds" (defArgs s_Tree_holds) (defBody s_Tree_holds) (defScope s_Tree_holds) .none kV8 dc8 pm8 an8 cd8 ct8),sl8⟩) (c8 : PySem.W.codeIn K cd8 "Tree.holds" = true) (k8 : PySem.W.keepIn K (.ref f8) = true) {oc9 kV9 dc9 pm9 cd9 ct9 : Value} {od9 an9 : Option Addr} {sl9 : Array (Option Value)} {f9 : Addr} (a9 : PySem.W.findIn K (.ref C) "send_receipt" = some (some (.ref f9))) (i9 : PySem.W.isFn K (.ref f9) = true) (l9 : K.lookup f9 = some ⟨oc9,od9,.func (PySem.W.fnOf "send_receipt" "Tree.send_receipt" (defArgs s_Tree_send_receipt) (defBody s_Tree_send_receipt) (defScope s_Tree_send_receipt) .none kV9 dc9 pm9 an9 cd9 ct9),sl9⟩) (c9 : PySem.W.codeIn K cd9 "Tree.send_receipt" = true) (k9 : PySem.W.keepIn K (.ref f9) = true) (pg : PySem.W.plainGet K C Str.empty = true) (hd : PySem.W.hasDictIn K C = true) (po : PySem.W.plainOver K C = true) (sa : PySem.W.findIn K (.ref C) "__setattr__" = some (some (.builtin "object.__setattr__"))) (mk : PySem.W.makesIn K C = true) (kc : PySem.W.keepIn K (.ref C) = true) (n0 : PySem.W.findIn K (.ref C) "opens" = some none) (n1 : PySem.W.findIn K (.ref C) "parents" = some none) (n2 : PySem.W.findIn K (.ref C) "letters" = some none) : ∃ C,Txt_Tree K mg C :=
  ⟨C,⟨pg,hd,po,sa⟩,PySem.W.mg_of X G aC,⟨f0,_,⟨mk,a0,i0,kc⟩,fun_mk l0 c0 k0⟩,⟨f1,_,⟨a1,i1,k1⟩,fun_mk l1 c1 k1⟩,⟨f2,_,⟨a2,i2,k2⟩,fun_mk l2 c2 k2⟩,⟨f3,_,⟨a3,i3,k3⟩,fun_mk l3 c3 k3⟩,⟨f4,_,⟨a4,i4,k4⟩,fun_mk l4 c4 k4⟩,⟨f5,_,⟨a5,i5,k5⟩,fun_mk l5 c5 k5⟩,⟨f6,_,⟨a6,i6,k6⟩,fun_mk l6 c6 k6⟩,⟨f7,_,⟨a7,i7,k7⟩,fun_mk l7 c7 k7⟩,⟨f8,_,⟨a8,i8,k8⟩,fun_mk l8 c8 k8⟩,⟨f9,_,⟨a9,i9,k9⟩,fun_mk l9 c9 k9⟩,n0,n1,n2⟩
structure Txt_Weights (K : PySem.W.Frag) (mg : Str → Option Value) (C : Addr) : Prop where
  cl : Cls K C
  mgC : mg "Weights" = some (.ref C)
  init : ∃ f fd,Mk K C f ∧ Fun K "__init__" "Weights.__init__" s_Weights___init__ f fd
  m_weight_of : ∃ f fd,Meth K C "weight_of" f ∧ Fun K "weight_of" "Weights.weight_of" s_Weights_weight_of f fd
  m_weights_on : ∃ f fd,Meth K C "weights_on" f ∧ Fun K "weights_on" "Weights.weights_on" s_Weights_weights_on f fd
  m_weights_home : ∃ f fd,Meth K C "weights_home" f ∧ Fun K "weights_home" "Weights.weights_home" s_Weights_weights_home f fd
  m_send : ∃ f fd,Meth K C "send" f ∧ Fun K "send" "Weights.send" s_Weights_send f fd
  m_take : ∃ f fd,Meth K C "take" f ∧ Fun K "take" "Weights.take" s_Weights_take f fd
  m_rest : ∃ f fd,Meth K C "rest" f ∧ Fun K "rest" "Weights.rest" s_Weights_rest f fd
  m_home : ∃ f fd,Meth K C "home" f ∧ Fun K "home" "Weights.home" s_Weights_home f fd
  m_add_to : ∃ f fd,Meth K C "add_to" f ∧ Fun K "add_to" "Weights.add_to" s_Weights_add_to f fd
  n_kept : NoAttr K C "kept"
  n_on_works : NoAttr K C "on_works"
  n_on_way_home : NoAttr K C "on_way_home"
theorem mk_Weights {K : PySem.W.Frag} {h : Heap} {mg : Str → Option Value} (X : K.In h) (G : h.Ns mainGlobals mg) {C : Addr} (aC : PySem.W.nsIn K mainGlobals "Weights" = some (some (.ref C))) {oc0 kV0 dc0 pm0 cd0 ct0 : Value} {od0 an0 : Option Addr} {sl0 : Array (Option Value)} {f0 : Addr} (a0 : PySem.W.findIn K (.ref C) "__init__" = some (some (.ref f0))) (i0 : PySem.W.isFn K (.ref f0) = true) (l0 : K.lookup f0 = some ⟨oc0,od0,.func (PySem.W.fnOf "__init__" "Weights.__init__" (defArgs s_Weights___init__) (defBody s_Weights___init__) (defScope s_Weights___init__) .none kV0 dc0 pm0 an0 cd0 ct0),sl0⟩) (c0 : PySem.W.codeIn K cd0 "Weights.__init__" = true) (k0 : PySem.W.keepIn K (.ref f0) = true) {oc1 kV1 dc1 pm1 cd1 ct1 : Value} {od1 an1 : Option Addr} {sl1 : Array (Option Value)} {f1 : Addr} (a1 : PySem.W.findIn K (.ref C) "weight_of" = some (some (.ref f1))) (i1 : PySem.W.isFn K (.ref f1) = true) (l1 : K.lookup f1 = some ⟨oc1,od1,.func (PySem.W.fnOf "weight_of" "Weights.weight_of" (defArgs s_Weights_weight_of) (defBody s_Weights_weight_of) (defScope s_Weights_weight_of) .none kV1 dc1 pm1 an1 cd1 ct1),sl1⟩) (c1 : PySem.W.codeIn K cd1 "Weights.weight_of" = true) (k1 : PySem.W.keepIn K (.ref f1) = true) {oc2 kV2 dc2 pm2 cd2 ct2 : Value} {od2 an2 : Option Addr} {sl2 : Array (Option Value)} {f2 : Addr} (a2 : PySem.W.findIn K (.ref C) "weights_on" = some (some (.ref f2))) (i2 : PySem.W.isFn K (.ref f2) = true) (l2 : K.lookup f2 = some ⟨oc2,od2,.func (PySem.W.fnOf "weights_on" "Weights.weights_on" (defArgs s_Weights_weights_on) (defBody s_Weights_weights_on) (defScope s_Weights_weights_on) .none kV2 dc2 pm2 an2 cd2 ct2),sl2⟩) (c2 : PySem.W.codeIn K cd2 "Weights.weights_on" = true) (k2 : PySem.W.keepIn K (.ref f2) = true) {oc3 kV3 dc3 pm3 cd3 ct3 : Value} {od3 an3 : Option Addr} {sl3 : Array (Option Value)} {f3 : Addr} (a3 : PySem.W.findIn K (.ref C) "weights_home" = some (some (.ref f3))) (i3 : PySem.W.isFn K (.ref f3) = true) (l3 : K.lookup f3 = some ⟨oc3,od3,.func (PySem.W.fnOf "weights_home" "Weights.weights_home" (defArgs s_Weights_weights_home) (defBody s_Weights_weights_home) (defScope s_Weights_weights_home) .none kV3 dc3 pm3 an3 cd3 ct3),sl3⟩) (c3 : PySem.W.codeIn K cd3 "Weights.weights_home" = true) (k3 : PySem.W.keepIn K (.ref f3) = true) {oc4 kV4 dc4 pm4 cd4 ct4 : Value} {od4 an4 : Option Addr} {sl4 : Array (Option Value)} {f4 : Addr} (a4 : PySem.W.findIn K (.ref C) "send" = some (some (.ref f4))) (i4 : PySem.W.isFn K (.ref f4) = true) (l4 : K.lookup f4 = some ⟨oc4,od4,.func (PySem.W.fnOf "send" "Weights.send" (defArgs s_Weights_send) (defBody s_Weights_send) (defScope s_Weights_send) .none kV4 dc4 pm4 an4 cd4 ct4),sl4⟩) (c4 : PySem.W.codeIn K cd4 "Weights.send" = true) (k4 : PySem.W.keepIn K (.ref f4) = true) {oc5 kV5 dc5 pm5 cd5 ct5 : Value} {od5 an5 : Option Addr} {sl5 : Array (Option Value)} {f5 : Addr} (a5 : PySem.W.findIn K (.ref C) "take" = some (some (.ref f5))) (i5 : PySem.W.isFn K (.ref f5) = true) (l5 : K.lookup f5 = some ⟨oc5,od5,.func (PySem.W.fnOf "take" "Weights.take" (defArgs s_Weights_take) (defBody s_Weights_take) (defScope s_Weights_take) .none kV5 dc5 pm5 an5 cd5 ct5),sl5⟩) (c5 : PySem.W.codeIn K cd5 "Weights.take" = true) (k5 : PySem.W.keepIn K (.ref f5) = true) {oc6 kV6 dc6 pm6 cd6 ct6 : Value} {od6 an6 : Option Addr} {sl6 : Array (Option Value)} {f6 : Addr} (a6 : PySem.W.findIn K (.ref C) "rest" = some (some (.ref f6))) (i6 : PySem.W.isFn K (.ref f6) = true) (l6 : K.lookup f6 = some ⟨oc6,od6,.func (PySem.W.fnOf "rest" "Weights.rest" (defArgs s_Weights_rest) (defBody s_Weights_rest) (defScope s_Weights_rest) .none kV6 dc6 pm6 an6 cd6 ct6),sl6⟩) (c6 : PySem.W.codeIn K cd6 "Weights.rest" = true) (k6 : PySem.W.keepIn K (.ref f6) = true) {oc7 kV7 dc7 pm7 cd7 ct7 : Value} {od7 an7 : Option Addr} {sl7 : Array (Option Value)} {f7 : Addr} (a7 : PySem.W.findIn K (.ref C) "home" = some (some (.ref f7))) (i7 : PySem.W.isFn K (.ref f7) = true) (l7 : K.lookup f7 = some ⟨oc7,od7,.func (PySem.W.fnOf "home" "Weights.home" (defArgs s_Weights_home) (defBody s_Weights_home) (defScope s_Weights_home) .none kV7 dc7 pm7 an7 cd7 ct7),sl7⟩) (c7 : PySem.W.codeIn K cd7 "Weights.home" = true) (k7 : PySem.W.keepIn K (.ref f7) = true) {oc8 kV8 dc8 pm8 cd8 ct8 : Value} {od8 an8 : Option Addr} {sl8 : Array (Option Value)} {f8 : Addr} (a8 : PySem.W.findIn K (.ref C) "add_to" = some (some (.ref f8))) (i8 : PySem.W.isFn K (.ref f8) = true) (l8 : K.lookup f8 = some ⟨oc8,od8,.func (PySem.W.fnOf "add_to" "Weights.add_to" (defArgs s_Weights_add_to) (defBody s_Weights_add_to) (defScope s_Weights_add_to) .none kV8 dc8 pm8 an8 cd8 ct8),sl8⟩) (c8 : PySem.W.codeIn K cd8 "Weights.add_to" = true) (k8 : PySem.W.keepIn K (.ref f8) = true) (pg : PySem.W.plainGet K C Str.empty = true) (hd : PySem.W.hasDictIn K C = true) (po : PySem.W.plainOver K C = true) (sa : PySem.W.findIn K (.ref C) "__setattr__" = some (some (.builtin "object.__setattr__"))) (mk : PySem.W.makesIn K C = true) (kc : PySem.W.keepIn K (.ref C) = true) (n0 : PySem.W.findIn K (.ref C) "kept" = some none) (n1 : PySem.W.findIn K (.ref C) "on_works" = some none) (n2 : PySem.W.findIn K (.ref C) "on_way_home" = some none) : ∃ C,Txt_Weights K mg C :=
  ⟨C,⟨pg,hd,po,sa⟩,PySem.W.mg_of X G aC,⟨f0,_,⟨mk,a0,i0,kc⟩,fun_mk l0 c0 k0⟩,⟨f1,_,⟨a1,i1,k1⟩,fun_mk l1 c1 k1⟩,⟨f2,_,⟨a2,i2,k2⟩,fun_mk l2 c2 k2⟩,⟨f3,_,⟨a3,i3,k3⟩,fun_mk l3 c3 k3⟩,⟨f4,_,⟨a4,i4,k4⟩,fun_mk l4 c4 k4⟩,⟨f5,_,⟨a5,i5,k5⟩,fun_mk l5 c5 k5⟩,⟨f6,_,⟨a6,i6,k6⟩,fun_mk l6 c6 k6⟩,⟨f7,_,⟨a7,i7,k7⟩,fun_mk l7 c7 k7⟩,⟨f8,_,⟨a8,i8,k8⟩,fun_mk l8 c8 k8⟩,n0,n1,n2⟩
structure Txt_Hall (K : PySem.W.Frag) (mg : Str → Option Value) (C : Addr) : Prop where
  cl : Cls K C
  mgC : mg "Hall" = some (.ref C)
  init : ∃ f fd,Mk K C f ∧ Fun K "__init__" "Hall.__init__" s_Hall___init__ f fd
  m_send : ∃ f fd,Meth K C "send" f ∧ Fun K "send" "Hall.send" s_Hall_send f fd
  m_take : ∃ f fd,Meth K C "take" f ∧ Fun K "take" "Hall.take" s_Hall_take f fd
  m_rest : ∃ f fd,Meth K C "rest" f ∧ Fun K "rest" "Hall.rest" s_Hall_rest f fd
  m_back : ∃ f fd,Meth K C "back" f ∧ Fun K "back" "Hall.back" s_Hall_back f fd
  m_home : ∃ f fd,Meth K C "home" f ∧ Fun K "home" "Hall.home" s_Hall_home f fd
  m_pass_on : ∃ f fd,Meth K C "pass_on" f ∧ Fun K "pass_on" "Hall.pass_on" s_Hall_pass_on f fd
  m_working : ∃ f fd,Meth K C "working" f ∧ Fun K "working" "Hall.working" s_Hall_working f fd
  m_works : ∃ f fd,Meth K C "works" f ∧ Fun K "works" "Hall.works" s_Hall_works f fd
  m_is_quiet : ∃ f fd,Meth K C "is_quiet" f ∧ Fun K "is_quiet" "Hall.is_quiet" s_Hall_is_quiet f fd
  m_open_of : ∃ f fd,Meth K C "open_of" f ∧ Fun K "open_of" "Hall.open_of" s_Hall_open_of f fd
  m_above : ∃ f fd,Meth K C "above" f ∧ Fun K "above" "Hall.above" s_Hall_above f fd
  m_receipts : ∃ f fd,Meth K C "receipts" f ∧ Fun K "receipts" "Hall.receipts" s_Hall_receipts f fd
  m_weight_of : ∃ f fd,Meth K C "weight_of" f ∧ Fun K "weight_of" "Hall.weight_of" s_Hall_weight_of f fd
  m_weights_on : ∃ f fd,Meth K C "weights_on" f ∧ Fun K "weights_on" "Hall.weights_on" s_Hall_weights_on f fd
  m_weights_home : ∃ f fd,Meth K C "weights_home" f ∧ Fun K "weights_home" "Hall.weights_home" s_Hall_weights_home f fd
  m_token : ∃ f fd,Meth K C "token" f ∧ Fun K "token" "Hall.token" s_Hall_token f fd
  m_count_of : ∃ f fd,Meth K C "count_of" f ∧ Fun K "count_of" "Hall.count_of" s_Hall_count_of f fd
  m_colour_of : ∃ f fd,Meth K C "colour_of" f ∧ Fun K "colour_of" "Hall.colour_of" s_Hall_colour_of f fd
  m_told : ∃ f fd,Meth K C "told" f ∧ Fun K "told" "Hall.told" s_Hall_told f fd
  m_need_hand : ∃ f fd,Meth K C "need_hand" f ∧ Fun K "need_hand" "Hall.need_hand" s_Hall_need_hand f fd
  m_need_two : ∃ f fd,Meth K C "need_two" f ∧ Fun K "need_two" "Hall.need_two" s_Hall_need_two f fd
  m_need_working : ∃ f fd,Meth K C "need_working" f ∧ Fun K "need_working" "Hall.need_working" s_Hall_need_working f fd
  n_many : NoAttr K C "many"
  n_busy : NoAttr K C "busy"
  n_on_way : NoAttr K C "on_way"
  n_tree : NoAttr K C "tree"
  n_weights : NoAttr K C "weights"
  n_ring : NoAttr K C "ring"
theorem mk_Hall {K : PySem.W.Frag} {h : Heap} {mg : Str → Option Value} (X : K.In h) (G : h.Ns mainGlobals mg) {C : Addr} (aC : PySem.W.nsIn K mainGlobals "Hall" = some (some (.ref C))) {oc0 kV0 dc0 pm0 cd0 ct0 : Value} {od0 an0 : Option Addr} {sl0 : Array (Option Value)} {f0 : Addr} (a0 : PySem.W.findIn K (.ref C) "__init__" = some (some (.ref f0))) (i0 : PySem.W.isFn K (.ref f0) = true) (l0 : K.lookup f0 = some ⟨oc0,od0,.func (PySem.W.fnOf "__init__" "Hall.__init__" (defArgs s_Hall___init__) (defBody s_Hall___init__) (defScope s_Hall___init__) .none kV0 dc0 pm0 an0 cd0 ct0),sl0⟩) (c0 : PySem.W.codeIn K cd0 "Hall.__init__" = true) (k0 : PySem.W.keepIn K (.ref f0) = true) {oc1 kV1 dc1 pm1 cd1 ct1 : Value} {od1 an1 : Option Addr} {sl1 : Array (Option Value)} {f1 : Addr} (a1 : PySem.W.findIn K (.ref C) "send" = some (some (.ref f1))) (i1 : PySem.W.isFn K (.ref f1) = true) (l1 : K.lookup f1 = some ⟨oc1,od1,.func (PySem.W.fnOf "send" "Hall.send" (defArgs s_Hall_send) (defBody s_Hall_send) (defScope s_Hall_send) .none kV1 dc1 pm1 an1 cd1 ct1),sl1⟩) (c1 : PySem.W.codeIn K cd1 "Hall.send" = true) (k1 : PySem.W.keepIn K (.ref f1) = true) {oc2 kV2 dc2 pm2 cd2 ct2 : Value} {od2 an2 : Option Addr} {sl2 : Array (Option Value)} {f2 : Addr} (a2 : PySem.W.findIn K (.ref C) "take" = some (some (.ref f2))) (i2 : PySem.W.isFn K (.ref f2) = true) (l2 : K.lookup f2 = some ⟨oc2,od2,.func (PySem.W.fnOf "take" "Hall.take" (defArgs s_Hall_take) (defBody s_Hall_take) (defScope s_Hall_take) .none kV2 dc2 pm2 an2 cd2 ct2),sl2⟩) (c2 : PySem.W.codeIn K cd2 "Hall.take" = true) (k2 : PySem.W.keepIn K (.ref f2) = true) {oc3 kV3 dc3 pm3 cd3 ct3 : Value} {od3 an3 : Option Addr} {sl3 : Array (Option Value)} {f3 : Addr} (a3 : PySem.W.findIn K (.ref C) "rest" = some (some (.ref f3))) (i3 : PySem.W.isFn K (.ref f3) = true) (l3 : K.lookup f3 = some ⟨oc3,od3,.func (PySem.W.fnOf "rest" "Hall.rest" (defArgs s_Hall_rest) (defBody s_Hall_rest) (defScope s_Hall_rest) .none kV3 dc3 pm3 an3 cd3 ct3),sl3⟩) (c3 : PySem.W.codeIn K cd3 "Hall.rest" = true) (k3 : PySem.W.keepIn K (.ref f3) = true) {oc4 kV4 dc4 pm4 cd4 ct4 : Value} {od4 an4 : Option Addr} {sl4 : Array (Option Value)} {f4 : Addr} (a4 : PySem.W.findIn K (.ref C) "back" = some (some (.ref f4))) (i4 : PySem.W.isFn K (.ref f4) = true) (l4 : K.lookup f4 = some ⟨oc4,od4,.func (PySem.W.fnOf "back" "Hall.back" (defArgs s_Hall_back) (defBody s_Hall_back) (defScope s_Hall_back) .none kV4 dc4 pm4 an4 cd4 ct4),sl4⟩) (c4 : PySem.W.codeIn K cd4 "Hall.back" = true) (k4 : PySem.W.keepIn K (.ref f4) = true) {oc5 kV5 dc5 pm5 cd5 ct5 : Value} {od5 an5 : Option Addr} {sl5 : Array (Option Value)} {f5 : Addr} (a5 : PySem.W.findIn K (.ref C) "home" = some (some (.ref f5))) (i5 : PySem.W.isFn K (.ref f5) = true) (l5 : K.lookup f5 = some ⟨oc5,od5,.func (PySem.W.fnOf "home" "Hall.home" (defArgs s_Hall_home) (defBody s_Hall_home) (defScope s_Hall_home) .none kV5 dc5 pm5 an5 cd5 ct5),sl5⟩) (c5 : PySem.W.codeIn K cd5 "Hall.home" = true) (k5 : PySem.W.keepIn K (.ref f5) = true) {oc6 kV6 dc6 pm6 cd6 ct6 : Value} {od6 an6 : Option Addr} {sl6 : Array (Option Value)} {f6 : Addr} (a6 : PySem.W.findIn K (.ref C) "pass_on" = some (some (.ref f6))) (i6 : PySem.W.isFn K (.ref f6) = true) (l6 : K.lookup f6 = some ⟨oc6,od6,.func (PySem.W.fnOf "pass_on" "Hall.pass_on" (defArgs s_Hall_pass_on) (defBody s_Hall_pass_on) (defScope s_Hall_pass_on) .none kV6 dc6 pm6 an6 cd6 ct6),sl6⟩) (c6 : PySem.W.codeIn K cd6 "Hall.pass_on" = true) (k6 : PySem.W.keepIn K (.ref f6) = true) {oc7 kV7 dc7 pm7 cd7 ct7 : Value} {od7 an7 : Option Addr} {sl7 : Array (Option Value)} {f7 : Addr} (a7 : PySem.W.findIn K (.ref C) "working" = some (some (.ref f7))) (i7 : PySem.W.isFn K (.ref f7) = true) (l7 : K.lookup f7 = some ⟨oc7,od7,.func (PySem.W.fnOf "working" "Hall.working" (defArgs s_Hall_working) (defBody s_Hall_working) (defScope s_Hall_working) .none kV7 dc7 pm7 an7 cd7 ct7),sl7⟩) (c7 : PySem.W.codeIn K cd7 "Hall.working" = true) (k7 : PySem.W.keepIn K (.ref f7) = true) {oc8 kV8 dc8 pm8 cd8 ct8 : Value} {od8 an8 : Option Addr} {sl8 : Array (Option Value)} {f8 : Addr} (a8 : PySem.W.findIn K (.ref C) "works" = some (some (.ref f8))) (i8 : PySem.W.isFn K (.ref f8) = true) (l8 : K.lookup f8 = some ⟨oc8,od8,.func (PySem.W.fnOf "works" "Hall.works" (defArgs s_Hall_works) (defBody s_Hall_works) (defScope s_Hall_works) .none kV8 dc8 pm8 an8 cd8 ct8),sl8⟩) (c8 : PySem.W.codeIn K cd8 "Hall.works" = true) (k8 : PySem.W.keepIn K (.ref f8) = true) {oc9 kV9 dc9 pm9 cd9 ct9 : Value} {od9 an9 : Option Addr} {sl9 : Array (Option Value)} {f9 : Addr} (a9 : PySem.W.findIn K (.ref C) "is_quiet" = some (some (.ref f9))) (i9 : PySem.W.isFn K (.ref f9) = true) (l9 : K.lookup f9 = some ⟨oc9,od9,.func (PySem.W.fnOf "is_quiet" "Hall.is_quiet" (defArgs s_Hall_is_quiet) (defBody s_Hall_is_quiet) (defScope s_Hall_is_quiet) .none kV9 dc9 pm9 an9 cd9 ct9),sl9⟩) (c9 : PySem.W.codeIn K cd9 "Hall.is_quiet" = true) (k9 : PySem.W.keepIn K (.ref f9) = true) {oc10 kV10 dc10 pm10 cd10 ct10 : Value} {od10 an10 : Option Addr} {sl10 : Array (Option Value)} {f10 : Addr} (a10 : PySem.W.findIn K (.ref C) "open_of" = some (some (.ref f10))) (i10 : PySem.W.isFn K (.ref f10) = true) (l10 : K.lookup f10 = some ⟨oc10,od10,.func (PySem.W.fnOf "open_of" "Hall.open_of" (defArgs s_Hall_open_of) (defBody s_Hall_open_of) (defScope s_Hall_open_of) .none kV10 dc10 pm10 an10 cd10 ct10),sl10⟩) (c10 : PySem.W.codeIn K cd10 "Hall.open_of" = true) (k10 : PySem.W.keepIn K (.ref f10) = true) {oc11 kV11 dc11 pm11 cd11 ct11 : Value} {od11 an11 : Option Addr} {sl11 : Array (Option Value)} {f11 : Addr} (a11 : PySem.W.findIn K (.ref C) "above" = some (some (.ref f11))) (i11 : PySem.W.isFn K (.ref f11) = true) (l11 : K.lookup f11 = some ⟨oc11,od11,.func (PySem.W.fnOf "above" "Hall.above" (defArgs s_Hall_above) (defBody s_Hall_above) (defScope s_Hall_above) .none kV11 dc11 pm11 an11 cd11 ct11),sl11⟩) (c11 : PySem.W.codeIn K cd11 "Hall.above" = true) (k11 : PySem.W.keepIn K (.ref f11) = true) {oc12 kV12 dc12 pm12 cd12 ct12 : Value} {od12 an12 : Option Addr} {sl12 : Array (Option Value)} {f12 : Addr} (a12 : PySem.W.findIn K (.ref C) "receipts" = some (some (.ref f12))) (i12 : PySem.W.isFn K (.ref f12) = true) (l12 : K.lookup f12 = some ⟨oc12,od12,.func (PySem.W.fnOf "receipts" "Hall.receipts" (defArgs s_Hall_receipts) (defBody s_Hall_receipts) (defScope s_Hall_receipts) .none kV12 dc12 pm12 an12 cd12 ct12),sl12⟩) (c12 : PySem.W.codeIn K cd12 "Hall.receipts" = true) (k12 : PySem.W.keepIn K (.ref f12) = true) {oc13 kV13 dc13 pm13 cd13 ct13 : Value} {od13 an13 : Option Addr} {sl13 : Array (Option Value)} {f13 : Addr} (a13 : PySem.W.findIn K (.ref C) "weight_of" = some (some (.ref f13))) (i13 : PySem.W.isFn K (.ref f13) = true) (l13 : K.lookup f13 = some ⟨oc13,od13,.func (PySem.W.fnOf "weight_of" "Hall.weight_of" (defArgs s_Hall_weight_of) (defBody s_Hall_weight_of) (defScope s_Hall_weight_of) .none kV13 dc13 pm13 an13 cd13 ct13),sl13⟩) (c13 : PySem.W.codeIn K cd13 "Hall.weight_of" = true) (k13 : PySem.W.keepIn K (.ref f13) = true) {oc14 kV14 dc14 pm14 cd14 ct14 : Value} {od14 an14 : Option Addr} {sl14 : Array (Option Value)} {f14 : Addr} (a14 : PySem.W.findIn K (.ref C) "weights_on" = some (some (.ref f14))) (i14 : PySem.W.isFn K (.ref f14) = true) (l14 : K.lookup f14 = some ⟨oc14,od14,.func (PySem.W.fnOf "weights_on" "Hall.weights_on" (defArgs s_Hall_weights_on) (defBody s_Hall_weights_on) (defScope s_Hall_weights_on) .none kV14 dc14 pm14 an14 cd14 ct14),sl14⟩) (c14 : PySem.W.codeIn K cd14 "Hall.weights_on" = true) (k14 : PySem.W.keepIn K (.ref f14) = true) {oc15 kV15 dc15 pm15 cd15 ct15 : Value} {od15 an15 : Option Addr} {sl15 : Array (Option Value)} {f15 : Addr} (a15 : PySem.W.findIn K (.ref C) "weights_home" = some (some (.ref f15))) (i15 : PySem.W.isFn K (.ref f15) = true) (l15 : K.lookup f15 = some ⟨oc15,od15,.func (PySem.W.fnOf "weights_home" "Hall.weights_home" (defArgs s_Hall_weights_home) (defBody s_Hall_weights_home) (defScope s_Hall_weights_home) .none kV15 dc15 pm15 an15 cd15 ct15),sl15⟩) (c15 : PySem.W.codeIn K cd15 "Hall.weights_home" = true) (k15 : PySem.W.keepIn K (.ref f15) = true) {oc16 kV16 dc16 pm16 cd16 ct16 : Value} {od16 an16 : Option Addr} {sl16 : Array (Option Value)} {f16 : Addr} (a16 : PySem.W.findIn K (.ref C) "token" = some (some (.ref f16))) (i16 : PySem.W.isFn K (.ref f16) = true) (l16 : K.lookup f16 = some ⟨oc16,od16,.func (PySem.W.fnOf "token" "Hall.token" (defArgs s_Hall_token) (defBody s_Hall_token) (defScope s_Hall_token) .none kV16 dc16 pm16 an16 cd16 ct16),sl16⟩) (c16 : PySem.W.codeIn K cd16 "Hall.token" = true) (k16 : PySem.W.keepIn K (.ref f16) = true) {oc17 kV17 dc17 pm17 cd17 ct17 : Value} {od17 an17 : Option Addr} {sl17 : Array (Option Value)} {f17 : Addr} (a17 : PySem.W.findIn K (.ref C) "count_of" = some (some (.ref f17))) (i17 : PySem.W.isFn K (.ref f17) = true) (l17 : K.lookup f17 = some ⟨oc17,od17,.func (PySem.W.fnOf "count_of" "Hall.count_of" (defArgs s_Hall_count_of) (defBody s_Hall_count_of) (defScope s_Hall_count_of) .none kV17 dc17 pm17 an17 cd17 ct17),sl17⟩) (c17 : PySem.W.codeIn K cd17 "Hall.count_of" = true) (k17 : PySem.W.keepIn K (.ref f17) = true) {oc18 kV18 dc18 pm18 cd18 ct18 : Value} {od18 an18 : Option Addr} {sl18 : Array (Option Value)} {f18 : Addr} (a18 : PySem.W.findIn K (.ref C) "colour_of" = some (some (.ref f18))) (i18 : PySem.W.isFn K (.ref f18) = true) (l18 : K.lookup f18 = some ⟨oc18,od18,.func (PySem.W.fnOf "colour_of" "Hall.colour_of" (defArgs s_Hall_colour_of) (defBody s_Hall_colour_of) (defScope s_Hall_colour_of) .none kV18 dc18 pm18 an18 cd18 ct18),sl18⟩) (c18 : PySem.W.codeIn K cd18 "Hall.colour_of" = true) (k18 : PySem.W.keepIn K (.ref f18) = true) {oc19 kV19 dc19 pm19 cd19 ct19 : Value} {od19 an19 : Option Addr} {sl19 : Array (Option Value)} {f19 : Addr} (a19 : PySem.W.findIn K (.ref C) "told" = some (some (.ref f19))) (i19 : PySem.W.isFn K (.ref f19) = true) (l19 : K.lookup f19 = some ⟨oc19,od19,.func (PySem.W.fnOf "told" "Hall.told" (defArgs s_Hall_told) (defBody s_Hall_told) (defScope s_Hall_told) .none kV19 dc19 pm19 an19 cd19 ct19),sl19⟩) (c19 : PySem.W.codeIn K cd19 "Hall.told" = true) (k19 : PySem.W.keepIn K (.ref f19) = true) {oc20 kV20 dc20 pm20 cd20 ct20 : Value} {od20 an20 : Option Addr} {sl20 : Array (Option Value)} {f20 : Addr} (a20 : PySem.W.findIn K (.ref C) "need_hand" = some (some (.ref f20))) (i20 : PySem.W.isFn K (.ref f20) = true) (l20 : K.lookup f20 = some ⟨oc20,od20,.func (PySem.W.fnOf "need_hand" "Hall.need_hand" (defArgs s_Hall_need_hand) (defBody s_Hall_need_hand) (defScope s_Hall_need_hand) .none kV20 dc20 pm20 an20 cd20 ct20),sl20⟩) (c20 : PySem.W.codeIn K cd20 "Hall.need_hand" = true) (k20 : PySem.W.keepIn K (.ref f20) = true) {oc21 kV21 dc21 pm21 cd21 ct21 : Value} {od21 an21 : Option Addr} {sl21 : Array (Option Value)} {f21 : Addr} (a21 : PySem.W.findIn K (.ref C) "need_two" = some (some (.ref f21))) (i21 : PySem.W.isFn K (.ref f21) = true) (l21 : K.lookup f21 = some ⟨oc21,od21,.func (PySem.W.fnOf "need_two" "Hall.need_two" (defArgs s_Hall_need_two) (defBody s_Hall_need_two) (defScope s_Hall_need_two) .none kV21 dc21 pm21 an21 cd21 ct21),sl21⟩) (c21 : PySem.W.codeIn K cd21 "Hall.need_two" = true) (k21 : PySem.W.keepIn K (.ref f21) = true) {oc22 kV22 dc22 pm22 cd22 ct22 : Value} {od22 an22 : Option Addr} {sl22 : Array (Option Value)} {f22 : Addr} (a22 : PySem.W.findIn K (.ref C) "need_working" = some (some (.ref f22))) (i22 : PySem.W.isFn K (.ref f22) = true) (l22 : K.lookup f22 = some ⟨oc22,od22,.func (PySem.W.fnOf "need_working" "Hall.need_working" (defArgs s_Hall_need_working) (defBody s_Hall_need_working) (defScope s_Hall_need_working) .none kV22 dc22 pm22 an22 cd22 ct22),sl22⟩) (c22 : PySem.W.codeIn K cd22 "Hall.need_working" = true) (k22 : PySem.W.keepIn K (.ref f22) = true) (pg : PySem.W.plainGet K C Str.empty = true) (hd : PySem.W.hasDictIn K C = true) (po : PySem.W.plainOver K C = true) (sa : PySem.W.findIn K (.ref C) "__setattr__" = some (some (.builtin "object.__setattr__"))) (mk : PySem.W.makesIn K C = true) (kc : PySem.W.keepIn K (.ref C) = true) (n0 : PySem.W.findIn K (.ref C) "many" = some none) (n1 : PySem.W.findIn K (.ref C) "busy" = some none) (n2 : PySem.W.findIn K (.ref C) "on_way" = some none) (n3 : PySem.W.findIn K (.ref C) "tree" = some none) (n4 : PySem.W.findIn K (.ref C) "weights" = some none) (n5 : PySem.W.findIn K (.ref C) "ring" = some none) : ∃ C,Txt_Hall K mg C :=
  ⟨C,⟨pg,hd,po,sa⟩,PySem.W.mg_of X G aC,⟨f0,_,⟨mk,a0,i0,kc⟩,fun_mk l0 c0 k0⟩,⟨f1,_,⟨a1,i1,k1⟩,fun_mk l1 c1 k1⟩,⟨f2,_,⟨a2,i2,k2⟩,fun_mk l2 c2 k2⟩,⟨f3,_,⟨a3,i3,k3⟩,fun_mk l3 c3 k3⟩,⟨f4,_,⟨a4,i4,k4⟩,fun_mk l4 c4 k4⟩,⟨f5,_,⟨a5,i5,k5⟩,fun_mk l5 c5 k5⟩,⟨f6,_,⟨a6,i6,k6⟩,fun_mk l6 c6 k6⟩,⟨f7,_,⟨a7,i7,k7⟩,fun_mk l7 c7 k7⟩,⟨f8,_,⟨a8,i8,k8⟩,fun_mk l8 c8 k8⟩,⟨f9,_,⟨a9,i9,k9⟩,fun_mk l9 c9 k9⟩,⟨f10,_,⟨a10,i10,k10⟩,fun_mk l10 c10 k10⟩,⟨f11,_,⟨a11,i11,k11⟩,fun_mk l11 c11 k11⟩,⟨f12,_,⟨a12,i12,k12⟩,fun_mk l12 c12 k12⟩,⟨f13,_,⟨a13,i13,k13⟩,fun_mk l13 c13 k13⟩,⟨f14,_,⟨a14,i14,k14⟩,fun_mk l14 c14 k14⟩,⟨f15,_,⟨a15,i15,k15⟩,fun_mk l15 c15 k15⟩,⟨f16,_,⟨a16,i16,k16⟩,fun_mk l16 c16 k16⟩,⟨f17,_,⟨a17,i17,k17⟩,fun_mk l17 c17 k17⟩,⟨f18,_,⟨a18,i18,k18⟩,fun_mk l18 c18 k18⟩,⟨f19,_,⟨a19,i19,k19⟩,fun_mk l19 c19 k19⟩,⟨f20,_,⟨a20,i20,k20⟩,fun_mk l20 c20 k20⟩,⟨f21,_,⟨a21,i21,k21⟩,fun_mk l21 c21 k21⟩,⟨f22,_,⟨a22,i22,k22⟩,fun_mk l22 c22 k22⟩,n0,n1,n2,n3,n4,n5⟩
theorem mk_fn {K : PySem.W.Frag} {h : Heap} {mg : Str → Option Value} (X : K.In h) (G : h.Ns mainGlobals mg) {x qual : Str} {st : Stmt} {oc0 kV0 dc0 pm0 cd0 ct0 : Value} {od0 an0 : Option Addr} {sl0 : Array (Option Value)} {f0 : Addr} (a0 : PySem.W.nsIn K mainGlobals x = some (some (.ref f0))) (l0 : K.lookup f0 = some ⟨oc0,od0,.func (PySem.W.fnOf x qual (defArgs st) (defBody st) (defScope st) .none kV0 dc0 pm0 an0 cd0 ct0),sl0⟩) (c0 : PySem.W.codeIn K cd0 qual = true) (k0 : PySem.W.keepIn K (.ref f0) = true) : ∃ f fd,mg x = some (.ref f) ∧ PySem.W.keepIn K (.ref f) = true ∧ Fun K x qual st f fd :=
  ⟨f0,_,PySem.W.mg_of X G a0,k0,fun_mk l0 c0 k0⟩
end Tx
set_option Elab.async false
set_option linter.all false
set_option maxRecDepth 100000
namespace Qh
open PySem L2 Tx
structure TreeD (K : PySem.W.Frag) (C : Addr) (n : Nat) (H : Hp) (p : Addr) (s : S) (dx o pa le : Addr) (kvo kvp : List (Key × V)) (kvl : List (List Key × V)) : Prop where
  n6 : n ≤ 6
  hp : H p = some (.ins C dx [("opens",.ref o),("parents",.ref pa),("letters",.ref le)])
  hd : H dx = some (.own p)
  ho : H o = some (.dK kvo)
  hq : H pa = some (.dK kvp)
  hl : H le = some (.dT kvl)
  ne : o ≠ pa
  no : Num n kvo (fun k => (s.due k : Int))
  dp : DK n kvp (fun k => (s.over k).map fun q => V.int (q : Nat))
  sl : Num2 n kvl s.slips
def FT (p dx o pa le : Addr) : Addr → Prop:=fun b => b = p ∨ b = dx ∨ b = o ∨ b = pa ∨ b = le
def TreeIs (K : PySem.W.Frag) (C : Addr) (n : Nat) (H : Hp) (p : Addr) (s : S) (F : Addr → Prop) : Prop:=∃ dx o pa le kvo kvp kvl,TreeD K C n H p s dx o pa le kvo kvp kvl ∧ F = FT p dx o pa le
section
variable {K : PySem.W.Frag} {C : Addr} {n : Nat} {H H' : Hp} {p : Addr} {s t : S} {F : Addr → Prop} {dx o pa le : Addr} {kvo kvp : List (Key × V)} {kvl : List (List Key × V)}
theorem TreeD.keep (T : TreeD K C n H p s dx o pa le kvo kvp kvl) (k : ∀ b u,H b = some u → FT p dx o pa le b → H' b = some u) : TreeD K C n H' p s dx o pa le kvo kvp kvl :=
  ⟨T.n6,k _ _ T.hp (.inl rfl),k _ _ T.hd (.inr (.inl rfl)),k _ _ T.ho (.inr (.inr (.inl rfl))),k _ _ T.hq (.inr (.inr (.inr (.inl rfl)))),k _ _ T.hl (.inr (.inr (.inr (.inr rfl)))),T.ne,T.no,T.dp,T.sl⟩
theorem TreeD.same (T : TreeD K C n H p s dx o pa le kvo kvp kvl) (e : Same H H') : TreeD K C n H' p s dx o pa le kvo kvp kvl:=T.keep fun b u h _ => e b u h
theorem TreeD.of (T : TreeD K C n H p s dx o pa le kvo kvp kvl) (h1 : t.due = s.due) (h2 : t.over = s.over) (h3 : t.slips = s.slips) : TreeD K C n H p t dx o pa le kvo kvp kvl :=
  ⟨T.n6,T.hp,T.hd,T.ho,T.hq,T.hl,T.ne,by rw [h1]; exact T.no,by rw [h2]; exact T.dp,by rw [h3]; exact T.sl⟩
theorem TreeIs.of (T : TreeIs K C n H p s F) (h1 : t.due = s.due) (h2 : t.over = s.over) (h3 : t.slips = s.slips) : TreeIs K C n H p t F :=
  let ⟨dx,o,pa,le,a,b,c,T,e⟩:=T; ⟨dx,o,pa,le,a,b,c,T.of h1 h2 h3,e⟩
theorem TreeIs.part (T : TreeIs K C n H p s F) : Part (fun H' => TreeIs K C n H' p s F) H F:=by
  obtain ⟨dx,o,pa,le,a,b,c,T,rfl⟩:=T
  refine ⟨fun b hb => ?_,fun H' k => ⟨dx,o,pa,le,a,b,c,T.keep fun b u h f => k b u h (.inl f),rfl⟩⟩
  rcases hb with rfl | rfl | rfl | rfl | rfl
  · rw [T.hp]; exact ⟨by simp,by simp⟩
  · rw [T.hd]; exact ⟨by simp,by simp⟩
  · rw [T.ho]; exact ⟨by simp,by simp⟩
  · rw [T.hq]; exact ⟨by simp,by simp⟩
  · rw [T.hl]; exact ⟨by simp,by simp⟩
theorem TreeIs.ins (T : TreeIs K C n H p s F) : ∃ dx fs,H p = some (.ins C dx fs) ∧ ∀ m : Str,m ≠ "opens" → m ≠ "parents" → m ≠ "letters" → fs.lookup m = none:=by
  obtain ⟨dx,o,pa,le,a,b,c,T,rfl⟩:=T
  refine ⟨_,_,T.hp,fun m h1 h2 h3 => ?_⟩
  simp only [List.lookup_cons,beq_eq_false_iff_ne.mpr h1,beq_eq_false_iff_ne.mpr h2,beq_eq_false_iff_ne.mpr h3,List.lookup_nil]
theorem TreeD.putO (T : TreeD K C n H p s dx o pa le kvo kvp kvl) {kv : List (Key × V)} (e2 : t.over = s.over) (e3 : t.slips = s.slips) (h : Num n kv (fun k => (t.due k : Int))) : TreeD K C n (upd H o (.dK kv)) p t dx o pa le kv kvp kvl:=by
  refine ⟨T.n6,?_,?_,upd_same,?_,?_,T.ne,h,by rw [e2]; exact T.dp,by rw [e3]; exact T.sl⟩
  · rw [upd_ne (ne_of T.hp T.ho (by intro z; cases z))]; exact T.hp
  · rw [upd_ne (ne_of T.hd T.ho (by intro z; cases z))]; exact T.hd
  · rw [upd_ne T.ne.symm]; exact T.hq
  · rw [upd_ne (ne_of T.hl T.ho (by intro z; cases z))]; exact T.hl
theorem TreeD.putP (T : TreeD K C n H p s dx o pa le kvo kvp kvl) {kv : List (Key × V)} (e2 : t.due = s.due) (e3 : t.slips = s.slips) (h : DK n kv (fun k => (t.over k).map fun q => V.int (q : Nat))) : TreeD K C n (upd H pa (.dK kv)) p t dx o pa le kvo kv kvl:=by
  refine ⟨T.n6,?_,?_,?_,upd_same,?_,T.ne,by rw [e2]; exact T.no,h,by rw [e3]; exact T.sl⟩
  · rw [upd_ne (ne_of T.hp T.hq (by intro z; cases z))]; exact T.hp
  · rw [upd_ne (ne_of T.hd T.hq (by intro z; cases z))]; exact T.hd
  · rw [upd_ne T.ne]; exact T.ho
  · rw [upd_ne (ne_of T.hl T.hq (by intro z; cases z))]; exact T.hl
theorem TreeD.putL (T : TreeD K C n H p s dx o pa le kvo kvp kvl) {kv : List (List Key × V)} (e2 : t.due = s.due) (e3 : t.over = s.over) (h : Num2 n kv t.slips) : TreeD K C n (upd H le (.dT kv)) p t dx o pa le kvo kvp kv:=by
  refine ⟨T.n6,?_,?_,?_,?_,upd_same,T.ne,by rw [e2]; exact T.no,by rw [e3]; exact T.dp,h⟩
  · rw [upd_ne (ne_of T.hp T.hl (by intro z; cases z))]; exact T.hp
  · rw [upd_ne (ne_of T.hd T.hl (by intro z; cases z))]; exact T.hd
  · rw [upd_ne (ne_of T.ho T.hl (by intro z; cases z))]; exact T.ho
  · rw [upd_ne (ne_of T.hq T.hl (by intro z; cases z))]; exact T.hq
end
theorem same_tup {H : Hp} {a : Addr} {x : HO} (h : H a = none) : Same H (upd H a x):=fun b o z => by rw [upd_ne (ne_of_none z h)]; exact z
section
variable (K : PySem.W.Frag) (C : Addr)
def tqOpen : Sp:=fun vs H Q _ => ∃ n p s F k,vs = [.ref p,.int (k : Nat)] ∧ TreeIs K C n H p s F ∧ Q (.int (s.due k : Nat)) H
def tqAbove : Sp:=fun vs H Q _ => ∃ n p s F k,vs = [.ref p,.int (k : Nat)] ∧ TreeIs K C n H p s F ∧ Q (optV (s.over k)) H
def tqSlips : Sp:=fun vs H Q _ => ∃ n p s F a b,vs = [.ref p,.int (a : Nat),.int (b : Nat)] ∧ TreeIs K C n H p s F ∧ ∀ H',Same H H' → Q (.int (s.slips a b : Nat)) H'
def tqHolds : Sp:=fun vs H Q _ => ∃ n p s F k,vs = [.ref p,.int (k : Nat)] ∧ TreeIs K C n H p s F ∧ Q (.bl (decide (k = 0 ∨ s.over k ≠ none))) H
def taSend : Sp:=fun vs H Q _ => ∃ n p s F a,vs = [.ref p,.int (a : Nat)] ∧ TreeIs K C n H p s F ∧ a < n ∧ ∀ H',TreeIs K C n H' p { s with due:=up s.due a (s.due a + 1) } F → Kept H H' F F → Q .non H'
def taSlip : Sp:=fun vs H Q _ => ∃ n p s F a b,vs = [.ref p,.int (a : Nat),.int (b : Nat)] ∧ TreeIs K C n H p s F ∧ a < n ∧ b < n ∧ ∀ H',TreeIs K C n H' p { s with slips:=up2 s.slips a b (s.slips a b + 1) } F → Kept H H' F F → Q .non H'
def taTake : Sp:=fun vs H Q _ => ∃ n p s F a b,vs = [.ref p,.int (a : Nat),.int (b : Nat)] ∧ TreeIs K C n H p s F ∧ a < n ∧ b < n ∧
  ∀ H',TreeIs K C n H' p (if b ≠ 0 ∧ s.over b = none then { s with over:=up s.over b (some a) } else { s with slips:=up2 s.slips a b (s.slips a b + 1) }) F → Kept H H' F F → Q .non H'
def taBack : Sp:=fun vs H Q _ => ∃ n p s F a b,vs = [.ref p,.int (a : Nat),.int (b : Nat)] ∧ TreeIs K C n H p s F ∧ a < n ∧ b < n ∧ s.slips a b ≠ 0 ∧ s.due a ≠ 0 ∧
  ∀ H',TreeIs K C n H' p { s with slips:=up2 s.slips a b (s.slips a b - 1),due:=up s.due a (s.due a - 1) } F → Kept H H' F F → Q .non H'
def left (s : S) (k : Nat) : S:=match (if s.due k = 0 then s.over k else none) with
  | some q => { s with slips:=up2 s.slips q k (s.slips q k + 1),over:=up s.over k none }
  | none => s
def taLeave : Sp:=fun vs H Q _ => ∃ n p s F k,vs = [.ref p,.int (k : Nat)] ∧ TreeIs K C n H p s F ∧ k < n ∧ (∀ q,s.over k = some q → q < n) ∧
  ∀ H',TreeIs K C n H' p (left s k) F → Kept H H' F F → Q .non H'
end
section
variable {P : Program} {w : World} {K : PySem.W.Frag} {mg : Str → Option Value} {base : Heap} {C : Addr}
structure TreeC (K : PySem.W.Frag) (C : Addr) : Prop where
  cl : Cls K C
  n1 : NoAttr K C "opens"
  n2 : NoAttr K C "parents"
  n3 : NoAttr K C "letters"
theorem sc_t1 : FnScope ["self","hand"] ["self","hand"] (defScope s_Tree_open_of):=⟨rfl,rfl,rfl,by decide +kernel,rfl,by decide +kernel,by decide +kernel⟩
theorem ok_t_open {f : Addr} {fd : FuncData} (F : Fun K "open_of" "Tree.open_of" s_Tree_open_of f fd) (T : TreeC K C) : FnOk P w K mg base CX0 1 f fd ["self","hand"] (tqOpen K C):=by
  refine F.ok sc_t1 (fun vs H Q E h => ?_) (fun cdv A outer s H vs Q E hr h => ?_)
  · obtain ⟨_,_,_,_,_,rfl,_⟩:=h; rfl
  obtain ⟨n,p,s,F,k,rfl,⟨dx,o,pa,le,kvo,kvp,kvl,D,rfl⟩,q⟩:=h
  refine ⟨_,pss_one (ps_ret (pe_dget2 (hu_of hr) (pe_fld (pv 0) rfl) (pv 1) pe_int ⟨rfl,rfl,rfl,rfl⟩)),?_⟩
  refine ⟨_,rfl,p,C,dx,_,_,rfl,D.hp,T.cl,T.n1,rfl,o,rfl,.inl ⟨_,.inl D.ho⟩,_,rfl,_,DGet.k (k:=kI k) D.ho,?_⟩
  show Q ((valV kvo (kI k)).getD (.int 0)) H
  rw [D.no.get]
  exact q
theorem sc_t2 : FnScope ["self","one","other"] ["self","one","other"] (defScope s_Tree_receipts):=⟨rfl,rfl,rfl,by decide +kernel,rfl,by decide +kernel,by decide +kernel⟩
theorem ok_t_slips {f : Addr} {fd : FuncData} (F : Fun K "receipts" "Tree.receipts" s_Tree_receipts f fd) (T : TreeC K C) : FnOk P w K mg base CX0 1 f fd ["self","one","other"] (tqSlips K C):=by
  refine F.ok sc_t2 (fun vs H Q E h => ?_) (fun cdv A outer s H vs Q E hr h => ?_)
  · obtain ⟨_,_,_,_,_,_,rfl,_⟩:=h; rfl
  obtain ⟨n,p,s,F,a,b,rfl,⟨dx,o,pa,le,kvo,kvp,kvl,D,rfl⟩,q⟩:=h
  refine ⟨_,pss_one (ps_ret (pe_dget2 (hu_of hr) (pe_fld (pv 0) rfl) (pe_tup (pa_cons (pv 1) (pa_cons (pv 2) pa_nil))) pe_int ⟨rfl,rfl,rfl,rfl⟩)),?_⟩
  refine ⟨_,rfl,p,C,dx,_,_,rfl,D.hp,T.cl,T.n3,rfl,le,rfl,.inr ⟨_,.inl D.hl⟩,_,rfl,_,rfl,le1000 (by show 2 ≤ 1000; decide),fun t ht => ?_⟩
  have D':=D.same (same_tup (x:=.tup [V.int (a : Nat),V.int (b : Nat)]) ht)
  refine ⟨_,DGet.t (k:=kII a b) D'.hl upd_same,?_⟩
  show Q ((valV kvl (kII a b)).getD (.int 0)) _
  rw [D.sl.get]
  exact q _ (same_tup ht)
theorem sc_t3 : FnScope ["self","one"] ["self","one"] (defScope s_Tree_send):=⟨rfl,rfl,rfl,by decide +kernel,rfl,by decide +kernel,by decide +kernel⟩
theorem ok_t_send {f : Addr} {fd : FuncData} (F : Fun K "send" "Tree.send" s_Tree_send f fd) (T : TreeC K C) (Mo : Mt P w K mg base C "open_of" 1 ["self","hand"] (tqOpen K C)) : FnOk P w K mg base CX0 2 f fd ["self","one"] (taSend K C):=by
  refine F.ok sc_t3 (fun vs H Q E h => ?_) (fun cdv A outer s H vs Q E hr h => ?_)
  · obtain ⟨_,_,_,_,_,rfl,_⟩:=h; rfl
  obtain ⟨n,p,s,F,a,rfl,TI,ha,q⟩:=h
  obtain ⟨dx,o,pa,le,kvo,kvp,kvl,D,rfl⟩:=id TI
  refine ⟨_,pss_one (ps_dput (hu_of hr) (pe_fld (pv 0) rfl) (pv 1) (pe_op op_add (pe_mt Mo T.cl hr (by decide) (pv 0) (pa_cons (pv 1) pa_nil)) pe_int) rfl),?_⟩
  refine ⟨_,rfl,p,dx,_,rfl,D.hp,rfl,_,rfl,n,p,s,_,a,rfl,TI,_,_,rfl,rfl,_,rfl,p,C,dx,_,_,rfl,D.hp,T.cl,T.n1,rfl,_,rfl,o,_,rfl,DPut.k (k:=kI a) D.ho (D.no.small D.n6),?_⟩
  refine q _ ⟨dx,o,pa,le,_,kvp,kvl,D.putO rfl rfl (D.no.put ha _ fun j => ?_),rfl⟩ (Kept.upd _ (.inr (.inr (.inl rfl))))
  show ((up s.due a (s.due a + 1) j : Nat) : Int) = _
  rw [up_at]
  split <;> simp
theorem sc_t4 : FnScope ["self","one","other"] ["self","one","other"] (defScope s_Tree_send_receipt):=⟨rfl,rfl,rfl,by decide +kernel,rfl,by decide +kernel,by decide +kernel⟩
theorem ok_t_slip {f : Addr} {fd : FuncData} (F : Fun K "send_receipt" "Tree.send_receipt" s_Tree_send_receipt f fd) (T : TreeC K C) (Mr : Mt P w K mg base C "receipts" 1 ["self","one","other"] (tqSlips K C)) : FnOk P w K mg base CX0 2 f fd ["self","one","other"] (taSlip K C):=by
  refine F.ok sc_t4 (fun vs H Q E h => ?_) (fun cdv A outer s H vs Q E hr h => ?_)
  · obtain ⟨_,_,_,_,_,_,rfl,_⟩:=h; rfl
  obtain ⟨n,p,s,F,a,b,rfl,TI,ha,hb,q⟩:=h
  obtain ⟨dx,o,pa,le,kvo,kvp,kvl,D,rfl⟩:=id TI
  refine ⟨_,pss_one (ps_dput (hu_of hr) (pe_fld (pv 0) rfl) (pe_tup (pa_cons (pv 1) (pa_cons (pv 2) pa_nil))) (pe_op op_add (pe_mt Mr T.cl hr (by decide) (pv 0) (pa_cons (pv 1) (pa_cons (pv 2) pa_nil))) pe_int) rfl),?_⟩
  refine ⟨_,rfl,p,dx,_,rfl,D.hp,rfl,_,rfl,_,rfl,n,p,s,_,a,b,rfl,TI,fun H1 s1 => ?_⟩
  have D1:=D.same s1
  refine ⟨_,_,rfl,rfl,_,rfl,p,C,dx,_,_,rfl,D1.hp,T.cl,T.n3,rfl,_,rfl,_,rfl,le1000 (by show 2 ≤ 1000; decide),fun t ht => ?_⟩
  have s2:=same_tup (H:=H1) (x:=.tup [V.int (a : Nat),V.int (b : Nat)]) ht
  have D2:=D1.same s2
  refine ⟨le,_,rfl,DPut.t (k:=kII a b) D2.hl upd_same (D.sl.small D.n6),?_⟩
  refine q _ ⟨dx,o,pa,le,_,_,_,D2.putL (t:={ s with slips:=up2 s.slips a b (s.slips a b + 1) }) rfl rfl ?_,rfl⟩ ((Kept.same (s1.trans s2) _).trans (Kept.upd _ (.inr (.inr (.inr (.inr rfl))))))
  exact D.sl.put ha hb (s.slips a b + 1) fun i j => up2_at _ _ _ _ _ _
theorem sc_t5 : FnScope ["self","hand"] ["self","hand"] (defScope s_Tree_holds):=⟨rfl,rfl,rfl,by decide +kernel,rfl,by decide +kernel,by decide +kernel⟩
theorem some_iff {s : S} {k : Nat} : ((s.over k).map fun q => V.int (q : Nat)).isSome = decide (s.over k ≠ none):=by cases s.over k <;> simp
theorem ok_t_holds {f : Addr} {fd : FuncData} (F : Fun K "holds" "Tree.holds" s_Tree_holds f fd) (T : TreeC K C) : FnOk P w K mg base CX0 1 f fd ["self","hand"] (tqHolds K C):=by
  refine F.ok sc_t5 (fun vs H Q E h => ?_) (fun cdv A outer s H vs Q E hr h => ?_)
  · obtain ⟨_,_,_,_,_,rfl,_⟩:=h; rfl
  obtain ⟨n,p,s,F,k,rfl,⟨dx,o,pa,le,kvo,kvp,kvl,D,rfl⟩,q⟩:=h
  refine ⟨_,pss_one (ps_ret (pe_or (pe_cmpR op_eq (pv 1) pe_int (nomark _)) (pe_one (pe_cmp (pc_din (hu_of hr) (pv 1) (pe_fld (pv 0) rfl)) rfl)))),?_⟩
  refine ⟨_,rfl,rfl,_,rfl,?_⟩
  refine ite2 (fun h0 => ?_) (fun h0 => ?_)
  · have h0 : k = 0:=by have:=of_decide_eq_true h0; rw [V.int.injEq] at this; omega
    rw [decide_eq_true (.inl h0)] at q
    exact q
  · have h0 : k ≠ 0:=fun z => h0 (decide_eq_true (by rw [z]; rfl))
    refine ⟨_,rfl,_,rfl,p,C,dx,_,_,rfl,D.hp,T.cl,T.n2,rfl,pa,_,rfl,DGet.k (k:=kI k) D.hq,?_⟩
    rw [D.dp.val,some_iff]
    have e : decide (k = 0 ∨ s.over k ≠ none) = decide (s.over k ≠ none):=by simp [h0]
    rw [e] at q
    exact q
theorem sc_t6 : FnScope ["self","one","other"] ["self","one","other"] (defScope s_Tree_take):=⟨rfl,rfl,rfl,by decide +kernel,rfl,by decide +kernel,by decide +kernel⟩
theorem ok_t_take {f : Addr} {fd : FuncData} (F : Fun K "take" "Tree.take" s_Tree_take f fd) (T : TreeC K C) (Mh : Mt P w K mg base C "holds" 1 ["self","hand"] (tqHolds K C)) (Ms : Mt P w K mg base C "send_receipt" 2 ["self","one","other"] (taSlip K C)) :
    FnOk P w K mg base CX0 3 f fd ["self","one","other"] (taTake K C):=by
  refine F.ok sc_t6 (fun vs H Q E h => ?_) (fun cdv A outer s H vs Q E hr h => ?_)
  · obtain ⟨_,_,_,_,_,_,rfl,_⟩:=h; rfl
  obtain ⟨n,p,s,F,a,b,rfl,TI,ha,hb,q⟩:=h
  obtain ⟨dx,o,pa,le,kvo,kvp,kvl,D,rfl⟩:=id TI
  refine ⟨_,pss_one (ps_if (pt_truth (pe_mt Mh T.cl hr (by decide) (pv 0) (pa_cons (pv 2) pa_nil)) (fun _ => rfl)) (pss_one (ps_expr (pe_mt Ms T.cl hr (by decide) (pv 0) (pa_cons (pv 1) (pa_cons (pv 2) pa_nil)))))
    (pss_one (ps_dput (hu_of hr) (pe_fld (pv 0) rfl) (pv 2) (pv 1) rfl))),?_⟩
  refine ⟨_,rfl,p,dx,_,rfl,D.hp,rfl,_,rfl,n,p,s,_,b,rfl,TI,_,rfl,?_⟩
  refine ite2 (fun h0 => ?_) (fun h0 => ?_)
  · have h0:=of_decide_eq_true h0
    refine ⟨_,rfl,p,dx,_,rfl,D.hp,rfl,_,rfl,_,rfl,n,p,s,_,a,b,rfl,TI,ha,hb,fun H' T' k' => q H' ?_ k'⟩
    rw [if_neg (by rintro ⟨z1,z2⟩; rcases h0 with z | z <;> contradiction)]
    exact T'
  · have h0 : b ≠ 0 ∧ s.over b = none:=by
      refine ⟨fun z => h0 (decide_eq_true (.inl z)),?_⟩
      cases e : s.over b with
      | none => rfl
      | some x => exact absurd (decide_eq_true (.inr (by rw [e]; simp))) h0
    rw [if_pos h0] at q
    refine ⟨_,rfl,_,rfl,p,C,dx,_,_,rfl,D.hp,T.cl,T.n2,rfl,_,rfl,pa,_,rfl,DPut.k (k:=kI b) D.hq (D.dp.small D.n6),?_⟩
    refine q _ ⟨dx,o,pa,le,_,_,_,D.putP rfl rfl (D.dp.put hb _ fun j => ?_),rfl⟩ (Kept.upd _ (.inr (.inr (.inr (.inl rfl)))))
    show ((up s.over b (some a) j).map fun q => V.int (q : Nat)) = _
    rw [up_at]
    split <;> rfl
theorem sc_t7 : FnScope ["self","one","other"] ["self","one","other"] (defScope s_Tree_back):=⟨rfl,rfl,rfl,by decide +kernel,rfl,by decide +kernel,by decide +kernel⟩
theorem ok_t_back {f : Addr} {fd : FuncData} (F : Fun K "back" "Tree.back" s_Tree_back f fd) (T : TreeC K C) (Mo : Mt P w K mg base C "open_of" 1 ["self","hand"] (tqOpen K C)) (Mr : Mt P w K mg base C "receipts" 1 ["self","one","other"] (tqSlips K C)) :
    FnOk P w K mg base CX0 2 f fd ["self","one","other"] (taBack K C):=by
  refine F.ok sc_t7 (fun vs H Q E h => ?_) (fun cdv A outer s H vs Q E hr h => ?_)
  · obtain ⟨_,_,_,_,_,_,rfl,_⟩:=h; rfl
  obtain ⟨n,p,s,F,a,b,rfl,TI,ha,hb,h1,h2,q⟩:=h
  obtain ⟨dx,o,pa,le,kvo,kvp,kvl,D,rfl⟩:=id TI
  refine ⟨_,pss_cons (ps_dput (hu_of hr) (pe_fld (pv 0) rfl) (pe_tup (pa_cons (pv 1) (pa_cons (pv 2) pa_nil))) (pe_op op_sub (pe_mt Mr T.cl hr (by decide) (pv 0) (pa_cons (pv 1) (pa_cons (pv 2) pa_nil))) pe_int) rfl)
    (pss_one (ps_dput (hu_of hr) (pe_fld (pv 0) rfl) (pv 1) (pe_op op_sub (pe_mt Mo T.cl hr (by decide) (pv 0) (pa_cons (pv 1) pa_nil)) pe_int) rfl)),?_⟩
  refine ⟨_,rfl,p,dx,_,rfl,D.hp,rfl,_,rfl,_,rfl,n,p,s,_,a,b,rfl,TI,fun H1 s1 => ?_⟩
  have D1:=D.same s1
  refine ⟨_,_,rfl,rfl,_,rfl,p,C,dx,_,_,rfl,D1.hp,T.cl,T.n3,rfl,_,rfl,_,rfl,le1000 (by show 2 ≤ 1000; decide),fun t ht => ?_⟩
  have s2:=same_tup (H:=H1) (x:=.tup [V.int (a : Nat),V.int (b : Nat)]) ht
  have D2:=D1.same s2
  refine ⟨le,_,rfl,DPut.t (k:=kII a b) D2.hl upd_same (D.sl.small D.n6),?_⟩
  have ev : ((s.slips a b : Nat) : Int) - 1 = ((s.slips a b - 1 : Nat) : Int):=by omega
  have D3:=D2.putL (t:={ s with slips:=up2 s.slips a b (s.slips a b - 1) }) rfl rfl (D.sl.put ha hb (s.slips a b - 1) fun i j => up2_at _ _ _ _ _ _)
  rw [← ev] at D3
  have T3 : TreeIs K C n _ p _ _:=⟨dx,o,pa,le,_,_,_,D3,rfl⟩
  refine ⟨_,rfl,p,dx,_,rfl,D3.hp,rfl,_,rfl,n,p,_,_,a,rfl,T3,_,_,rfl,rfl,_,rfl,p,C,dx,_,_,rfl,D3.hp,T.cl,T.n1,rfl,_,rfl,o,_,rfl,DPut.k (k:=kI a) D3.ho (D.no.small D.n6),?_⟩
  refine q _ ⟨dx,o,pa,le,_,_,_,D3.putO (t:={ s with slips:=up2 s.slips a b (s.slips a b - 1),due:=up s.due a (s.due a - 1) }) rfl rfl (D.no.put ha _ fun j => ?_),rfl⟩
    (((Kept.same (s1.trans s2) _).trans (Kept.upd _ (.inr (.inr (.inr (.inr rfl)))))).trans (Kept.upd _ (.inr (.inr (.inl rfl)))))
  show ((up s.due a (s.due a - 1) j : Nat) : Int) = _
  rw [up_at]
  split
  · show ((s.due a - 1 : Nat) : Int) = ((s.due a : Nat) : Int) - 1
    omega
  · rfl
theorem sc_t8 : FnScope ["self","hand"] ["self","hand"] (defScope s_Tree_leave_if_done):=⟨rfl,rfl,rfl,by decide +kernel,rfl,by decide +kernel,by decide +kernel⟩
theorem ok_t_leave {f : Addr} {fd : FuncData} (F : Fun K "leave_if_done" "Tree.leave_if_done" s_Tree_leave_if_done f fd) (T : TreeC K C) (Mo : Mt P w K mg base C "open_of" 1 ["self","hand"] (tqOpen K C)) (Ms : Mt P w K mg base C "send_receipt" 2 ["self","one","other"] (taSlip K C)) :
    FnOk P w K mg base CX0 3 f fd ["self","hand"] (taLeave K C):=by
  refine F.ok sc_t8 (fun vs H Q E h => ?_) (fun cdv A outer s H vs Q E hr h => ?_)
  · obtain ⟨_,_,_,_,_,rfl,_⟩:=h; rfl
  obtain ⟨n,p,s,F,k,rfl,TI,hk,hq,q⟩:=h
  obtain ⟨dx,o,pa,le,kvo,kvp,kvl,D,rfl⟩:=id TI
  refine ⟨_,pss_one (ps_if (PW.pt (pw_and (pt_cmp (pc_din (hu_of hr) (pv 1) (pe_fld (pv 0) rfl)) rfl) (pw_and1 (pt_cmpR op_eq (pe_mt Mo T.cl hr (by decide) (pv 0) (pa_cons (pv 1) pa_nil)) pe_int (nomark _)))))
    (pss_one (ps_expr (pe_mt Ms T.cl hr (by decide) (pv 0) (pa_cons (pe_dpop1 (pe_fld (pv 0) rfl) (pv 1) ⟨rfl,rfl,rfl,rfl⟩) (pa_cons (pv 1) pa_nil))))) pss_nil),?_⟩
  refine ⟨_,rfl,_,rfl,p,C,dx,_,_,rfl,D.hp,T.cl,T.n2,rfl,pa,_,rfl,DGet.k (k:=kI k) D.hq,_,rfl,?_⟩
  rw [D.dp.val,some_iff]
  have no : (s.over k = none ∨ s.due k ≠ 0) → left s k = s:=fun h => by
    unfold left
    rcases h with h | h
    · rw [h]; split <;> simp_all
    · rw [if_neg h]
  refine ite2 (fun h0 => ?_) (fun h0 => ?_)
  · obtain ⟨x,hx⟩:=Option.ne_none_iff_exists'.mp (of_decide_eq_true h0)
    refine ⟨_,rfl,p,dx,_,rfl,D.hp,rfl,_,rfl,n,p,s,_,k,rfl,TI,rfl,_,rfl,?_⟩
    refine ite2 (fun h1 => ?_) (fun h1 => ?_)
    · have h1 : s.due k = 0:=by have:=of_decide_eq_true h1; rw [V.int.injEq] at this; omega
      refine ⟨_,rfl,p,dx,_,rfl,D.hp,rfl,_,rfl,p,C,dx,_,_,rfl,D.hp,T.cl,T.n2,rfl,pa,rfl,.inl ⟨_,.inl D.hq⟩,_,rfl,kvp,kI k,V.int (x : Nat),D.hq,rfl,?_,?_⟩
      · rw [D.dp.val,hx]; rfl
      have D1:=D.putP (t:={ s with over:=up s.over k none }) rfl rfl (D.dp.drop k fun j => by
        show ((up s.over k none j).map fun q => V.int (q : Nat)) = _
        rw [up_at]
        split <;> rfl)
      have T1 : TreeIs K C n _ p _ _:=⟨dx,o,pa,le,_,_,_,D1,rfl⟩
      refine ⟨_,rfl,n,p,_,_,x,k,rfl,T1,hq x hx,hk,fun H' T' k' => ?_⟩
      refine q H' ?_ ((Kept.upd _ (.inr (.inr (.inr (.inl rfl))))).trans k')
      unfold left
      rw [if_pos h1,hx]
      exact T'
    · have h1 : s.due k ≠ 0:=fun z => h1 (decide_eq_true (by rw [z]; rfl))
      refine q H ?_ (Kept.refl _ _)
      rw [no (.inr h1)]; exact TI
  · have h0 : s.over k = none:=by
      cases e : s.over k with
      | none => rfl
      | some x => exact absurd (decide_eq_true (by rw [e]; simp)) h0
    refine iteF (q H ?_ (Kept.refl _ _))
    rw [no (.inl h0)]; exact TI
def tInit (K : PySem.W.Frag) (C : Addr) : Sp:=fun vs H Q _ => ∃ (n : Nat) (p dx : Addr),vs = [.ref p] ∧ n ≤ 6 ∧ H p = some (.ins C dx []) ∧ H dx = some (.own p) ∧
  ∀ H' F,TreeIs K C n H' p new F → (∀ b o,H b = some o → b ≠ p → H' b = some o) → (∀ b,F b → b = p ∨ b = dx ∨ H b = none) → Q .non H'
theorem sc_t9 : FnScope ["self"] ["self"] (defScope s_Tree___init__):=⟨rfl,rfl,rfl,by decide +kernel,rfl,by decide +kernel,by decide +kernel⟩
theorem ok_t_init {f : Addr} {fd : FuncData} (F : Fun K "__init__" "Tree.__init__" s_Tree___init__ f fd) (T : TreeC K C) : FnOk P w K mg base CX0 1 f fd ["self"] (tInit K C):=by
  refine F.ok sc_t9 (fun vs H Q E h => ?_) (fun cdv A outer s H vs Q E hr h => ?_)
  · obtain ⟨_,_,_,rfl,_⟩:=h; rfl
  obtain ⟨n,p,dx,rfl,hn,hp,hdx,q⟩:=h
  refine ⟨_,pss_cons (ps_fld (pv 0) pe_dnewK rfl) (pss_cons (ps_fld (pv 0) pe_dnewK rfl) (pss_one (ps_fld (pv 0) pe_dnewT rfl))),?_⟩
  intro o ho
  have s1:=same_tup (x:=.dK []) ho
  refine ⟨_,rfl,p,C,dx,_,rfl,s1 _ _ hp,T.cl,T.n1,by decide,fun pa hpa => ?_⟩
  have e1 : putF "opens" (.ref o) [] = ([("opens",V.ref o)] : List (Str × V)):=rfl
  rw [e1] at hpa ⊢
  have n1 : pa ≠ p:=fun z => by rw [z,upd_same] at hpa; cases hpa
  have hpa' : upd H o (.dK []) pa = none:=by rw [upd_ne n1] at hpa; exact hpa
  have s2:=same_tup (x:=.dK []) hpa
  refine ⟨_,rfl,p,C,dx,_,rfl,s2 _ _ upd_same,T.cl,T.n2,(show 1 < 1000 by decide),fun le hle => ?_⟩
  have e2 : putF "parents" (.ref pa) ([("opens",V.ref o)] : List (Str × V)) = ([("opens",V.ref o),("parents",V.ref pa)] : List (Str × V)):=rfl
  rw [e2] at hle ⊢
  have n2 : le ≠ p:=fun z => by rw [z,upd_same] at hle; cases hle
  have s3:=same_tup (x:=.dT []) hle
  refine ⟨_,rfl,p,C,dx,_,rfl,s3 _ _ upd_same,T.cl,T.n3,(show 2 < 1000 by decide),?_⟩
  have e3 : putF "letters" (.ref le) ([("opens",V.ref o),("parents",V.ref pa)] : List (Str × V)) = ([("opens",V.ref o),("parents",V.ref pa),("letters",V.ref le)] : List (Str × V)):=rfl
  rw [e3]
  have no_p : o ≠ p:=fun z => by rw [z,hp] at ho; cases ho
  have nd_p : dx ≠ p:=ne_of hdx hp (by intro z; cases z)
  have hod : o ≠ dx:=fun z => by rw [z,hdx] at ho; cases ho
  have hpad : pa ≠ dx:=fun z => by rw [z,upd_ne (Ne.symm hod)] at hpa'; rw [hdx] at hpa'; cases hpa'
  have hpao : pa ≠ o:=fun z => by rw [z,upd_same] at hpa'; cases hpa'
  have hle1 : upd (upd (upd H o (.dK [])) p (.ins C dx [("opens",V.ref o)])) pa (.dK []) le = none:=by rw [upd_ne n2] at hle; exact hle
  have hlepa : le ≠ pa:=fun z => by rw [z,upd_same] at hle1; cases hle1
  rw [upd_ne hlepa,upd_ne n2] at hle1
  have hleo : le ≠ o:=fun z => by rw [z,upd_same] at hle1; cases hle1
  rw [upd_ne hleo] at hle1
  have hled : le ≠ dx:=fun z => by rw [z,hdx] at hle1; cases hle1
  have hpa0 : H pa = none:=by rw [upd_ne hpao] at hpa'; exact hpa'
  refine q _ _ ⟨dx,o,pa,le,[],[],[],⟨hn,upd_same,?_,?_,?_,?_,Ne.symm hpao,Num.nil n,DK.nil n,Num2.nil n⟩,rfl⟩ (fun b u hb nb => ?_) (fun b hb => ?_)
  · rw [upd_ne nd_p,upd_ne (Ne.symm hled),upd_ne nd_p,upd_ne (Ne.symm hpad),upd_ne nd_p,upd_ne (Ne.symm hod)]; exact hdx
  · rw [upd_ne no_p,upd_ne (Ne.symm hleo),upd_ne no_p,upd_ne (Ne.symm hpao),upd_ne no_p,upd_same]
  · rw [upd_ne n1,upd_ne (Ne.symm hlepa),upd_ne n1,upd_same]
  · rw [upd_ne n2,upd_same]
  · rw [upd_ne nb,upd_ne (ne_of_none hb hle1),upd_ne nb,upd_ne (ne_of_none hb hpa0),upd_ne nb,upd_ne (ne_of_none hb ho)]; exact hb
  · rcases hb with z | z | z | z | z
    · exact .inl z
    · exact .inr (.inl z)
    · rw [z]; exact .inr (.inr ho)
    · rw [z]; exact .inr (.inr hpa0)
    · rw [z]; exact .inr (.inr hle1)
end
end Qh
set_option Elab.async false
set_option linter.all false
set_option maxRecDepth 100000
namespace Qh
open PySem L2 Tx
section
variable {P : Program} {w : World} {K : PySem.W.Frag} {mg : Str → Option Value} {base : Heap}
def spTwos : Sp:=fun vs H Q _ => ∃ (t u : Nat),vs = [.int ((2 ^ t * u : Nat) : Int)] ∧ u % 2 = 1 ∧ Q (.int (t : Nat)) H
theorem sc_twos : FnScope ["upper"] ["upper"] (defScope s_twos_in):=⟨rfl,rfl,rfl,by decide +kernel,rfl,by decide +kernel,by decide +kernel⟩
theorem bits_low {t u : Nat} (hu : u % 2 = 1) : ((Builtin.Int.intBits (Builtin.bitAnd ((2 ^ t * u : Nat) : Int) (-((2 ^ t * u : Nat) : Int))) : Nat) : Int) - 1 = (t : Int):=by
  have hp : 0 < 2 ^ t * u:=Nat.mul_pos (Nat.two_pow_pos t) (by omega)
  have lb:=lowbit u hu t
  generalize hx : 2 ^ t * u = x at hp lb ⊢
  have e1 : Builtin.bitAnd (x : Int) (-(x : Int)) = (2 ^ t : Nat):=by
    rw [PyProof.Rows.bitAnd_pn (by omega) (show ¬ (0 : Int) ≤ -(x : Int) by omega)]
    have e2 : (Builtin.bitNot (-(x : Int))).toNat = x - 1:=by
      show (-(-(x : Int)) - 1).toNat = x - 1
      omega
    rw [e2,Int.toNat_natCast]
    have h1 : (x &&& (x - 1)) ≤ x:=Nat.and_le_left
    generalize (x &&& (x - 1)) = y at h1 lb ⊢
    omega
  rw [e1]
  have p2:=Nat.two_pow_pos t
  unfold Builtin.Int.intBits
  have hne : ¬ ((((2 ^ t : Nat) : Int) == 0) = true):=by rw [beq_iff_eq]; omega
  rw [if_neg hne,Int.natAbs_natCast,Nat.log2_two_pow]
  omega
theorem ok_twos {f : Addr} {fd : FuncData} (F : Fun K "twos_in" "twos_in" s_twos_in f fd) : FnOk P w K mg base CX0 1 f fd ["upper"] spTwos:=by
  refine F.ok sc_twos (fun vs H Q E h => ?_) (fun cdv A outer s H vs Q E hr h => ?_)
  · obtain ⟨_,_,rfl,_⟩:=h; rfl
  obtain ⟨t,u,rfl,hu,q⟩:=h
  refine ⟨_,pss_one (ps_ret (pe_op op_sub (pe_bm0 PySem.F.plainAttrs_int PySem.F.slot_int_bit_length PySem.F.type_int_bit_length mt_bits (pe_op op_and (pv 0) (pe_un un_neg (pv 0)))) pe_int)),?_⟩
  refine ⟨_,rfl,_,rfl,_,rfl,_,_,rfl,rfl,rfl,_,rfl,rfl,_,_,rfl,rfl,?_⟩
  show Q (.int (((Builtin.Int.intBits (Builtin.bitAnd ((2 ^ t * u : Nat) : Int) (-((2 ^ t * u : Nat) : Int))) : Nat) : Int) - 1)) H
  rw [bits_low hu]
  exact q
def spForm (K : PySem.W.Frag) : Sp:=fun vs H Q _ => ∃ (U Pw : Nat),vs = [.int U,.int Pw] ∧ (U = 0 → ∀ a,TupS K H a [.int 0,.int 0] → Q (.ref a) H) ∧
  (∀ t u,u % 2 = 1 → U = 2 ^ t * u → t ≤ Pw ∧ ∀ a H',H a = none → Same H H' → H' a = some (.tup [.int (u : Nat),.int ((Pw - t : Nat) : Int)]) → Q (.ref a) H')
theorem sc_form : FnScope ["upper","power","spare"] ["upper","power"] (defScope s_in_one_form):=⟨rfl,rfl,rfl,by decide +kernel,rfl,by decide +kernel,by decide +kernel⟩
structure ModT (K : PySem.W.Frag) (mg : Str → Option Value) (x : Str) (xs : List V) : Prop where
  ex : ∃ a,mg x = some (.ref a) ∧ TupK K a xs
theorem ok_form {f : Addr} {fd : FuncData} (F : Fun K "in_one_form" "in_one_form" s_in_one_form f fd) (gmin : mg "min" = none) (N : ModT K mg "NOTHING" [.int 0,.int 0]) (Ft : Fn P w K mg base "twos_in" 1 ["upper"] spTwos) : FnOk P w K mg base CX0 2 f fd ["upper","power"] (spForm K):=by
  refine F.ok sc_form (fun vs H Q E h => ?_) (fun cdv A outer s H vs Q E hr h => ?_)
  · obtain ⟨_,_,rfl,_⟩:=h; rfl
  obtain ⟨U,Pw,rfl,q0,q1⟩:=h
  obtain ⟨z,hz,tz⟩:=N.ex
  refine ⟨_,pss_cons (ps_if (pt_cmpR op_eq (pv 0) pe_int (nomark _)) (pss_one (ps_ret (pe_glob (v:=.ref z) (by rfl) hz rfl))) pss_nil)
    (pss_cons (ps_set (i:=2) sc_form.nd rfl (Or.inl rfl) (pe_callB (call_min2 rfl) (by rfl) gmin (by decide +kernel) (pa_cons (pe_fn Ft hr (by decide) (pa_cons (pv 0) pa_nil)) (pa_cons (pv 1) pa_nil))))
    (pss_one (ps_ret (pe_tup (pa_cons (pe_op op_shr (pv 0) (pv 2)) (pa_cons (pe_op op_sub (pv 1) (pv 2)) pa_nil)))))),?_⟩
  refine ⟨_,rfl,rfl,_,rfl,?_⟩
  refine ite2 (fun h0 => ?_) (fun h0 => ?_)
  · have h0 : U = 0:=by have:=of_decide_eq_true h0; rw [V.int.injEq] at this; omega
    exact q0 h0 z (.inr tz)
  · have h0 : U ≠ 0:=fun z => h0 (decide_eq_true (by rw [z]; rfl))
    obtain ⟨t,u,hu,e⟩:=odd_part U h0
    obtain ⟨ht,q⟩:=q1 t u hu e
    refine ⟨_,rfl,t,u,by rw [e]; rfl,hu,_,rfl,_,_,rfl,?_⟩
    have em : (if ((Pw : Nat) : Int) < ((t : Nat) : Int) then ((Pw : Nat) : Int) else ((t : Nat) : Int)) = ((t : Nat) : Int):=if_neg (by omega)
    rw [em]
    refine ⟨_,rfl,_,rfl,_,_,rfl,rfl,(by show (0 : Int) ≤ ((t : Nat) : Int); omega),_,rfl,_,rfl,_,_,rfl,rfl,le1000 (by show 2 ≤ 1000; decide),fun a ha => ?_⟩
    refine q a _ ha (fun b o z => by rw [upd_ne (ne_of_none z ha)]; exact z) ?_
    rw [upd_same]
    have e2 : ((U : Nat) : Int) / 2 ^ t = ((u : Nat) : Int):=by
      rw [e]
      have : ((2 ^ t * u : Nat) : Int) = (2 ^ t : Int) * (u : Int):=by simp
      rw [this,Int.mul_ediv_cancel_left _ (by have:=Int.pow_pos (n:=(2 : Int)) (m:=t) (by decide); omega)]
    have e3 : ((Pw : Nat) : Int) - ((t : Nat) : Int) = ((Pw - t : Nat) : Int):=by omega
    show some (HO.tup [V.int (((U : Nat) : Int) / 2 ^ t),V.int (((Pw : Nat) : Int) - ((t : Nat) : Int))]) = _
    rw [e2,e3]
def spHalf (K : PySem.W.Frag) : Sp:=fun vs H Q _ => ∃ (v : V) (x m : Nat),vs = [v] ∧ WV K H v x ∧ x ≠ 0 ∧ x ≤ 2 ^ 90 ∧ m < 90 ∧ 2 ^ (90 - m) ∣ x ∧ ∀ v' H',Same H H' → WV K H' v' (x / 2) → Q v' H'
theorem sc_half : FnScope ["weight"] ["weight"] (defScope s_half_of):=⟨rfl,rfl,rfl,by decide +kernel,rfl,by decide +kernel,by decide +kernel⟩
theorem pairAt0 (x y : V) : atI [x,y] 0 = some x:=atI_nat (xs:=[x,y]) (j:=0) rfl
theorem pairAt1 (x y : V) : atI [x,y] 1 = some y:=atI_nat (xs:=[x,y]) (j:=1) rfl
theorem ok_half {f : Addr} {fd : FuncData} (F : Fun K "half_of" "half_of" s_half_of f fd) (Ff : Fn P w K mg base "in_one_form" 2 ["upper","power"] (spForm K)) : FnOk P w K mg base CX0 3 f fd ["weight"] (spHalf K):=by
  refine F.ok sc_half (fun vs H Q E h => ?_) (fun cdv A outer s H vs Q E hr h => ?_)
  · obtain ⟨_,_,_,rfl,_⟩:=h; rfl
  obtain ⟨v,x,m,rfl,⟨a,u,p,rfl,ht,wr⟩,hx0,hx,hm,hd,q⟩:=h
  replace ht:=ht.sq
  obtain ⟨hp,_⟩:=wr.small hx (by omega) hd
  refine ⟨_,pss_one (ps_ret (pe_fn Ff hr (by decide) (pa_cons (pe_ix ix_tup (pv 0) pe_int (fun _ _ => rfl)) (pa_cons (pe_op op_add (pe_ix ix_tup (pv 0) pe_int (fun _ _ => rfl)) pe_int) pa_nil)))),?_⟩
  refine ⟨_,rfl,a,_,_,_,rfl,rfl,ht,pairAt0 _ _,_,rfl,a,_,_,_,rfl,rfl,ht,pairAt1 _ _,_,_,rfl,rfl,u,p + 1,rfl,fun z => ?_,fun t o ho e => ?_⟩
  · rcases wr.is with ⟨z',_⟩ | ⟨z',_⟩
    · exact absurd z' hx0
    · omega
  · have wh:=wr.half hx0 (by omega)
    have hu : u % 2 = 1:=by
      rcases wr.is with ⟨z',_⟩ | ⟨z',_⟩
      · exact absurd z' hx0
      · exact z'
    obtain ⟨e1,e2⟩:=odd_part_unique (s:=0) (t:=t) hu ho (by rw [Nat.pow_zero,Nat.one_mul]; exact e)
    subst e1 e2
    exact ⟨Nat.zero_le _,fun b H' hb s' h' => q _ H' s' ⟨b,u,p + 1,rfl,.inl h',wh⟩⟩
def spUpper (K : PySem.W.Frag) : Sp:=fun vs H Q _ => ∃ (a : Addr) (u p Pw : Nat),vs = [.ref a,.int Pw] ∧ SqT K H a [.int u,.int p] ∧ p ≤ Pw ∧ Pw ≤ 90 ∧ u < 2 ^ 64 ∧ Q (.int ((u * 2 ^ (Pw - p) : Nat) : Int)) H
theorem sc_upper : FnScope ["weight","power"] ["weight","power"] (defScope s_upper_at):=⟨rfl,rfl,rfl,by decide +kernel,rfl,by decide +kernel,by decide +kernel⟩
theorem ok_upper {f : Addr} {fd : FuncData} (F : Fun K "upper_at" "upper_at" s_upper_at f fd) : FnOk P w K mg base CX0 1 f fd ["weight","power"] (spUpper K):=by
  refine F.ok sc_upper (fun vs H Q E h => ?_) (fun cdv A outer s H vs Q E hr h => ?_)
  · obtain ⟨_,_,_,_,rfl,_⟩:=h; rfl
  obtain ⟨a,u,p,Pw,rfl,ht,hp,hP,hu,q⟩:=h
  refine ⟨_,pss_one (ps_ret (pe_op op_shl (pe_ix ix_tup (pv 0) pe_int (fun _ _ => rfl)) (pe_op op_sub (pv 1) (pe_ix ix_tup (pv 0) pe_int (fun _ _ => rfl))))),?_⟩
  refine ⟨_,rfl,a,_,_,_,rfl,rfl,ht,pairAt0 _ _,_,rfl,_,rfl,a,_,_,_,rfl,rfl,ht,pairAt1 _ _,_,_,rfl,rfl,_,_,rfl,rfl,⟨?_,?_,?_⟩,?_⟩
  · show (0 : Int) ≤ ((Pw : Nat) : Int) - ((p : Nat) : Int); omega
  · show ((Pw : Nat) : Int) - ((p : Nat) : Int) ≤ 1000000; omega
  · rw [Int.natAbs_natCast]; exact hu
  · show Q (.int (((u : Nat) : Int) * 2 ^ (((Pw : Nat) : Int) - ((p : Nat) : Int)).toNat)) H
    have e : (((Pw : Nat) : Int) - ((p : Nat) : Int)).toNat = Pw - p:=by omega
    rw [e,show ((u : Nat) : Int) * 2 ^ (Pw - p) = ((u * 2 ^ (Pw - p) : Nat) : Int) by simp]
    exact q
def spSum (K : PySem.W.Frag) : Sp:=fun vs H Q _ => ∃ (v v' : V) (x y m : Nat),vs = [v,v'] ∧ WV K H v x ∧ WV K H v' y ∧ x + y ≤ 2 ^ 90 ∧ m ≤ 63 ∧ 2 ^ (90 - m) ∣ x ∧ 2 ^ (90 - m) ∣ y ∧ ∀ v'' H',Same H H' → WV K H' v'' (x + y) → Q v'' H'
theorem sc_sum : FnScope ["one","other","power"] ["one","other"] (defScope s_sum_of):=⟨rfl,rfl,rfl,by decide +kernel,rfl,by decide +kernel,by decide +kernel⟩
theorem ok_sum {f : Addr} {fd : FuncData} (F : Fun K "sum_of" "sum_of" s_sum_of f fd) (gmax : mg "max" = none) (Ff : Fn P w K mg base "in_one_form" 2 ["upper","power"] (spForm K)) (Fu : Fn P w K mg base "upper_at" 1 ["weight","power"] (spUpper K)) : FnOk P w K mg base CX0 3 f fd ["one","other"] (spSum K):=by
  refine F.ok sc_sum (fun vs H Q E h => ?_) (fun cdv A outer s H vs Q E hr h => ?_)
  · obtain ⟨_,_,_,_,_,rfl,_⟩:=h; rfl
  obtain ⟨v,v',x,y,m,rfl,⟨a,u,p,rfl,ht,wr⟩,⟨b,u',p',rfl,ht',wr'⟩,hxy,hm,hd,hd',q⟩:=h
  replace ht:=ht.sq
  replace ht':=ht'.sq
  obtain ⟨hp,hu⟩:=wr.small (by omega) (by omega) hd
  obtain ⟨hp',hu'⟩:=wr'.small (by omega) (by omega) hd'
  have h64 : (2 : Nat) ^ m < 2 ^ 64:=Nat.pow_lt_pow_right (by decide) (by omega)
  refine ⟨_,pss_cons (ps_set (i:=2) sc_sum.nd rfl (Or.inl rfl) (pe_callB (call_max2 rfl) (by rfl) gmax (by decide +kernel) (pa_cons (pe_ix ix_tup (pv 0) pe_int (fun _ _ => rfl)) (pa_cons (pe_ix ix_tup (pv 1) pe_int (fun _ _ => rfl)) pa_nil))))
    (pss_one (ps_ret (pe_fn Ff hr (by decide) (pa_cons (pe_op op_add (pe_fn Fu hr (by decide) (pa_cons (pv 0) (pa_cons (pv 2) pa_nil))) (pe_fn Fu hr (by decide) (pa_cons (pv 1) (pa_cons (pv 2) pa_nil)))) (pa_cons (pv 2) pa_nil))))),?_⟩
  refine ⟨_,rfl,a,_,_,_,rfl,rfl,ht,pairAt1 _ _,_,rfl,b,_,_,_,rfl,rfl,ht',pairAt1 _ _,_,_,rfl,?_⟩
  have em : (if ((p' : Nat) : Int) > ((p : Nat) : Int) then ((p' : Nat) : Int) else ((p : Nat) : Int)) = ((max p p' : Nat) : Int):=by split <;> omega
  rw [em]
  refine ⟨_,rfl,_,rfl,a,u,p,max p p',rfl,ht,Nat.le_max_left _ _,by omega,by omega,_,rfl,_,rfl,b,u',p',max p p',rfl,ht',Nat.le_max_right _ _,by omega,by omega,_,_,rfl,rfl,_,rfl,u * 2 ^ (max p p' - p) + u' * 2 ^ (max p p' - p'),max p p',?_,fun z => ?_,fun t o ho e => ?_⟩
  · show [V.int (((u * 2 ^ (max p p' - p) : Nat) : Int) + ((u' * 2 ^ (max p p' - p') : Nat) : Int)),V.int ((max p p' : Nat) : Int)] = _
    rw [← Int.natCast_add]
  · intro c hc
    have e1:=wr.at_ (Nat.le_max_left p p') (by omega)
    have e2:=wr'.at_ (Nat.le_max_right p p') (by omega)
    have z1 : u * 2 ^ (max p p' - p) = 0:=by omega
    have z2 : u' * 2 ^ (max p p' - p') = 0:=by omega
    rw [z1,Nat.mul_zero] at e1
    rw [z2,Nat.mul_zero] at e2
    refine q _ H (Same.refl _) ⟨c,0,0,rfl,hc,⟨.inl ⟨by omega,rfl,rfl⟩⟩⟩
  · obtain ⟨h1,h2⟩:=wr.sum wr' rfl hxy (by omega) (by omega) ho e
    exact ⟨h1,fun c H' hc s' h' => q _ H' s' ⟨c,o,max p p' - t,rfl,.inl h',h2⟩⟩
end
end Qh
set_option Elab.async false
set_option linter.all false
set_option maxRecDepth 100000
namespace Qh
open PySem L2 Tx
def HeldV (K : PySem.W.Frag) (H : Hp) (o : Option V) (x : Nat) : Prop:=match o with
  | none => x = 0
  | some v => WV K H v x
def RowV (K : PySem.W.Frag) (H : Hp) (o : Option Addr) (xs : List Nat) : Prop:=match o with
  | none => xs = []
  | some l => ∃ vs,H l = some (.lst vs) ∧ WL K H vs xs
theorem HeldV.keep {K : PySem.W.Frag} {H H' : Hp} {o : Option V} {x : Nat} (h : HeldV K H o x) (k : ∀ b ys,H b = some (.tup ys) → H' b = some (.tup ys)) : HeldV K H' o x:=by
  cases o with
  | none => exact h
  | some v => exact WV.keep h k
theorem RowV.keep {K : PySem.W.Frag} {H H' : Hp} {o : Option Addr} {xs : List Nat} (h : RowV K H o xs) (k : ∀ b ys,H b = some (.tup ys) → H' b = some (.tup ys)) (kl : ∀ l vs,o = some l → H l = some (.lst vs) → H' l = some (.lst vs)) : RowV K H' o xs:=by
  cases o with
  | none => exact h
  | some l => obtain ⟨vs,h1,h2⟩:=h; exact ⟨vs,kl l vs rfl h1,WL.keep h2 k⟩
theorem upd_k {H : Hp} {z b : Addr} {x u u0 : HO} (hz : H z = some u0) (hb : H b = some u) (d : u ≠ u0) : upd H z x b = some u:=by rw [upd_ne (ne_of hb hz d)]; exact hb
structure WtsD (K : PySem.W.Frag) (C : Addr) (n : Nat) (H : Hp) (p : Addr) (s : S) (dx kd wd hd : Addr) (kvk : List (Key × V)) (kvw : List (List Key × V)) (kvh : List (Key × V)) (la : Nat → Nat → Option Addr) (lh : Nat → Option Addr) : Prop where
  n6 : n ≤ 6
  hp : H p = some (.ins C dx [("kept",.ref kd),("on_works",.ref wd),("on_way_home",.ref hd)])
  hx : H dx = some (.own p)
  hk : H kd = some (.dK kvk)
  hw : H wd = some (.dT kvw)
  hh : H hd = some (.dK kvh)
  ne : kd ≠ hd
  tk : ∃ f,DK n kvk f ∧ ∀ k,HeldV K H (f k) (s.held k)
  tw : DT n kvw (fun a b => (la a b).map V.ref)
  th : DK n kvh (fun k => (lh k).map V.ref)
  lw : ∀ a b,RowV K H (la a b) (s.rows a b)
  lo : ∀ k,RowV K H (lh k) (s.hw k)
  i1 : ∀ a b c d l,la a b = some l → la c d = some l → a = c ∧ b = d
  i2 : ∀ a b l,lh a = some l → lh b = some l → a = b
  i3 : ∀ a b k l,la a b = some l → lh k ≠ some l
def FW (p dx kd wd hd : Addr) (la : Nat → Nat → Option Addr) (lh : Nat → Option Addr) : Addr → Prop:=fun b => b = p ∨ b = dx ∨ b = kd ∨ b = wd ∨ b = hd ∨ (∃ a c,la a c = some b) ∨ ∃ k,lh k = some b
def WtsIs (K : PySem.W.Frag) (C : Addr) (n : Nat) (H : Hp) (p : Addr) (s : S) (F : Addr → Prop) : Prop:=∃ dx kd wd hd kvk kvw kvh la lh,WtsD K C n H p s dx kd wd hd kvk kvw kvh la lh ∧ F = FW p dx kd wd hd la lh
section
variable {K : PySem.W.Frag} {C : Addr} {n : Nat} {H H' : Hp} {p : Addr} {s t : S} {F : Addr → Prop} {dx kd wd hd : Addr} {kvk kvh : List (Key × V)} {kvw : List (List Key × V)} {la : Nat → Nat → Option Addr} {lh : Nat → Option Addr}
theorem WtsD.keep (D : WtsD K C n H p s dx kd wd hd kvk kvw kvh la lh) (k : ∀ b u,H b = some u → (FW p dx kd wd hd la lh b ∨ ∃ xs,u = .tup xs) → H' b = some u) : WtsD K C n H' p s dx kd wd hd kvk kvw kvh la lh:=by
  have kt : ∀ b ys,H b = some (.tup ys) → H' b = some (.tup ys):=fun b ys h => k b _ h (.inr ⟨ys,rfl⟩)
  obtain ⟨f,d,e⟩:=D.tk
  refine ⟨D.n6,k _ _ D.hp (.inl (.inl rfl)),k _ _ D.hx (.inl (.inr (.inl rfl))),k _ _ D.hk (.inl (.inr (.inr (.inl rfl)))),k _ _ D.hw (.inl (.inr (.inr (.inr (.inl rfl))))),k _ _ D.hh (.inl (.inr (.inr (.inr (.inr (.inl rfl)))))),D.ne,⟨f,d,fun j => (e j).keep kt⟩,D.tw,D.th,
    fun a b => (D.lw a b).keep kt fun l vs h1 h2 => k _ _ h2 (.inl (.inr (.inr (.inr (.inr (.inr (.inl ⟨a,b,h1⟩))))))),fun j => (D.lo j).keep kt fun l vs h1 h2 => k _ _ h2 (.inl (.inr (.inr (.inr (.inr (.inr (.inr ⟨j,h1⟩))))))),D.i1,D.i2,D.i3⟩
theorem WtsD.same (D : WtsD K C n H p s dx kd wd hd kvk kvw kvh la lh) (e : Same H H') : WtsD K C n H' p s dx kd wd hd kvk kvw kvh la lh:=D.keep fun b u h _ => e b u h
theorem WtsD.of (D : WtsD K C n H p s dx kd wd hd kvk kvw kvh la lh) (h1 : t.held = s.held) (h2 : t.rows = s.rows) (h3 : t.hw = s.hw) : WtsD K C n H p t dx kd wd hd kvk kvw kvh la lh :=
  ⟨D.n6,D.hp,D.hx,D.hk,D.hw,D.hh,D.ne,by rw [h1]; exact D.tk,D.tw,D.th,by rw [h2]; exact D.lw,by rw [h3]; exact D.lo,D.i1,D.i2,D.i3⟩
theorem WtsIs.of (T : WtsIs K C n H p s F) (h1 : t.held = s.held) (h2 : t.rows = s.rows) (h3 : t.hw = s.hw) : WtsIs K C n H p t F :=
  let ⟨dx,kd,wd,hd,a,b,c,la,lh,D,e⟩:=T; ⟨dx,kd,wd,hd,a,b,c,la,lh,D.of h1 h2 h3,e⟩
theorem WtsIs.part (T : WtsIs K C n H p s F) : Part (fun H' => WtsIs K C n H' p s F) H F:=by
  obtain ⟨dx,kd,wd,hd,a,b,c,la,lh,D,rfl⟩:=T
  refine ⟨fun x hx => ?_,fun H' k => ⟨dx,kd,wd,hd,a,b,c,la,lh,D.keep k,rfl⟩⟩
  rcases hx with rfl | rfl | rfl | rfl | rfl | ⟨i,j,e⟩ | ⟨i,e⟩
  · rw [D.hp]; exact ⟨by simp,by simp⟩
  · rw [D.hx]; exact ⟨by simp,by simp⟩
  · rw [D.hk]; exact ⟨by simp,by simp⟩
  · rw [D.hw]; exact ⟨by simp,by simp⟩
  · rw [D.hh]; exact ⟨by simp,by simp⟩
  · have:=D.lw i j
    rw [e] at this
    obtain ⟨vs,h,_⟩:=this
    rw [h]; exact ⟨by simp,by simp⟩
  · have:=D.lo i
    rw [e] at this
    obtain ⟨vs,h,_⟩:=this
    rw [h]; exact ⟨by simp,by simp⟩
theorem WtsIs.ins (T : WtsIs K C n H p s F) : ∃ dx fs,H p = some (.ins C dx fs) ∧ ∀ m : Str,m ≠ "kept" → m ≠ "on_works" → m ≠ "on_way_home" → fs.lookup m = none:=by
  obtain ⟨dx,kd,wd,hd,a,b,c,la,lh,D,rfl⟩:=T
  refine ⟨_,_,D.hp,fun m h1 h2 h3 => ?_⟩
  simp only [List.lookup_cons,beq_eq_false_iff_ne.mpr h1,beq_eq_false_iff_ne.mpr h2,beq_eq_false_iff_ne.mpr h3,List.lookup_nil]
theorem WtsD.putK' (D : WtsD K C n H p s dx kd wd hd kvk kvw kvh la lh) {a x : Nat} {v : V} (ha : a < n) (hv : WV K H v x) :
    WtsD K C n (upd H kd (.dK (putK kvk (kI a) v))) p { s with held:=up s.held a x } dx kd wd hd (putK kvk (kI a) v) kvw kvh la lh:=by
  have kt : ∀ b ys,H b = some (.tup ys) → upd H kd (.dK (putK kvk (kI a) v)) b = some (.tup ys):=fun b ys h => upd_k D.hk h (fun z => nomatch z)
  have kl : ∀ l vs,H l = some (.lst vs) → upd H kd (.dK (putK kvk (kI a) v)) l = some (.lst vs):=fun l vs h => upd_k D.hk h (fun z => nomatch z)
  obtain ⟨f,d,e⟩:=D.tk
  refine ⟨D.n6,upd_k D.hk D.hp (fun z => nomatch z),upd_k D.hk D.hx (fun z => nomatch z),upd_same,upd_k D.hk D.hw (fun z => nomatch z),?_,D.ne,⟨_,d.put ha v (fun _ => rfl),fun j => ?_⟩,D.tw,D.th,fun a b => (D.lw a b).keep kt fun l vs _ h => kl l vs h,fun j => (D.lo j).keep kt fun l vs _ h => kl l vs h,D.i1,D.i2,D.i3⟩
  · rw [upd_ne (Ne.symm D.ne)]; exact D.hh
  · show HeldV K _ (if j = a then some v else f j) (up s.held a x j)
    rw [up_at]
    by_cases z : j = a
    · rw [if_pos z,if_pos z]; exact WV.keep hv kt
    · rw [if_neg z,if_neg z]; exact (e j).keep kt
theorem WtsD.setW (D : WtsD K C n H p s dx kd wd hd kvk kvw kvh la lh) {a b : Nat} {l : Addr} {vs ws : List V} {xs : List Nat} (e : la a b = some l) (hl : H l = some (.lst vs)) (h : WL K H ws xs) :
    WtsD K C n (upd H l (.lst ws)) p { s with rows:=up2 s.rows a b xs } dx kd wd hd kvk kvw kvh la lh:=by
  have kt : ∀ c ys,H c = some (.tup ys) → upd H l (.lst ws) c = some (.tup ys):=fun c ys h => upd_k hl h (fun z => nomatch z)
  obtain ⟨f,d,ef⟩:=D.tk
  refine ⟨D.n6,upd_k hl D.hp (fun z => nomatch z),upd_k hl D.hx (fun z => nomatch z),upd_k hl D.hk (fun z => nomatch z),upd_k hl D.hw (fun z => nomatch z),upd_k hl D.hh (fun z => nomatch z),D.ne,⟨f,d,fun j => (ef j).keep kt⟩,D.tw,D.th,fun i j => ?_,fun j => (D.lo j).keep kt fun l' vs' h1 h2 => ?_,D.i1,D.i2,D.i3⟩
  · show RowV K _ (la i j) (up2 s.rows a b xs i j)
    rw [up2_at]
    by_cases z : i = a ∧ j = b
    · rw [if_pos z,z.1,z.2,e]
      exact ⟨ws,upd_same,WL.keep h kt⟩
    · rw [if_neg z]
      refine (D.lw i j).keep kt fun l' vs' h1 h2 => ?_
      rw [upd_ne (fun q => z (D.i1 _ _ _ _ _ h1 (by rw [q]; exact e)))]; exact h2
  · rw [upd_ne (fun q => D.i3 _ _ j _ e (by rw [← q]; exact h1))]; exact h2
theorem WtsD.setH (D : WtsD K C n H p s dx kd wd hd kvk kvw kvh la lh) {a : Nat} {l : Addr} {vs ws : List V} {xs : List Nat} (e : lh a = some l) (hl : H l = some (.lst vs)) (h : WL K H ws xs) :
    WtsD K C n (upd H l (.lst ws)) p { s with hw:=up s.hw a xs } dx kd wd hd kvk kvw kvh la lh:=by
  have kt : ∀ c ys,H c = some (.tup ys) → upd H l (.lst ws) c = some (.tup ys):=fun c ys h => upd_k hl h (fun z => nomatch z)
  obtain ⟨f,d,ef⟩:=D.tk
  refine ⟨D.n6,upd_k hl D.hp (fun z => nomatch z),upd_k hl D.hx (fun z => nomatch z),upd_k hl D.hk (fun z => nomatch z),upd_k hl D.hw (fun z => nomatch z),upd_k hl D.hh (fun z => nomatch z),D.ne,⟨f,d,fun j => (ef j).keep kt⟩,D.tw,D.th,fun i j => (D.lw i j).keep kt fun l' vs' h1 h2 => ?_,fun j => ?_,D.i1,D.i2,D.i3⟩
  · rw [upd_ne (fun q => D.i3 _ _ a _ h1 (by rw [q]; exact e))]; exact h2
  · show RowV K _ (lh j) (up s.hw a xs j)
    rw [up_at]
    by_cases z : j = a
    · rw [if_pos z,z,e]
      exact ⟨ws,upd_same,WL.keep h kt⟩
    · rw [if_neg z]
      refine (D.lo j).keep kt fun l' vs' h1 h2 => ?_
      rw [upd_ne (fun q => z (D.i2 _ _ _ h1 (by rw [q]; exact e)))]; exact h2
theorem WtsD.newW (D : WtsD K C n H p s dx kd wd hd kvk kvw kvh la lh) {a b : Nat} {l : Addr} (ha : a < n) (hb : b < n) (e : la a b = none) (hl : H l = some (.lst [])) (fr : ¬ FW p dx kd wd hd la lh l) :
    WtsD K C n (upd H wd (.dT (putK kvw (kII a b) (.ref l)))) p s dx kd wd hd kvk (putK kvw (kII a b) (.ref l)) kvh (up2 la a b (some l)) lh:=by
  have kt : ∀ c ys,H c = some (.tup ys) → upd H wd (.dT (putK kvw (kII a b) (.ref l))) c = some (.tup ys):=fun c ys h => upd_k D.hw h (fun z => nomatch z)
  have kl : ∀ c ys,H c = some (.lst ys) → upd H wd (.dT (putK kvw (kII a b) (.ref l))) c = some (.lst ys):=fun c ys h => upd_k D.hw h (fun z => nomatch z)
  have f1 : ∀ i j,la i j ≠ some l:=fun i j z => fr (.inr (.inr (.inr (.inr (.inr (.inl ⟨i,j,z⟩))))))
  have f2 : ∀ j,lh j ≠ some l:=fun j z => fr (.inr (.inr (.inr (.inr (.inr (.inr ⟨j,z⟩))))))
  obtain ⟨f,d,ef⟩:=D.tk
  refine ⟨D.n6,upd_k D.hw D.hp (fun z => nomatch z),upd_k D.hw D.hx (fun z => nomatch z),upd_k D.hw D.hk (fun z => nomatch z),upd_same,upd_k D.hw D.hh (fun z => nomatch z),D.ne,⟨f,d,fun j => (ef j).keep kt⟩,D.tw.put ha hb _ (fun i j => ?_),D.th,fun i j => ?_,fun j => (D.lo j).keep kt fun l' vs' _ h2 => kl _ _ h2,fun i j c d l' h1 h2 => ?_,D.i2,fun i j k l' h1 => ?_⟩
  · show (up2 la a b (some l) i j).map V.ref = _
    rw [up2_at]; split <;> rfl
  · rw [up2_at]
    by_cases z : i = a ∧ j = b
    · rw [if_pos z,z.1,z.2]
      have:=D.lw a b
      rw [e] at this
      rw [show s.rows a b = [] from this]
      exact ⟨[],kl _ _ hl,.nil⟩
    · rw [if_neg z]; exact (D.lw i j).keep kt fun l' vs' _ h2 => kl _ _ h2
  · rw [up2_at] at h1 h2
    by_cases z : i = a ∧ j = b
    · by_cases z' : c = a ∧ d = b
      · exact ⟨z.1.trans z'.1.symm,z.2.trans z'.2.symm⟩
      · rw [if_pos z] at h1; rw [if_neg z'] at h2; cases h1; exact absurd h2 (f1 c d)
    · by_cases z' : c = a ∧ d = b
      · rw [if_neg z] at h1; rw [if_pos z'] at h2; cases h2; exact absurd h1 (f1 i j)
      · rw [if_neg z] at h1; rw [if_neg z'] at h2; exact D.i1 _ _ _ _ _ h1 h2
  · rw [up2_at] at h1
    by_cases z : i = a ∧ j = b
    · rw [if_pos z] at h1; cases h1; exact f2 k
    · rw [if_neg z] at h1; exact D.i3 _ _ _ _ h1
theorem WtsD.newH (D : WtsD K C n H p s dx kd wd hd kvk kvw kvh la lh) {a : Nat} {l : Addr} (ha : a < n) (e : lh a = none) (hl : H l = some (.lst [])) (fr : ¬ FW p dx kd wd hd la lh l) :
    WtsD K C n (upd H hd (.dK (putK kvh (kI a) (.ref l)))) p s dx kd wd hd kvk kvw (putK kvh (kI a) (.ref l)) la (up lh a (some l)):=by
  have kt : ∀ c ys,H c = some (.tup ys) → upd H hd (.dK (putK kvh (kI a) (.ref l))) c = some (.tup ys):=fun c ys h => upd_k D.hh h (fun z => nomatch z)
  have kl : ∀ c ys,H c = some (.lst ys) → upd H hd (.dK (putK kvh (kI a) (.ref l))) c = some (.lst ys):=fun c ys h => upd_k D.hh h (fun z => nomatch z)
  have f1 : ∀ i j,la i j ≠ some l:=fun i j z => fr (.inr (.inr (.inr (.inr (.inr (.inl ⟨i,j,z⟩))))))
  have f2 : ∀ j,lh j ≠ some l:=fun j z => fr (.inr (.inr (.inr (.inr (.inr (.inr ⟨j,z⟩))))))
  obtain ⟨f,d,ef⟩:=D.tk
  refine ⟨D.n6,upd_k D.hh D.hp (fun z => nomatch z),upd_k D.hh D.hx (fun z => nomatch z),?_,upd_k D.hh D.hw (fun z => nomatch z),upd_same,D.ne,⟨f,d,fun j => (ef j).keep kt⟩,D.tw,D.th.put ha _ (fun j => ?_),fun i j => (D.lw i j).keep kt fun l' vs' _ h2 => kl _ _ h2,fun j => ?_,D.i1,fun i j l' h1 h2 => ?_,fun i j k l' h1 h2 => ?_⟩
  · rw [upd_ne D.ne]; exact D.hk
  · show (up lh a (some l) j).map V.ref = _
    rw [up_at]; split <;> rfl
  · rw [up_at]
    by_cases z : j = a
    · rw [if_pos z,z]
      have:=D.lo a
      rw [e] at this
      rw [show s.hw a = [] from this]
      exact ⟨[],kl _ _ hl,.nil⟩
    · rw [if_neg z]; exact (D.lo j).keep kt fun l' vs' _ h2 => kl _ _ h2
  · rw [up_at] at h1 h2
    by_cases z : i = a
    · by_cases z' : j = a
      · exact z.trans z'.symm
      · rw [if_pos z] at h1; rw [if_neg z'] at h2; cases h1; exact absurd h2 (f2 j)
    · by_cases z' : j = a
      · rw [if_neg z] at h1; rw [if_pos z'] at h2; cases h2; exact absurd h1 (f2 i)
      · rw [if_neg z] at h1; rw [if_neg z'] at h2; exact D.i2 _ _ _ h1 h2
  · rw [up_at] at h2
    by_cases z : k = a
    · rw [if_pos z] at h2; cases h2; exact f1 i j h1
    · rw [if_neg z] at h2; exact D.i3 _ _ _ _ h1 h2
theorem WtsD.fresh (D : WtsD K C n H p s dx kd wd hd kvk kvw kvh la lh) {l : Addr} (h : H l = none) : ¬ FW p dx kd wd hd la lh l:=fun z =>
  ((WtsIs.part ⟨dx,kd,wd,hd,kvk,kvw,kvh,la,lh,D,rfl⟩).foot l z).1 h
end
section
variable (K : PySem.W.Frag) (C : Addr)
def wqOf : Sp:=fun vs H Q _ => ∃ n p s F k,vs = [.ref p,.int (k : Nat)] ∧ WtsIs K C n H p s F ∧ ∀ v,WV K H v (s.held k) → Q v H
def wqOn : Sp:=fun vs H Q _ => ∃ n p s F a b,vs = [.ref p,.int (a : Nat),.int (b : Nat)] ∧ WtsIs K C n H p s F ∧ ∀ t xs H',Same H H' → SqT K H' t xs → WL K H' xs (s.rows a b) → Q (.ref t) H'
def wqHome : Sp:=fun vs H Q _ => ∃ n p s F a,vs = [.ref p,.int (a : Nat)] ∧ WtsIs K C n H p s F ∧ ∀ t xs H',Same H H' → SqT K H' t xs → WL K H' xs (s.hw a) → Q (.ref t) H'
def waSend : Sp:=fun vs H Q _ => ∃ n p s F a b m,vs = [.ref p,.int (a : Nat),.int (b : Nat)] ∧ WtsIs K C n H p s F ∧ a < n ∧ b < n ∧ s.held a ≠ 0 ∧ s.held a ≤ 2 ^ 90 ∧ m < 90 ∧ 2 ^ (90 - m) ∣ s.held a ∧ (s.rows a b).length < 1000 ∧
  ∀ H' F',WtsIs K C n H' p { s with held:=up s.held a (s.held a / 2),rows:=up2 s.rows a b (s.rows a b ++ [s.held a / 2]) } F' → Kept H H' F F' → Q .non H'
def waAdd : Sp:=fun vs H Q _ => ∃ n p s F a v x m,vs = [.ref p,.int (a : Nat),v] ∧ WtsIs K C n H p s F ∧ WV K H v x ∧ a < n ∧ s.held a + x ≤ 2 ^ 90 ∧ m ≤ 63 ∧ 2 ^ (90 - m) ∣ s.held a ∧ 2 ^ (90 - m) ∣ x ∧
  ∀ H',WtsIs K C n H' p { s with held:=up s.held a (s.held a + x) } F → Kept H H' F F → Q .non H'
def waTake : Sp:=fun vs H Q _ => ∃ n p s F a b x r m,vs = [.ref p,.int (a : Nat),.int (b : Nat)] ∧ WtsIs K C n H p s F ∧ a < n ∧ b < n ∧ s.rows a b = x :: r ∧ s.held b + x ≤ 2 ^ 90 ∧ m ≤ 63 ∧ 2 ^ (90 - m) ∣ s.held b ∧ 2 ^ (90 - m) ∣ x ∧
  ∀ H',WtsIs K C n H' p { s with held:=up s.held b (s.held b + x),rows:=up2 s.rows a b r } F → Kept H H' F F → Q .non H'
def waHome : Sp:=fun vs H Q _ => ∃ n p s F a x r m,vs = [.ref p,.int (a : Nat)] ∧ WtsIs K C n H p s F ∧ 0 < n ∧ a < n ∧ s.hw a = x :: r ∧ s.held 0 + x ≤ 2 ^ 90 ∧ m ≤ 63 ∧ 2 ^ (90 - m) ∣ s.held 0 ∧ 2 ^ (90 - m) ∣ x ∧
  ∀ H',WtsIs K C n H' p { s with held:=up s.held 0 (s.held 0 + x),hw:=up s.hw a r } F → Kept H H' F F → Q .non H'
def waRest : Sp:=fun vs H Q _ => ∃ n p s F a,vs = [.ref p,.int (a : Nat)] ∧ WtsIs K C n H p s F ∧ a < n ∧ (s.hw a).length < 1000 ∧
  ∀ H' F',WtsIs K C n H' p (if a = 0 then s else { s with hw:=up s.hw a (s.hw a ++ [s.held a]),held:=up s.held a 0 }) F' → Kept H H' F F' → Q .non H'
end
section
variable {P : Program} {w : World} {K : PySem.W.Frag} {mg : Str → Option Value} {base : Heap} {C : Addr}
structure WtsC (K : PySem.W.Frag) (mg : Str → Option Value) (C : Addr) : Prop where
  cl : Cls K C
  n1 : NoAttr K C "kept"
  n2 : NoAttr K C "on_works"
  n3 : NoAttr K C "on_way_home"
  nothing : ModT K mg "NOTHING" [.int 0,.int 0]
  whole : ModT K mg "WHOLE" [.int 1,.int 0]
  tuple : mg "tuple" = none
theorem sc_w1 : FnScope ["self","hand"] ["self","hand"] (defScope s_Weights_weight_of):=⟨rfl,rfl,rfl,by decide +kernel,rfl,by decide +kernel,by decide +kernel⟩
theorem wv_zero {H : Hp} {a : Addr} (h : TupK K a [.int 0,.int 0]) : WV K H (.ref a) 0:=⟨a,0,0,rfl,.inr h,⟨.inl ⟨rfl,rfl,rfl⟩⟩⟩
theorem ok_w_of {f : Addr} {fd : FuncData} (F : Fun K "weight_of" "Weights.weight_of" s_Weights_weight_of f fd) (T : WtsC K mg C) : FnOk P w K mg base CX0 1 f fd ["self","hand"] (wqOf K C):=by
  refine F.ok sc_w1 (fun vs H Q E h => ?_) (fun cdv A outer s H vs Q E hr h => ?_)
  · obtain ⟨_,_,_,_,_,rfl,_⟩:=h; rfl
  obtain ⟨n,p,s,F,k,rfl,⟨dx,kd,wd,hd,kvk,kvw,kvh,la,lh,D,rfl⟩,q⟩:=h
  obtain ⟨z,hz,tz⟩:=T.nothing.ex
  refine ⟨_,pss_one (ps_ret (pe_dget2 (hu_of hr) (pe_fld (pv 0) rfl) (pv 1) (pe_glob (v:=.ref z) (by rfl) hz rfl) ⟨rfl,rfl,rfl,rfl⟩)),?_⟩
  refine ⟨_,rfl,p,C,dx,_,_,rfl,D.hp,T.cl,T.n1,rfl,kd,rfl,.inl ⟨_,.inl D.hk⟩,_,rfl,_,DGet.k (k:=kI k) D.hk,?_⟩
  obtain ⟨f,d,e⟩:=D.tk
  refine q _ ?_
  have ek:=e k
  rw [d.val]
  cases ef : f k with
  | none =>
    rw [ef] at ek
    rw [show s.held k = 0 from ek]
    exact wv_zero tz
  | some v => rw [ef] at ek; exact ek
theorem sc_w2 : FnScope ["self","hand"] ["self","hand"] (defScope s_Weights_weights_home):=⟨rfl,rfl,rfl,by decide +kernel,rfl,by decide +kernel,by decide +kernel⟩
theorem ok_w_home {f : Addr} {fd : FuncData} (F : Fun K "weights_home" "Weights.weights_home" s_Weights_weights_home f fd) (T : WtsC K mg C) : FnOk P w K mg base CX0 1 f fd ["self","hand"] (wqHome K C):=by
  refine F.ok sc_w2 (fun vs H Q E h => ?_) (fun cdv A outer s H vs Q E hr h => ?_)
  · obtain ⟨_,_,_,_,_,rfl,_⟩:=h; rfl
  obtain ⟨n,p,s,F,k,rfl,⟨dx,kd,wd,hd,kvk,kvw,kvh,la,lh,D,rfl⟩,q⟩:=h
  refine ⟨_,pss_one (ps_ret (pe_callTy call_tuple_of (by rfl) T.tuple (by decide +kernel) (pa_cons (pe_dget2 (hu_of hr) (pe_fld (pv 0) rfl) (pv 1) (pe_tup pa_nil) ⟨rfl,rfl,rfl,rfl⟩) pa_nil))),?_⟩
  refine ⟨_,rfl,p,C,dx,_,_,rfl,D.hp,T.cl,T.n3,rfl,hd,rfl,.inl ⟨_,.inl D.hh⟩,_,rfl,Nat.zero_le _,fun t ht => ?_⟩
  have s1:=same_tup (x:=.tup []) ht
  have D1:=D.same s1
  refine ⟨_,DGet.k (k:=kI k) D1.hh,?_⟩
  rw [D.th.val]
  have row:=D1.lo k
  cases e : lh k with
  | none =>
    rw [e] at row
    have row : s.hw k = []:=row
    refine ⟨t,[],rfl,.inr ⟨SqT.of upd_same,?_⟩⟩
    exact q _ _ _ s1 (SqT.of upd_same) (by rw [row]; exact .nil)
  | some l =>
    rw [e] at row
    obtain ⟨vs,h1,h2⟩:=row
    refine ⟨l,vs,rfl,.inl ⟨SqL.of h1,fun t' ht' => ?_⟩⟩
    have s2:=same_tup (x:=.tup vs) ht'
    exact q _ _ _ (s1.trans s2) (SqT.of upd_same) (WL.same s2 h2)
theorem sc_w4 : FnScope ["self","hand","weight"] ["self","hand","weight"] (defScope s_Weights_add_to):=⟨rfl,rfl,rfl,by decide +kernel,rfl,by decide +kernel,by decide +kernel⟩
theorem ok_w_add {f : Addr} {fd : FuncData} (F : Fun K "add_to" "Weights.add_to" s_Weights_add_to f fd) (T : WtsC K mg C) (Mo : Mt P w K mg base C "weight_of" 1 ["self","hand"] (wqOf K C)) (Fs : Fn P w K mg base "sum_of" 3 ["one","other"] (spSum K)) :
    FnOk P w K mg base CX0 4 f fd ["self","hand","weight"] (waAdd K C):=by
  refine F.ok sc_w4 (fun vs H Q E h => ?_) (fun cdv A outer s H vs Q E hr h => ?_)
  · obtain ⟨_,_,_,_,_,_,_,_,rfl,_⟩:=h; rfl
  obtain ⟨n,p,s,F,a,v,x,m,rfl,TI,hv,ha,hx,hm,d1,d2,q⟩:=h
  obtain ⟨dx,kd,wd,hd,kvk,kvw,kvh,la,lh,D,rfl⟩:=id TI
  refine ⟨_,pss_one (ps_dput (hu_of hr) (pe_fld (pv 0) rfl) (pv 1) (pe_fn Fs hr (by decide) (pa_cons (pe_mt Mo T.cl hr (by decide) (pv 0) (pa_cons (pv 1) pa_nil)) (pa_cons (pv 2) pa_nil))) rfl),?_⟩
  refine ⟨_,rfl,p,dx,_,rfl,D.hp,rfl,_,rfl,n,p,s,_,a,rfl,TI,fun v1 hv1 => ?_⟩
  refine ⟨_,rfl,v1,v,s.held a,x,m,rfl,hv1,hv,hx,hm,d1,d2,fun v2 H2 s2 hv2 => ?_⟩
  have D2:=D.same s2
  obtain ⟨f,d,_⟩:=D.tk
  refine ⟨_,rfl,p,C,dx,_,_,rfl,D2.hp,T.cl,T.n1,rfl,_,rfl,kd,_,rfl,DPut.k (k:=kI a) D2.hk (d.small D.n6),?_⟩
  exact q _ ⟨dx,kd,wd,hd,_,kvw,kvh,la,lh,D2.putK' ha hv2,rfl⟩ ((Kept.same s2 _).trans (Kept.upd _ (.inr (.inr (.inl rfl)))))
theorem sc_w5 : FnScope ["self","one","other"] ["self","one","other"] (defScope s_Weights_take):=⟨rfl,rfl,rfl,by decide +kernel,rfl,by decide +kernel,by decide +kernel⟩
theorem ok_w_take {f : Addr} {fd : FuncData} (F : Fun K "take" "Weights.take" s_Weights_take f fd) (T : WtsC K mg C) (Ma : Mt P w K mg base C "add_to" 4 ["self","hand","weight"] (waAdd K C)) : FnOk P w K mg base CX0 5 f fd ["self","one","other"] (waTake K C):=by
  refine F.ok sc_w5 (fun vs H Q E h => ?_) (fun cdv A outer s H vs Q E hr h => ?_)
  · obtain ⟨_,_,_,_,_,_,_,_,_,rfl,_⟩:=h; rfl
  obtain ⟨n,p,s,F,a,b,x,r,m,rfl,TI,ha,hb,er,hx,hm,d1,d2,q⟩:=h
  obtain ⟨dx,kd,wd,hd,kvk,kvw,kvh,la,lh,D,rfl⟩:=id TI
  refine ⟨_,pss_one (ps_expr (pe_mt Ma T.cl hr (by decide) (pv 0) (pa_cons (pv 2) (pa_cons (pe_bm PySem.F.plainAttrs_list PySem.F.slot_list_pop PySem.F.type_list_pop mt_popAt (pe_dget (hu_of hr) (pe_fld (pv 0) rfl) (pe_tup (pa_cons (pv 1) (pa_cons (pv 2) pa_nil))) (fun _ _ => rfl)) (pa_cons pe_int pa_nil)) pa_nil)))),?_⟩
  refine ⟨_,rfl,p,dx,_,rfl,D.hp,rfl,_,rfl,_,rfl,p,C,dx,_,_,rfl,D.hp,T.cl,T.n2,rfl,_,rfl,_,rfl,le1000 (by show 2 ≤ 1000; decide),fun t ht => ?_⟩
  have s1:=same_tup (x:=.tup [V.int (a : Nat),V.int (b : Nat)]) ht
  have D1:=D.same s1
  have row:=D1.lw a b
  cases e : la a b with
  | none => rw [e,er] at row; cases (show x :: r = [] from row)
  | some l =>
    rw [e,er] at row
    obtain ⟨vs,h1,h2⟩:=row
    cases h2 with
    | @cons v _ vs' _ hv hr' =>
      refine ⟨wd,V.ref l,rfl,?_,?_⟩
      · have g:=DGet.t (k:=kII a b) D1.hw (b:=t) upd_same
        rw [D.tw.val,e] at g
        exact g
      refine ⟨.inl ⟨rfl,_,SqL.of h1⟩,l,v :: vs',0,0,v,rfl,rfl,h1,by decide,by decide,?_,rfl,?_⟩
      · simp [seqIndex?]
      have D2:=D1.setW e h1 hr'
      have T2 : WtsIs K C n _ p _ _:=⟨dx,kd,wd,hd,_,_,_,_,_,D2,rfl⟩
      refine ⟨n,p,_,_,b,v,x,m,rfl,T2,WV.keep hv (fun c ys h => upd_k h1 h (fun z => nomatch z)),hb,hx,hm,d1,d2,fun H' T' k' => ?_⟩
      exact q H' T' (((Kept.same s1 _).trans (Kept.upd _ (.inr (.inr (.inr (.inr (.inr (.inl ⟨a,b,e⟩)))))))).trans k')
theorem sc_w6 : FnScope ["self","hand"] ["self","hand"] (defScope s_Weights_home):=⟨rfl,rfl,rfl,by decide +kernel,rfl,by decide +kernel,by decide +kernel⟩
theorem ok_w_hm {f : Addr} {fd : FuncData} (F : Fun K "home" "Weights.home" s_Weights_home f fd) (T : WtsC K mg C) (Ma : Mt P w K mg base C "add_to" 4 ["self","hand","weight"] (waAdd K C)) : FnOk P w K mg base CX0 5 f fd ["self","hand"] (waHome K C):=by
  refine F.ok sc_w6 (fun vs H Q E h => ?_) (fun cdv A outer s H vs Q E hr h => ?_)
  · obtain ⟨_,_,_,_,_,_,_,_,rfl,_⟩:=h; rfl
  obtain ⟨n,p,s,F,a,x,r,m,rfl,TI,h0,ha,er,hx,hm,d1,d2,q⟩:=h
  obtain ⟨dx,kd,wd,hd,kvk,kvw,kvh,la,lh,D,rfl⟩:=id TI
  refine ⟨_,pss_one (ps_expr (pe_mt Ma T.cl hr (by decide) (pv 0) (pa_cons pe_int (pa_cons (pe_bm PySem.F.plainAttrs_list PySem.F.slot_list_pop PySem.F.type_list_pop mt_popAt (pe_dget (hu_of hr) (pe_fld (pv 0) rfl) (pv 1) (fun _ _ => rfl)) (pa_cons pe_int pa_nil)) pa_nil)))),?_⟩
  have row:=D.lo a
  cases e : lh a with
  | none => rw [e,er] at row; cases (show x :: r = [] from row)
  | some l =>
    rw [e,er] at row
    obtain ⟨vs,h1,h2⟩:=row
    cases h2 with
    | @cons v _ vs' _ hv hr' =>
      refine ⟨_,rfl,p,dx,_,rfl,D.hp,rfl,_,rfl,p,C,dx,_,_,rfl,D.hp,T.cl,T.n3,rfl,_,rfl,hd,V.ref l,rfl,?_,?_⟩
      · have g:=DGet.k (k:=kI a) D.hh
        rw [D.th.val,e] at g
        exact g
      refine ⟨.inl ⟨rfl,_,SqL.of h1⟩,l,v :: vs',0,0,v,rfl,rfl,h1,by decide,by decide,?_,rfl,?_⟩
      · simp [seqIndex?]
      have D2:=D.setH e h1 hr'
      have T2 : WtsIs K C n _ p _ _:=⟨dx,kd,wd,hd,_,_,_,_,_,D2,rfl⟩
      refine ⟨n,p,_,_,0,v,x,m,rfl,T2,WV.keep hv (fun c ys h => upd_k h1 h (fun z => nomatch z)),h0,hx,hm,d1,d2,fun H' T' k' => ?_⟩
      exact q H' T' ((Kept.upd _ (.inr (.inr (.inr (.inr (.inr (.inr ⟨a,e⟩))))))).trans k')
theorem sc_w7 : FnScope ["self","one","other","half"] ["self","one","other"] (defScope s_Weights_send):=⟨rfl,rfl,rfl,by decide +kernel,rfl,by decide +kernel,by decide +kernel⟩
theorem ok_w_send {f : Addr} {fd : FuncData} (F : Fun K "send" "Weights.send" s_Weights_send f fd) (T : WtsC K mg C) (Mo : Mt P w K mg base C "weight_of" 1 ["self","hand"] (wqOf K C)) (Fh : Fn P w K mg base "half_of" 3 ["weight"] (spHalf K)) :
    FnOk P w K mg base CX0 4 f fd ["self","one","other"] (waSend K C):=by
  refine F.ok sc_w7 (fun vs H Q E h => ?_) (fun cdv A outer s H vs Q E hr h => ?_)
  · obtain ⟨_,_,_,_,_,_,_,rfl,_⟩:=h; rfl
  obtain ⟨n,p,s,F,a,b,m,rfl,TI,ha,hb,h0,h90,hm,hd',hlen,q⟩:=h
  obtain ⟨dx,kd,wd,hd,kvk,kvw,kvh,la,lh,D,rfl⟩:=id TI
  refine ⟨_,pss_cons (ps_set (i:=3) sc_w7.nd rfl (Or.inl rfl) (pe_fn Fh hr (by decide) (pa_cons (pe_mt Mo T.cl hr (by decide) (pv 0) (pa_cons (pv 1) pa_nil)) pa_nil)))
    (pss_cons (ps_dput (hu_of hr) (pe_fld (pv 0) rfl) (pv 1) (pv 3) rfl)
    (pss_one (ps_expr (pe_bm PySem.F.plainAttrs_list PySem.F.slot_list_append PySem.F.type_list_append mt_append (pe_bm PySem.F.plainAttrs_dict PySem.F.slot_dict_setdefault PySem.F.type_dict_setdefault (mt_setd (hu_of hr)) (pe_fld (pv 0) rfl) (pa_cons (pe_tup (pa_cons (pv 1) (pa_cons (pv 2) pa_nil))) (pa_cons (pe_lst pa_nil) pa_nil))) (pa_cons (pv 3) pa_nil))))),?_⟩
  refine ⟨_,rfl,p,dx,_,rfl,D.hp,rfl,_,rfl,n,p,s,_,a,rfl,TI,fun v1 hv1 => ?_⟩
  refine ⟨v1,s.held a,m,rfl,hv1,h0,h90,hm,hd',fun v2 H2 s2 hv2 => ?_⟩
  have D2:=D.same s2
  obtain ⟨f,d,_⟩:=D.tk
  refine ⟨_,rfl,_,rfl,p,C,dx,_,_,rfl,D2.hp,T.cl,T.n1,rfl,_,rfl,kd,_,rfl,DPut.k (k:=kI a) D2.hk (d.small D.n6),?_⟩
  have D3:=D2.putK' ha hv2
  have hv3 : WV K (upd H2 kd (.dK (putK kvk (kI a) v2))) v2 (s.held a / 2):=WV.keep hv2 (fun c ys h => upd_k D2.hk h (fun z => nomatch z))
  have k3 : Kept H (upd H2 kd (.dK (putK kvk (kI a) v2))) (FW p dx kd wd hd la lh) (FW p dx kd wd hd la lh):=(Kept.same s2 _).trans (Kept.upd _ (.inr (.inr (.inl rfl))))
  generalize upd H2 kd (.dK (putK kvk (kI a) v2)) = H3 at D3 hv3 k3 ⊢
  refine ⟨_,rfl,p,C,dx,_,_,rfl,D3.hp,T.cl,T.n2,rfl,.inr (.inr (.inl ⟨rfl,.inr ⟨_,D3.hw⟩⟩)),_,rfl,_,rfl,le1000 (by show 2 ≤ 1000; decide),fun t ht => ⟨Nat.zero_le _,fun l hl => ?_⟩⟩
  have s4:=same_tup (x:=.tup [V.int (a : Nat),V.int (b : Nat)]) ht
  have s5:=same_tup (x:=.lst []) hl
  have D5:=D3.same (s4.trans s5)
  have hl3 : H3 l = none:=s4.free hl
  have fr:=D3.fresh hl3
  have hv5:=hv3.same (s4.trans s5)
  refine ⟨wd,_,_,rfl,rfl,.inr ⟨kvw,kII a b,t,D5.hw,rfl,s5 _ _ upd_same,D.tw.small D.n6,fun v hv => ?_,fun hv => ?_⟩⟩
  · rw [D.tw.val] at hv
    cases e : la a b with
    | none => rw [e] at hv; cases hv
    | some l' =>
      rw [e] at hv
      cases hv
      have row:=D5.lw a b
      rw [e] at row
      obtain ⟨vs,h1,h2⟩:=row
      refine ⟨.inl ⟨rfl,_,SqL.of h1⟩,_,rfl,l',vs,v2,rfl,rfl,h1,?_,?_⟩
      · rw [Paired.length h2]; exact small1000 (by show (s.rows a b).length ≤ 1000; omega)
      · have D6:=D5.setW e h1 (Paired.snoc h2 hv5)
        exact q _ _ ⟨dx,kd,wd,hd,_,_,_,la,lh,D6,rfl⟩ (k3.trans ((Kept.same (s4.trans s5) _).trans (Kept.upd _ (.inr (.inr (.inr (.inr (.inr (.inl ⟨a,b,e⟩)))))))))
  · rw [D.tw.val] at hv
    have e : la a b = none:=by
      cases e : la a b with
      | none => rfl
      | some l' => rw [e] at hv; cases hv
    have D6:=D5.newW ha hb e upd_same fr
    have ev : up2 la a b (some l) a b = some l:=by rw [up2_at,if_pos ⟨rfl,rfl⟩]
    have row:=D6.lw a b
    rw [ev] at row
    obtain ⟨vs,h1,h2⟩:=row
    have hv6:=hv5.keep (H':=upd (upd (upd H3 t (.tup [V.int (a : Nat),V.int (b : Nat)])) l (.lst [])) wd (.dT (putK kvw (kII a b) (.ref l)))) (fun c ys h => upd_k D5.hw h (fun z => nomatch z))
    refine ⟨.inl ⟨rfl,_,SqL.of h1⟩,_,rfl,l,vs,v2,rfl,rfl,h1,?_,?_⟩
    · rw [Paired.length h2]; exact small1000 (by show (s.rows a b).length ≤ 1000; omega)
    · have D7:=D6.setW ev h1 (Paired.snoc h2 hv6)
      have kN : Kept H3 (upd (upd H3 t (.tup [V.int (a : Nat),V.int (b : Nat)])) l (.lst [])) (FW p dx kd wd hd la lh) (FW p dx kd wd hd (up2 la a b (some l)) lh):=by
        refine ⟨fun c o h _ => (s4.trans s5) c o h,fun c h => ?_⟩
        rcases h with h | h | h | h | h | ⟨i,j,h⟩ | h
        · exact .inl (.inl h)
        · exact .inl (.inr (.inl h))
        · exact .inl (.inr (.inr (.inl h)))
        · exact .inl (.inr (.inr (.inr (.inl h))))
        · exact .inl (.inr (.inr (.inr (.inr (.inl h)))))
        · rw [up2_at] at h
          by_cases z : i = a ∧ j = b
          · rw [if_pos z] at h; cases h; exact .inr hl3
          · rw [if_neg z] at h; exact .inl (.inr (.inr (.inr (.inr (.inr (.inl ⟨i,j,h⟩))))))
        · exact .inl (.inr (.inr (.inr (.inr (.inr (.inr h))))))
      exact q _ _ ⟨dx,kd,wd,hd,_,_,_,_,lh,D7,rfl⟩ (k3.trans ((kN.trans (Kept.upd _ (.inr (.inr (.inr (.inl rfl)))))).trans (Kept.upd _ (.inr (.inr (.inr (.inr (.inr (.inl ⟨a,b,ev⟩)))))))))
theorem sc_w8 : FnScope ["self","hand"] ["self","hand"] (defScope s_Weights_rest):=⟨rfl,rfl,rfl,by decide +kernel,rfl,by decide +kernel,by decide +kernel⟩
theorem ok_w_rest {f : Addr} {fd : FuncData} (F : Fun K "rest" "Weights.rest" s_Weights_rest f fd) (T : WtsC K mg C) (Mo : Mt P w K mg base C "weight_of" 1 ["self","hand"] (wqOf K C)) : FnOk P w K mg base CX0 2 f fd ["self","hand"] (waRest K C):=by
  refine F.ok sc_w8 (fun vs H Q E h => ?_) (fun cdv A outer s H vs Q E hr h => ?_)
  · obtain ⟨_,_,_,_,_,rfl,_⟩:=h; rfl
  obtain ⟨n,p,s,F,a,rfl,TI,ha,hlen,q⟩:=h
  obtain ⟨dx,kd,wd,hd,kvk,kvw,kvh,la,lh,D,rfl⟩:=id TI
  obtain ⟨z0,hz,tz⟩:=T.nothing.ex
  refine ⟨_,pss_one (ps_if (pt_cmpR op_ne (pv 1) pe_int (nomark _)) (pss_cons (ps_expr (pe_bm PySem.F.plainAttrs_list PySem.F.slot_list_append PySem.F.type_list_append mt_append (pe_bm PySem.F.plainAttrs_dict PySem.F.slot_dict_setdefault PySem.F.type_dict_setdefault (mt_setd (hu_of hr)) (pe_fld (pv 0) rfl) (pa_cons (pv 1) (pa_cons (pe_lst pa_nil) pa_nil))) (pa_cons (pe_mt Mo T.cl hr (by decide) (pv 0) (pa_cons (pv 1) pa_nil)) pa_nil)))
    (pss_one (ps_dput (hu_of hr) (pe_fld (pv 0) rfl) (pv 1) (pe_glob (v:=.ref z0) (by rfl) hz rfl) rfl))) pss_nil),?_⟩
  refine ⟨_,rfl,rfl,_,rfl,?_⟩
  have e0 : (V.int ((a : Nat) : Int) = V.int 0) ↔ a = 0:=by rw [V.int.injEq]; omega
  refine ite2 (fun h0 => ?_) (fun h0 => ?_)
  · have h0 : a ≠ 0:=fun z => by rw [decide_eq_true (e0.mpr z)] at h0; cases h0
    rw [if_neg h0] at q
    -- the list to which the weight goes
    have fin : ∀ (H3 : Hp) (kv : List (Key × V)) (lh' : Nat → Option Addr) (l : Addr),WtsD K C n H3 p s dx kd wd hd kvk kvw kv la lh' → lh' a = some l → Kept H H3 (FW p dx kd wd hd la lh) (FW p dx kd wd hd la lh') →
        tyV K "list" (V.ref l) H3 ∧ tCons (tMeth C "weight_of" (wqOf K C) [] E0 (tVar 0) (tCons (tVar 1) tNil)) tNil [some (.ref p),some (.int (a : Nat))] H3 fun xs H2 => rAppend (V.ref l) xs H2 fun _ H1 => sDPut (tFld K (tVar 0) "kept") (tVar 1) (tC (.ref z0)) { nx:=fun _ H' => Q .non H',rt:=Q } [some (.ref p),some (.int (a : Nat))] H1:=fun H3 kv lh' l D3 el k3 => by
      have row:=D3.lo a
      rw [el] at row
      obtain ⟨vs,h1,h2⟩:=row
      refine ⟨.inl ⟨rfl,_,SqL.of h1⟩,_,rfl,p,dx,_,rfl,D3.hp,rfl,_,rfl,n,p,s,_,a,rfl,⟨dx,kd,wd,hd,_,_,_,_,_,D3,rfl⟩,fun v hv => ?_⟩
      refine ⟨l,vs,v,rfl,rfl,h1,?_,?_⟩
      · rw [Paired.length h2]; exact small1000 (by omega)
      have D4:=D3.setH el h1 (Paired.snoc h2 hv)
      obtain ⟨f,d,_⟩:=D.tk
      refine ⟨_,rfl,p,C,dx,_,_,rfl,D4.hp,T.cl,T.n1,rfl,_,rfl,kd,_,rfl,DPut.k (k:=kI a) D4.hk (d.small D.n6),?_⟩
      have D5:=D4.putK' (x:=0) ha (wv_zero tz)
      exact q _ _ ⟨dx,kd,wd,hd,_,_,_,_,_,D5,rfl⟩ ((k3.trans (Kept.upd _ (.inr (.inr (.inr (.inr (.inr (.inr ⟨a,el⟩)))))))).trans (Kept.upd _ (.inr (.inr (.inl rfl)))))
    refine ⟨_,rfl,p,C,dx,_,_,rfl,D.hp,T.cl,T.n3,rfl,.inr (.inr (.inl ⟨rfl,.inl ⟨_,D.hh⟩⟩)),_,rfl,Nat.zero_le _,fun l hl => ?_⟩
    have s5:=same_tup (x:=.lst []) hl
    have D5:=D.same s5
    refine ⟨hd,_,_,rfl,rfl,.inl ⟨kvh,kI a,D5.hh,rfl,D.th.small D.n6,fun v hv => ?_,fun hv => ?_⟩⟩
    · rw [D.th.val] at hv
      cases e : lh a with
      | none => rw [e] at hv; cases hv
      | some l' =>
        rw [e] at hv
        cases hv
        exact fin _ _ _ l' D5 e (Kept.same s5 _)
    · rw [D.th.val] at hv
      have e : lh a = none:=by
        cases e : lh a with
        | none => rfl
        | some l' => rw [e] at hv; cases hv
      have D6:=D5.newH ha e upd_same (D.fresh hl)
      refine fin _ _ _ l D6 (up_same _ _ _) ?_
      have kN : Kept H (upd H l (.lst [])) (FW p dx kd wd hd la lh) (FW p dx kd wd hd la (up lh a (some l))):=by
        refine ⟨fun c o h _ => s5 c o h,fun c h => ?_⟩
        rcases h with h | h | h | h | h | h | ⟨i,h⟩
        · exact .inl (.inl h)
        · exact .inl (.inr (.inl h))
        · exact .inl (.inr (.inr (.inl h)))
        · exact .inl (.inr (.inr (.inr (.inl h))))
        · exact .inl (.inr (.inr (.inr (.inr (.inl h)))))
        · exact .inl (.inr (.inr (.inr (.inr (.inr (.inl h))))))
        · rw [up_at] at h
          by_cases z : i = a
          · rw [if_pos z] at h; cases h; exact .inr hl
          · rw [if_neg z] at h; exact .inl (.inr (.inr (.inr (.inr (.inr (.inr ⟨i,h⟩))))))
      exact kN.trans (Kept.upd _ (.inr (.inr (.inr (.inr (.inl rfl))))))
  · have h0 : a = 0:=by
      by_cases z : a = 0
      · exact z
      · rw [decide_eq_false (fun q => z (e0.mp q))] at h0; exact absurd rfl h0
    rw [if_pos h0] at q
    exact q H _ TI (Kept.refl _ _)
def wInit (K : PySem.W.Frag) (C : Addr) : Sp:=fun vs H Q _ => ∃ (n : Nat) (p dx : Addr),vs = [.ref p] ∧ 0 < n ∧ n ≤ 6 ∧ H p = some (.ins C dx []) ∧ H dx = some (.own p) ∧
  ∀ H' F,WtsIs K C n H' p new F → (∀ b o,H b = some o → b ≠ p → H' b = some o) → (∀ b,F b → b = p ∨ b = dx ∨ H b = none) → Q .non H'
theorem sc_w9 : FnScope ["self"] ["self"] (defScope s_Weights___init__):=⟨rfl,rfl,rfl,by decide +kernel,rfl,by decide +kernel,by decide +kernel⟩
theorem ok_w_init {f : Addr} {fd : FuncData} (F : Fun K "__init__" "Weights.__init__" s_Weights___init__ f fd) (T : WtsC K mg C) : FnOk P w K mg base CX0 1 f fd ["self"] (wInit K C):=by
  refine F.ok sc_w9 (fun vs H Q E h => ?_) (fun cdv A outer s H vs Q E hr h => ?_)
  · obtain ⟨_,_,_,rfl,_⟩:=h; rfl
  obtain ⟨n,p,dx,rfl,h0,hn,hp,hdx,q⟩:=h
  obtain ⟨w1,hw1,tw1⟩:=T.whole.ex
  refine ⟨_,pss_cons (ps_fld (pv 0) (pe_disp (pps_cons pe_int (pe_glob (v:=.ref w1) (by rfl) hw1 rfl) pps_nil) rfl rfl (by simp) (by decide)) rfl) (pss_cons (ps_fld (pv 0) pe_dnewT rfl) (pss_one (ps_fld (pv 0) pe_dnewK rfl))),?_⟩
  intro kd hkd
  refine ⟨upd_same,[(kI 0,V.ref w1)],rfl,(show 1 ≤ 15 by decide),?_⟩
  have em : mergeK [] [(kI 0,V.ref w1)] = [(kI 0,V.ref w1)]:=rfl
  rw [em,upd_upd]
  have s1:=same_tup (x:=.dK [(kI 0,V.ref w1)]) hkd
  refine ⟨_,rfl,p,C,dx,_,rfl,s1 _ _ hp,T.cl,T.n1,by decide,fun wd hwd => ?_⟩
  have e1 : putF "kept" (.ref kd) [] = ([("kept",V.ref kd)] : List (Str × V)):=rfl
  rw [e1] at hwd ⊢
  have n1 : wd ≠ p:=fun z => by rw [z,upd_same] at hwd; cases hwd
  have hwd' : upd H kd (.dK [(kI 0,V.ref w1)]) wd = none:=by rw [upd_ne n1] at hwd; exact hwd
  have s2:=same_tup (x:=.dT []) hwd
  refine ⟨_,rfl,p,C,dx,_,rfl,s2 _ _ upd_same,T.cl,T.n2,(show 1 < 1000 by decide),fun hd hhd => ?_⟩
  have e2 : putF "on_works" (.ref wd) ([("kept",V.ref kd)] : List (Str × V)) = ([("kept",V.ref kd),("on_works",V.ref wd)] : List (Str × V)):=rfl
  rw [e2] at hhd ⊢
  have n2 : hd ≠ p:=fun z => by rw [z,upd_same] at hhd; cases hhd
  have s3:=same_tup (x:=.dK []) hhd
  refine ⟨_,rfl,p,C,dx,_,rfl,s3 _ _ upd_same,T.cl,T.n3,(show 2 < 1000 by decide),?_⟩
  have e3 : putF "on_way_home" (.ref hd) ([("kept",V.ref kd),("on_works",V.ref wd)] : List (Str × V)) = ([("kept",V.ref kd),("on_works",V.ref wd),("on_way_home",V.ref hd)] : List (Str × V)):=rfl
  rw [e3]
  have no_p : kd ≠ p:=fun z => by rw [z,hp] at hkd; cases hkd
  have nd_p : dx ≠ p:=ne_of hdx hp (by intro z; cases z)
  have hod : kd ≠ dx:=fun z => by rw [z,hdx] at hkd; cases hkd
  have hpad : wd ≠ dx:=fun z => by rw [z,upd_ne (Ne.symm hod)] at hwd'; rw [hdx] at hwd'; cases hwd'
  have hpao : wd ≠ kd:=fun z => by rw [z,upd_same] at hwd'; cases hwd'
  have hle1 : upd (upd (upd H kd (.dK [(kI 0,V.ref w1)])) p (.ins C dx [("kept",V.ref kd)])) wd (.dT []) hd = none:=by rw [upd_ne n2] at hhd; exact hhd
  have hlepa : hd ≠ wd:=fun z => by rw [z,upd_same] at hle1; cases hle1
  rw [upd_ne hlepa,upd_ne n2] at hle1
  have hleo : hd ≠ kd:=fun z => by rw [z,upd_same] at hle1; cases hle1
  rw [upd_ne hleo] at hle1
  have hled : hd ≠ dx:=fun z => by rw [z,hdx] at hle1; cases hle1
  have hpa0 : H wd = none:=by rw [upd_ne hpao] at hwd'; exact hwd'
  refine q _ _ ⟨dx,kd,wd,hd,[(kI 0,V.ref w1)],[],[],fun _ _ => none,fun _ => none,⟨hn,upd_same,?_,?_,?_,?_,Ne.symm hleo,⟨_,(DK.nil n).put h0 (V.ref w1) (fun _ => rfl),fun k => ?_⟩,DT.nil n,DK.nil n,fun _ _ => rfl,fun _ => rfl,(fun _ _ _ _ _ z => nomatch z),(fun _ _ _ z => nomatch z),(fun _ _ _ _ z => nomatch z)⟩,rfl⟩ (fun b u hb nb => ?_) (fun b hb => ?_)
  · rw [upd_ne nd_p,upd_ne (Ne.symm hled),upd_ne nd_p,upd_ne (Ne.symm hpad),upd_ne nd_p,upd_ne (Ne.symm hod)]; exact hdx
  · rw [upd_ne no_p,upd_ne (Ne.symm hleo),upd_ne no_p,upd_ne (Ne.symm hpao),upd_ne no_p,upd_same]
  · rw [upd_ne n1,upd_ne (Ne.symm hlepa),upd_ne n1,upd_same]
  · rw [upd_ne n2,upd_same]
  · show HeldV K _ (if k = 0 then some (V.ref w1) else none) (if k = 0 then 2 ^ 90 else 0)
    split
    · exact ⟨w1,1,0,rfl,.inr tw1,⟨.inr ⟨by decide,by decide,by decide⟩⟩⟩
    · rfl
  · rw [upd_ne nb,upd_ne (ne_of_none hb hle1),upd_ne nb,upd_ne (ne_of_none hb hpa0),upd_ne nb,upd_ne (ne_of_none hb hkd)]; exact hb
  · rcases hb with z | z | z | z | z | ⟨_,_,z⟩ | ⟨_,z⟩
    · exact .inl z
    · exact .inr (.inl z)
    · rw [z]; exact .inr (.inr hkd)
    · rw [z]; exact .inr (.inr hpa0)
    · rw [z]; exact .inr (.inr hle1)
    · cases z
    · cases z
end
end Qh
set_option Elab.async false
set_option linter.all false
set_option maxRecDepth 100000
namespace Qh
open PySem L2 Tx
def ringF (n : Nat) (s : S) (cd od : Addr) : List (Str × V):=[("last",.int ((n : Int) - 1)),("counts",.ref cd),("colours",.ref od),("place",.int (s.place : Nat)),("gathered",.int s.tcnt),("shade",.str (colour s.tblack)),("has_gone",.bl s.begun),("telling",.bl s.found)]
def Cols (n : Nat) (kvs : List (Key × V)) (g : Nat → Bool) : Prop:=∃ f,DK n kvs f ∧ ∀ k,(f k).getD (.str "white") = .str (colour (g k))
theorem Cols.nil (n : Nat) : Cols n [] (fun _ => false):=⟨_,DK.nil n,fun _ => rfl⟩
theorem Cols.get {n : Nat} {kvs : List (Key × V)} {g : Nat → Bool} (h : Cols n kvs g) (k : Nat) : (valV kvs (kI k)).getD (.str "white") = .str (colour (g k)):=let ⟨_,d,e⟩:=h; by rw [d.val]; exact e k
theorem Cols.small {n : Nat} {kvs : List (Key × V)} {g : Nat → Bool} (h : Cols n kvs g) (hn : n ≤ 6) : kvs.length < sizeLine:=let ⟨_,d,_⟩:=h; d.small hn
theorem Cols.put {n : Nat} {kvs : List (Key × V)} {g : Nat → Bool} (h : Cols n kvs g) {k : Nat} (hk : k < n) (v : Bool) : Cols n (putK kvs (kI k) (.str (colour v))) (up g k v):=by
  obtain ⟨f,d,q⟩:=h
  refine ⟨_,d.put hk (.str (colour v)) (fun _ => rfl),fun j => ?_⟩
  rw [up_at]
  by_cases z : j = k
  · simp only [if_pos z]; rfl
  · simp only [if_neg z]; exact q j
structure RingD (K : PySem.W.Frag) (C : Addr) (n : Nat) (H : Hp) (p : Addr) (s : S) (dx cd od : Addr) (kvc kvo : List (Key × V)) : Prop where
  n6 : n ≤ 6
  hp : H p = some (.ins C dx (ringF n s cd od))
  hd : H dx = some (.own p)
  hc : H cd = some (.dK kvc)
  ho : H od = some (.dK kvo)
  ne : cd ≠ od
  no : Num n kvc s.cnt
  co : Cols n kvo s.black
def FR (p dx cd od : Addr) : Addr → Prop:=fun b => b = p ∨ b = dx ∨ b = cd ∨ b = od
def RingIs (K : PySem.W.Frag) (C : Addr) (n : Nat) (H : Hp) (p : Addr) (s : S) (F : Addr → Prop) : Prop:=∃ dx cd od kvc kvo,RingD K C n H p s dx cd od kvc kvo ∧ F = FR p dx cd od
section
variable {K : PySem.W.Frag} {C : Addr} {n : Nat} {H H' : Hp} {p : Addr} {s t : S} {F : Addr → Prop} {dx cd od : Addr} {kvc kvo : List (Key × V)}
theorem RingD.keep (T : RingD K C n H p s dx cd od kvc kvo) (k : ∀ b u,H b = some u → FR p dx cd od b → H' b = some u) : RingD K C n H' p s dx cd od kvc kvo :=
  ⟨T.n6,k _ _ T.hp (.inl rfl),k _ _ T.hd (.inr (.inl rfl)),k _ _ T.hc (.inr (.inr (.inl rfl))),k _ _ T.ho (.inr (.inr (.inr rfl))),T.ne,T.no,T.co⟩
theorem RingIs.of (T : RingIs K C n H p s F) (h1 : t.cnt = s.cnt) (h2 : t.black = s.black) (h3 : t.place = s.place) (h4 : t.tcnt = s.tcnt) (h5 : t.tblack = s.tblack) (h6 : t.begun = s.begun) (h7 : t.found = s.found) : RingIs K C n H p t F:=by
  obtain ⟨dx,cd,od,a,b,D,e⟩:=T
  refine ⟨dx,cd,od,a,b,⟨D.n6,?_,D.hd,D.hc,D.ho,D.ne,by rw [h1]; exact D.no,by rw [h2]; exact D.co⟩,e⟩
  unfold ringF
  rw [h3,h4,h5,h6,h7]; exact D.hp
theorem RingIs.part (T : RingIs K C n H p s F) : Part (fun H' => RingIs K C n H' p s F) H F:=by
  obtain ⟨dx,cd,od,a,b,T,rfl⟩:=T
  refine ⟨fun b hb => ?_,fun H' k => ⟨dx,cd,od,a,b,T.keep fun b u h f => k b u h (.inl f),rfl⟩⟩
  rcases hb with rfl | rfl | rfl | rfl
  · rw [T.hp]; exact ⟨by simp,by simp⟩
  · rw [T.hd]; exact ⟨by simp,by simp⟩
  · rw [T.hc]; exact ⟨by simp,by simp⟩
  · rw [T.ho]; exact ⟨by simp,by simp⟩
theorem RingD.putC (T : RingD K C n H p s dx cd od kvc kvo) {kv : List (Key × V)} {g : Nat → Int} (h : Num n kv g) : RingD K C n (upd H cd (.dK kv)) p { s with cnt:=g } dx cd od kv kvo:=by
  refine ⟨T.n6,?_,?_,upd_same,?_,T.ne,h,T.co⟩
  · rw [upd_ne (ne_of T.hp T.hc (by intro z; cases z))]; exact T.hp
  · rw [upd_ne (ne_of T.hd T.hc (by intro z; cases z))]; exact T.hd
  · rw [upd_ne T.ne.symm]; exact T.ho
theorem RingD.putO (T : RingD K C n H p s dx cd od kvc kvo) {kv : List (Key × V)} {g : Nat → Bool} (h : Cols n kv g) : RingD K C n (upd H od (.dK kv)) p { s with black:=g } dx cd od kvc kv:=by
  refine ⟨T.n6,?_,?_,?_,upd_same,T.ne,T.no,h⟩
  · rw [upd_ne (ne_of T.hp T.ho (by intro z; cases z))]; exact T.hp
  · rw [upd_ne (ne_of T.hd T.ho (by intro z; cases z))]; exact T.hd
  · rw [upd_ne T.ne]; exact T.hc
theorem RingD.putF' (T : RingD K C n H p s dx cd od kvc kvo) {fs : List (Str × V)} (e1 : t.cnt = s.cnt) (e2 : t.black = s.black) (h : fs = ringF n t cd od) : RingD K C n (upd H p (.ins C dx fs)) p t dx cd od kvc kvo:=by
  refine ⟨T.n6,by rw [upd_same,h],?_,?_,?_,T.ne,by rw [e1]; exact T.no,by rw [e2]; exact T.co⟩
  · rw [upd_ne (ne_of T.hd T.hp (by intro z; cases z))]; exact T.hd
  · rw [upd_ne (ne_of T.hc T.hp (by intro z; cases z))]; exact T.hc
  · rw [upd_ne (ne_of T.ho T.hp (by intro z; cases z))]; exact T.ho
end
section
variable (K : PySem.W.Frag) (C : Addr)
def rqToken : Sp:=fun vs H Q _ => ∃ n p s F,vs = [.ref p] ∧ RingIs K C n H p s F ∧ ∀ t H',Same H H' → H' t = some (.tup [.int (s.place : Nat),.int s.tcnt,.str (colour s.tblack)]) → Q (.ref t) H'
def rqCount : Sp:=fun vs H Q _ => ∃ n p s F k,vs = [.ref p,.int (k : Nat)] ∧ RingIs K C n H p s F ∧ Q (.int (s.cnt k)) H
def rqColour : Sp:=fun vs H Q _ => ∃ n p s F k,vs = [.ref p,.int (k : Nat)] ∧ RingIs K C n H p s F ∧ Q (.str (colour (s.black k))) H
def raSend : Sp:=fun vs H Q _ => ∃ n p s F a,vs = [.ref p,.int (a : Nat)] ∧ RingIs K C n H p s F ∧ a < n ∧ ∀ H',RingIs K C n H' p { s with cnt:=up s.cnt a (s.cnt a + 1) } F → Kept H H' F F → Q .non H'
def raTake : Sp:=fun vs H Q _ => ∃ n p s F a,vs = [.ref p,.int (a : Nat)] ∧ RingIs K C n H p s F ∧ a < n ∧ ∀ H',RingIs K C n H' p { s with cnt:=up s.cnt a (s.cnt a - 1),black:=up s.black a true } F → Kept H H' F F → Q .non H'
def raEnd : Sp:=fun vs H Q _ => ∃ n p s F,vs = [.ref p] ∧ RingIs K C n H p s F ∧ ∀ H',RingIs K C n H' p { s with found:=s.found || calm s } F → Kept H H' F F → Q .non H'
def raBegin : Sp:=fun vs H Q _ => ∃ n p s F,vs = [.ref p] ∧ RingIs K C n H p s F ∧ 0 < n ∧ ∀ H',RingIs K C n H' p { s with place:=n - 1,tcnt:=0,tblack:=false,begun:=true,black:=up s.black 0 false } F → Kept H H' F F → Q .non H'
def raStep : Sp:=fun vs H Q _ => ∃ n p s F,vs = [.ref p] ∧ RingIs K C n H p s F ∧ s.place ≠ 0 ∧ s.place < n ∧ ∀ H',RingIs K C n H' p { s with place:=s.place - 1,tcnt:=s.tcnt + s.cnt s.place,tblack:=s.tblack || s.black s.place,black:=up s.black s.place false } F → Kept H H' F F → Q .non H'
def raPass : Sp:=fun vs H Q _ => ∃ n p s F,vs = [.ref p] ∧ RingIs K C n H p s F ∧ s.place < n ∧ ∀ H',RingIs K C n H' p (step n s .pass) F → Kept H H' F F → Q .non H'
end
section
variable {P : Program} {w : World} {K : PySem.W.Frag} {mg : Str → Option Value} {base : Heap} {C : Addr}
structure RingC (K : PySem.W.Frag) (mg : Str → Option Value) (C : Addr) : Prop where
  cl : Cls K C
  last : NoAttr K C "last"
  counts : NoAttr K C "counts"
  colours : NoAttr K C "colours"
  place : NoAttr K C "place"
  gathered : NoAttr K C "gathered"
  shade : NoAttr K C "shade"
  gone : NoAttr K C "has_gone"
  telling : NoAttr K C "telling"
  white : ∃ u,mg "WHITE" = some u ∧ RelV (.str "white") u
  black : ∃ u,mg "BLACK" = some u ∧ RelV (.str "black") u
theorem col_white (b : Bool) : decide (V.str (colour b) = V.str "white") = !b:=by cases b <;> decide +kernel
theorem col_black (b : Bool) : decide (V.str (colour b) = V.str "black") = b:=by cases b <;> decide +kernel
theorem sc_r1 : FnScope ["self"] ["self"] (defScope s_Ring_token):=⟨rfl,rfl,rfl,by decide +kernel,rfl,by decide +kernel,by decide +kernel⟩
theorem ok_r_token {f : Addr} {fd : FuncData} (F : Fun K "token" "Ring.token" s_Ring_token f fd) (T : RingC K mg C) : FnOk P w K mg base CX0 1 f fd ["self"] (rqToken K C):=by
  refine F.ok sc_r1 (fun vs H Q E h => ?_) (fun cdv A outer s H vs Q E hr h => ?_)
  · obtain ⟨_,_,_,_,rfl,_⟩:=h; rfl
  obtain ⟨n,p,s,F,rfl,⟨dx,cd,od,kvc,kvo,D,rfl⟩,q⟩:=h
  refine ⟨_,pss_one (ps_ret (pe_tup (pa_cons (pe_fld (pv 0) rfl) (pa_cons (pe_fld (pv 0) rfl) (pa_cons (pe_fld (pv 0) rfl) pa_nil))))),?_⟩
  refine ⟨_,rfl,p,C,dx,_,_,rfl,D.hp,T.cl,T.place,rfl,_,rfl,p,C,dx,_,_,rfl,D.hp,T.cl,T.gathered,rfl,_,rfl,p,C,dx,_,_,rfl,D.hp,T.cl,T.shade,rfl,le1000 (by show 3 ≤ 1000; decide),fun t ht => ?_⟩
  exact q t _ (same_tup ht) upd_same
theorem sc_r2 : FnScope ["self","hand"] ["self","hand"] (defScope s_Ring_count_of):=⟨rfl,rfl,rfl,by decide +kernel,rfl,by decide +kernel,by decide +kernel⟩
theorem ok_r_count {f : Addr} {fd : FuncData} (F : Fun K "count_of" "Ring.count_of" s_Ring_count_of f fd) (T : RingC K mg C) : FnOk P w K mg base CX0 1 f fd ["self","hand"] (rqCount K C):=by
  refine F.ok sc_r2 (fun vs H Q E h => ?_) (fun cdv A outer s H vs Q E hr h => ?_)
  · obtain ⟨_,_,_,_,_,rfl,_⟩:=h; rfl
  obtain ⟨n,p,s,F,k,rfl,⟨dx,cd,od,kvc,kvo,D,rfl⟩,q⟩:=h
  refine ⟨_,pss_one (ps_ret (pe_dget2 (hu_of hr) (pe_fld (pv 0) rfl) (pv 1) pe_int ⟨rfl,rfl,rfl,rfl⟩)),?_⟩
  refine ⟨_,rfl,p,C,dx,_,_,rfl,D.hp,T.cl,T.counts,rfl,cd,rfl,.inl ⟨_,.inl D.hc⟩,_,rfl,_,DGet.k (k:=kI k) D.hc,?_⟩
  rw [D.no.get]
  exact q
theorem sc_r3 : FnScope ["self","hand"] ["self","hand"] (defScope s_Ring_colour_of):=⟨rfl,rfl,rfl,by decide +kernel,rfl,by decide +kernel,by decide +kernel⟩
theorem ok_r_colour {f : Addr} {fd : FuncData} (F : Fun K "colour_of" "Ring.colour_of" s_Ring_colour_of f fd) (T : RingC K mg C) : FnOk P w K mg base CX0 1 f fd ["self","hand"] (rqColour K C):=by
  refine F.ok sc_r3 (fun vs H Q E h => ?_) (fun cdv A outer s H vs Q E hr h => ?_)
  · obtain ⟨_,_,_,_,_,rfl,_⟩:=h; rfl
  obtain ⟨n,p,s,F,k,rfl,⟨dx,cd,od,kvc,kvo,D,rfl⟩,q⟩:=h
  obtain ⟨u,hu,ru⟩:=T.white
  refine ⟨_,pss_one (ps_ret (pe_dget2 (hu_of hr) (pe_fld (pv 0) rfl) (pv 1) (pe_glob (by rfl) hu ru) ⟨rfl,rfl,rfl,rfl⟩)),?_⟩
  refine ⟨_,rfl,p,C,dx,_,_,rfl,D.hp,T.cl,T.colours,rfl,od,rfl,.inl ⟨_,.inl D.ho⟩,_,rfl,_,DGet.k (k:=kI k) D.ho,?_⟩
  rw [D.co.get]
  exact q
theorem sc_r4 : FnScope ["self","one"] ["self","one"] (defScope s_Ring_send):=⟨rfl,rfl,rfl,by decide +kernel,rfl,by decide +kernel,by decide +kernel⟩
theorem ok_r_send {f : Addr} {fd : FuncData} (F : Fun K "send" "Ring.send" s_Ring_send f fd) (T : RingC K mg C) (Mc : Mt P w K mg base C "count_of" 1 ["self","hand"] (rqCount K C)) : FnOk P w K mg base CX0 2 f fd ["self","one"] (raSend K C):=by
  refine F.ok sc_r4 (fun vs H Q E h => ?_) (fun cdv A outer s H vs Q E hr h => ?_)
  · obtain ⟨_,_,_,_,_,rfl,_⟩:=h; rfl
  obtain ⟨n,p,s,F,a,rfl,TI,ha,q⟩:=h
  obtain ⟨dx,cd,od,kvc,kvo,D,rfl⟩:=id TI
  refine ⟨_,pss_one (ps_dput (hu_of hr) (pe_fld (pv 0) rfl) (pv 1) (pe_op op_add (pe_mt Mc T.cl hr (by decide) (pv 0) (pa_cons (pv 1) pa_nil)) pe_int) rfl),?_⟩
  refine ⟨_,rfl,p,dx,_,rfl,D.hp,rfl,_,rfl,n,p,s,_,a,rfl,TI,_,_,rfl,rfl,_,rfl,p,C,dx,_,_,rfl,D.hp,T.cl,T.counts,rfl,_,rfl,cd,_,rfl,DPut.k (k:=kI a) D.hc (D.no.small D.n6),?_⟩
  exact q _ ⟨dx,cd,od,_,kvo,D.putC (D.no.put ha _ fun j => up_at _ _ _ _),rfl⟩ (Kept.upd _ (.inr (.inr (.inl rfl))))
theorem sc_r5 : FnScope ["self","other"] ["self","other"] (defScope s_Ring_take):=⟨rfl,rfl,rfl,by decide +kernel,rfl,by decide +kernel,by decide +kernel⟩
theorem ok_r_take {f : Addr} {fd : FuncData} (F : Fun K "take" "Ring.take" s_Ring_take f fd) (T : RingC K mg C) (Mc : Mt P w K mg base C "count_of" 1 ["self","hand"] (rqCount K C)) : FnOk P w K mg base CX0 2 f fd ["self","other"] (raTake K C):=by
  refine F.ok sc_r5 (fun vs H Q E h => ?_) (fun cdv A outer s H vs Q E hr h => ?_)
  · obtain ⟨_,_,_,_,_,rfl,_⟩:=h; rfl
  obtain ⟨n,p,s,F,a,rfl,TI,ha,q⟩:=h
  obtain ⟨dx,cd,od,kvc,kvo,D,rfl⟩:=id TI
  obtain ⟨u,hu,ru⟩:=T.black
  refine ⟨_,pss_cons (ps_dput (hu_of hr) (pe_fld (pv 0) rfl) (pv 1) (pe_op op_sub (pe_mt Mc T.cl hr (by decide) (pv 0) (pa_cons (pv 1) pa_nil)) pe_int) rfl) (pss_one (ps_dput (hu_of hr) (pe_fld (pv 0) rfl) (pv 1) (pe_glob (by rfl) hu ru) rfl)),?_⟩
  refine ⟨_,rfl,p,dx,_,rfl,D.hp,rfl,_,rfl,n,p,s,_,a,rfl,TI,_,_,rfl,rfl,_,rfl,p,C,dx,_,_,rfl,D.hp,T.cl,T.counts,rfl,_,rfl,cd,_,rfl,DPut.k (k:=kI a) D.hc (D.no.small D.n6),?_⟩
  have D1:=D.putC (D.no.put (g':=up s.cnt a (s.cnt a - 1)) ha (s.cnt a - 1) fun j => up_at _ _ _ _)
  refine ⟨_,rfl,p,C,dx,_,_,rfl,D1.hp,T.cl,T.colours,rfl,_,rfl,od,_,rfl,DPut.k (k:=kI a) D1.ho (D.co.small D.n6),?_⟩
  have D2:=D1.putO (D1.co.put ha true)
  exact q _ ⟨dx,cd,od,_,_,D2,rfl⟩ ((Kept.upd _ (.inr (.inr (.inl rfl)))).trans (Kept.upd _ (.inr (.inr (.inr rfl)))))
theorem sc_r6 : FnScope ["self","clean"] ["self"] (defScope s_Ring_end_round):=⟨rfl,rfl,rfl,by decide +kernel,rfl,by decide +kernel,by decide +kernel⟩
theorem ok_r_end {f : Addr} {fd : FuncData} (F : Fun K "end_round" "Ring.end_round" s_Ring_end_round f fd) (T : RingC K mg C) (Mc : Mt P w K mg base C "count_of" 1 ["self","hand"] (rqCount K C)) (Mb : Mt P w K mg base C "colour_of" 1 ["self","hand"] (rqColour K C)) :
    FnOk P w K mg base CX0 2 f fd ["self"] (raEnd K C):=by
  refine F.ok sc_r6 (fun vs H Q E h => ?_) (fun cdv A outer s H vs Q E hr h => ?_)
  · obtain ⟨_,_,_,_,rfl,_⟩:=h; rfl
  obtain ⟨n,p,s,F,rfl,TI,q⟩:=h
  obtain ⟨dx,cd,od,kvc,kvo,D,rfl⟩:=id TI
  obtain ⟨u,hu,ru⟩:=T.white
  refine ⟨_,pss_cons (ps_set (i:=1) sc_r6.nd rfl (Or.inl rfl) (pe_and (pe_cmpR op_eq (pe_fld (pv 0) rfl) (pe_glob (by rfl) hu ru) (nomark _)) (pe_one (pe_cmpR op_eq (pe_mt Mb T.cl hr (by decide) (pv 0) (pa_cons pe_int pa_nil)) (pe_glob (by rfl) hu ru) (nomark _)))))
    (pss_one (ps_if (PW.pt (pw_and (pt_truth (pe_fld (pv 0) rfl) (fun _ => rfl)) (pw_and (pt_truth (pv 1) (fun _ => rfl)) (pw_and1 (pt_cmpR op_eq (pe_op op_add (pe_fld (pv 0) rfl) (pe_mt Mc T.cl hr (by decide) (pv 0) (pa_cons pe_int pa_nil))) pe_int (nomark _))))))
      (pss_one (ps_fld (pv 0) pe_bl rfl)) pss_nil)),?_⟩
  refine seq_mid (fun σ H1 => σ = [some (.ref p),some (.bl (!s.tblack && !s.black 0))] ∧ H1 = H) (fun U hU => ?_) ?_
  · refine ⟨_,rfl,p,C,dx,_,_,rfl,D.hp,T.cl,T.shade,rfl,rfl,_,rfl,?_⟩
    rw [col_white]
    cases tb : s.tblack with
    | true => exact iteF (hU _ _ ⟨by rw [tb]; rfl,rfl⟩)
    | false =>
      refine iteT ⟨_,rfl,p,dx,_,rfl,D.hp,rfl,n,p,s,_,0,rfl,TI,rfl,?_⟩
      rw [col_white]
      exact hU _ _ ⟨by rw [tb]; rfl,rfl⟩
  rintro σ H1 ⟨rfl,rfl⟩
  have no : calm s = false → RingIs K C n H1 p { s with found:=s.found || calm s } (FR p dx cd od):=fun h => by rw [h,Bool.or_false]; exact TI
  refine ⟨_,rfl,p,C,dx,_,_,rfl,D.hp,T.cl,T.gone,rfl,_,rfl,?_⟩
  cases bg : s.begun with
  | false => exact iteF (iteF (q H1 (no (by unfold calm; rw [bg]; rfl)) (Kept.refl _ _)))
  | true =>
    refine iteT ⟨_,rfl,_,rfl,?_⟩
    cases cl : (!s.tblack && !s.black 0) with
    | false => exact iteF (iteF (q H1 (no (by unfold calm; rw [bg,Bool.true_and,cl]; rfl)) (Kept.refl _ _)))
    | true =>
      refine iteT ⟨_,rfl,p,C,dx,_,_,rfl,D.hp,T.cl,T.gathered,rfl,_,rfl,p,dx,_,rfl,D.hp,rfl,n,p,s,_,0,rfl,TI,_,_,rfl,rfl,rfl,_,rfl,?_⟩
      have ec : calm s = decide (s.tcnt + s.cnt 0 = 0):=by unfold calm; rw [bg,Bool.true_and,cl,Bool.true_and]
      refine ite2 (fun h0 => ?_) (fun h0 => ?_)
      · have h0 : s.tcnt + s.cnt 0 = 0:=by have:=of_decide_eq_true h0; rw [V.int.injEq] at this; exact this
        refine ⟨_,rfl,p,C,dx,_,rfl,D.hp,T.cl,T.telling,(show 8 < 1000 by decide),?_⟩
        refine q _ ⟨dx,cd,od,kvc,kvo,D.putF' rfl rfl ?_,rfl⟩ (Kept.upd _ (.inl rfl))
        rw [ec,decide_eq_true h0,Bool.or_true]
        rfl
      · have h0 : ¬ s.tcnt + s.cnt 0 = 0:=fun z => h0 (decide_eq_true (by show V.int (s.tcnt + s.cnt 0) = V.int 0; rw [z]))
        exact q H1 (no (by rw [ec]; exact decide_eq_false h0)) (Kept.refl _ _)
theorem sc_r7 : FnScope ["self"] ["self"] (defScope s_Ring_begin_round):=⟨rfl,rfl,rfl,by decide +kernel,rfl,by decide +kernel,by decide +kernel⟩
theorem ok_r_begin {f : Addr} {fd : FuncData} (F : Fun K "begin_round" "Ring.begin_round" s_Ring_begin_round f fd) (T : RingC K mg C) : FnOk P w K mg base CX0 1 f fd ["self"] (raBegin K C):=by
  refine F.ok sc_r7 (fun vs H Q E h => ?_) (fun cdv A outer s H vs Q E hr h => ?_)
  · obtain ⟨_,_,_,_,rfl,_⟩:=h; rfl
  obtain ⟨n,p,s,F,rfl,TI,h0,q⟩:=h
  obtain ⟨dx,cd,od,kvc,kvo,D,rfl⟩:=id TI
  obtain ⟨u,hu,ru⟩:=T.white
  refine ⟨_,pss_cons (ps_dput (hu_of hr) (pe_fld (pv 0) rfl) pe_int (pe_glob (by rfl) hu ru) rfl) (pss_cons (ps_fld (pv 0) (pe_glob (by rfl) hu ru) rfl) (pss_cons (ps_fld (pv 0) pe_int rfl) (pss_cons (ps_fld (pv 0) (pe_fld (pv 0) rfl) rfl) (pss_one (ps_fld (pv 0) pe_bl rfl))))),?_⟩
  refine ⟨_,rfl,p,C,dx,_,_,rfl,D.hp,T.cl,T.colours,rfl,od,_,rfl,DPut.k (k:=kI 0) D.ho (D.co.small D.n6),?_⟩
  have D1:=D.putO (D.co.put h0 false)
  refine ⟨_,rfl,p,C,dx,_,rfl,D1.hp,T.cl,T.shade,(show 8 < 1000 by decide),?_⟩
  have D2:=D1.putF' (fs:=putF "shade" (.str "white") (ringF n { s with black:=up s.black 0 false } cd od)) (t:={ s with black:=up s.black 0 false,tblack:=false }) rfl rfl rfl
  refine ⟨_,rfl,p,C,dx,_,rfl,D2.hp,T.cl,T.gathered,(show 8 < 1000 by decide),?_⟩
  have D3:=D2.putF' (fs:=putF "gathered" (.int 0) (ringF n { s with black:=up s.black 0 false,tblack:=false } cd od)) (t:={ s with black:=up s.black 0 false,tblack:=false,tcnt:=0 }) rfl rfl rfl
  refine ⟨_,rfl,p,C,dx,_,_,rfl,D3.hp,T.cl,T.last,rfl,_,rfl,p,C,dx,_,rfl,D3.hp,T.cl,T.place,(show 8 < 1000 by decide),?_⟩
  have ev : ((n : Nat) : Int) - 1 = ((n - 1 : Nat) : Int):=by omega
  have D4:=D3.putF' (fs:=putF "place" (.int ((n : Int) - 1)) (ringF n { s with black:=up s.black 0 false,tblack:=false,tcnt:=0 } cd od)) (t:={ s with black:=up s.black 0 false,tblack:=false,tcnt:=0,place:=n - 1 }) rfl rfl (by rw [ev]; unfold ringF; rw [ev]; rfl)
  refine ⟨_,rfl,p,C,dx,_,rfl,D4.hp,T.cl,T.gone,(show 8 < 1000 by decide),?_⟩
  have D5:=D4.putF' (fs:=putF "has_gone" (.bl true) (ringF n { s with black:=up s.black 0 false,tblack:=false,tcnt:=0,place:=n - 1 } cd od)) (t:={ s with place:=n - 1,tcnt:=0,tblack:=false,begun:=true,black:=up s.black 0 false }) rfl rfl rfl
  exact q _ ⟨dx,cd,od,kvc,_,D5,rfl⟩ (((((Kept.upd _ (.inr (.inr (.inr rfl)))).trans (Kept.upd _ (.inl rfl))).trans (Kept.upd _ (.inl rfl))).trans (Kept.upd _ (.inl rfl))).trans (Kept.upd _ (.inl rfl)))
theorem sc_r8 : FnScope ["self"] ["self"] (defScope s_Ring_step_down):=⟨rfl,rfl,rfl,by decide +kernel,rfl,by decide +kernel,by decide +kernel⟩
theorem ok_r_step {f : Addr} {fd : FuncData} (F : Fun K "step_down" "Ring.step_down" s_Ring_step_down f fd) (T : RingC K mg C) (Mc : Mt P w K mg base C "count_of" 1 ["self","hand"] (rqCount K C)) (Mb : Mt P w K mg base C "colour_of" 1 ["self","hand"] (rqColour K C)) :
    FnOk P w K mg base CX0 2 f fd ["self"] (raStep K C):=by
  refine F.ok sc_r8 (fun vs H Q E h => ?_) (fun cdv A outer s H vs Q E hr h => ?_)
  · obtain ⟨_,_,_,_,rfl,_⟩:=h; rfl
  obtain ⟨n,p,s,F,rfl,TI,hp0,hpn,q⟩:=h
  obtain ⟨dx,cd,od,kvc,kvo,D,rfl⟩:=id TI
  obtain ⟨u,hu,ru⟩:=T.white
  obtain ⟨u2,hu2,ru2⟩:=T.black
  refine ⟨_,pss_cons (ps_fld (pv 0) (pe_op op_add (pe_fld (pv 0) rfl) (pe_mt Mc T.cl hr (by decide) (pv 0) (pa_cons (pe_fld (pv 0) rfl) pa_nil))) rfl)
    (pss_cons (ps_if (pt_cmpR op_eq (pe_mt Mb T.cl hr (by decide) (pv 0) (pa_cons (pe_fld (pv 0) rfl) pa_nil)) (pe_glob (by rfl) hu2 ru2) (nomark _)) (pss_one (ps_fld (pv 0) (pe_glob (by rfl) hu2 ru2) rfl)) pss_nil)
    (pss_cons (ps_dput (hu_of hr) (pe_fld (pv 0) rfl) (pe_fld (pv 0) rfl) (pe_glob (by rfl) hu ru) rfl)
    (pss_one (ps_fld (pv 0) (pe_op op_sub (pe_fld (pv 0) rfl) pe_int) rfl)))),?_⟩
  refine ⟨_,rfl,p,C,dx,_,_,rfl,D.hp,T.cl,T.gathered,rfl,_,rfl,p,dx,_,rfl,D.hp,rfl,_,rfl,p,C,dx,_,_,rfl,D.hp,T.cl,T.place,rfl,n,p,s,_,s.place,rfl,TI,_,_,rfl,rfl,_,rfl,p,C,dx,_,rfl,D.hp,T.cl,T.gathered,(show 8 < 1000 by decide),?_⟩
  have D1:=D.putF' (fs:=putF "gathered" (.int (s.tcnt + s.cnt s.place)) (ringF n s cd od)) (t:={ s with tcnt:=s.tcnt + s.cnt s.place }) rfl rfl rfl
  have k1 : Kept H (upd H p (.ins C dx (putF "gathered" (.int (s.tcnt + s.cnt s.place)) (ringF n s cd od)))) (FR p dx cd od) (FR p dx cd od):=Kept.upd _ (.inl rfl)
  generalize upd H p (.ins C dx (putF "gathered" (.int (s.tcnt + s.cnt s.place)) (ringF n s cd od))) = H1 at D1 k1 ⊢
  dsimp only
  refine seq_mid (fun σ H2 => σ = [some (.ref p)] ∧ RingD K C n H2 p { s with tcnt:=s.tcnt + s.cnt s.place,tblack:=s.tblack || s.black s.place } dx cd od kvc kvo ∧ Kept H1 H2 (FR p dx cd od) (FR p dx cd od)) (fun U hU => ?_) ?_
  · refine ⟨_,rfl,p,dx,_,rfl,D1.hp,rfl,_,rfl,p,C,dx,_,_,rfl,D1.hp,T.cl,T.place,rfl,n,p,_,_,s.place,rfl,⟨dx,cd,od,_,_,D1,rfl⟩,rfl,_,rfl,?_⟩
    rw [col_black]
    show if s.black s.place = true then _ else _
    cases e : s.black s.place with
    | true =>
      refine iteT ⟨_,rfl,p,C,dx,_,rfl,D1.hp,T.cl,T.shade,(show 8 < 1000 by decide),?_⟩
      refine hU _ _ ⟨rfl,D1.putF' rfl rfl ?_,Kept.upd _ (.inl rfl)⟩
      rw [e,Bool.or_true]; rfl
    | false =>
      refine iteF (hU _ _ ⟨rfl,?_,Kept.refl _ _⟩)
      rw [e,Bool.or_false]; exact D1
  rintro σ H2 ⟨rfl,D2,k2⟩
  refine ⟨_,rfl,p,C,dx,_,_,rfl,D2.hp,T.cl,T.colours,rfl,_,rfl,p,C,dx,_,_,rfl,D2.hp,T.cl,T.place,rfl,od,_,rfl,DPut.k (k:=kI s.place) D2.ho (D.co.small D.n6),?_⟩
  have D3:=D2.putO (D2.co.put hpn false)
  refine ⟨_,rfl,p,C,dx,_,_,rfl,D3.hp,T.cl,T.place,rfl,_,_,rfl,rfl,_,rfl,p,C,dx,_,rfl,D3.hp,T.cl,T.place,(show 8 < 1000 by decide),?_⟩
  have ev : ((s.place : Nat) : Int) - 1 = ((s.place - 1 : Nat) : Int):=by omega
  refine q _ ⟨dx,cd,od,kvc,_,D3.putF' rfl rfl ?_,rfl⟩ (((k1.trans k2).trans (Kept.upd _ (.inr (.inr (.inr rfl))))).trans (Kept.upd _ (.inl rfl)))
  show putF "place" (.int (((s.place : Nat) : Int) - 1)) _ = _
  rw [ev]; rfl
theorem sc_r9 : FnScope ["self"] ["self"] (defScope s_Ring_pass_on):=⟨rfl,rfl,rfl,by decide +kernel,rfl,by decide +kernel,by decide +kernel⟩
theorem ok_r_pass {f : Addr} {fd : FuncData} (F : Fun K "pass_on" "Ring.pass_on" s_Ring_pass_on f fd) (T : RingC K mg C) (Me : Mt P w K mg base C "end_round" 2 ["self"] (raEnd K C)) (Mb : Mt P w K mg base C "begin_round" 1 ["self"] (raBegin K C)) (Ms : Mt P w K mg base C "step_down" 2 ["self"] (raStep K C)) :
    FnOk P w K mg base CX0 3 f fd ["self"] (raPass K C):=by
  refine F.ok sc_r9 (fun vs H Q E h => ?_) (fun cdv A outer s H vs Q E hr h => ?_)
  · obtain ⟨_,_,_,_,rfl,_⟩:=h; rfl
  obtain ⟨n,p,s,F,rfl,TI,hpn,q⟩:=h
  obtain ⟨dx,cd,od,kvc,kvo,D,rfl⟩:=id TI
  refine ⟨_,pss_one (ps_if (pt_cmpR op_eq (pe_fld (pv 0) rfl) pe_int (nomark _)) (pss_cons (ps_expr (pe_mt0 Me T.cl hr (by decide) (pv 0))) (pss_one (ps_expr (pe_mt0 Mb T.cl hr (by decide) (pv 0))))) (pss_one (ps_expr (pe_mt0 Ms T.cl hr (by decide) (pv 0))))),?_⟩
  refine ⟨_,rfl,p,C,dx,_,_,rfl,D.hp,T.cl,T.place,rfl,rfl,_,rfl,?_⟩
  refine ite2 (fun h0 => ?_) (fun h0 => ?_)
  · have h0 : s.place = 0:=by have:=of_decide_eq_true h0; rw [V.int.injEq] at this; omega
    refine ⟨_,rfl,p,dx,_,rfl,D.hp,rfl,n,p,s,_,rfl,TI,fun H1 T1 k1 => ?_⟩
    obtain ⟨dx1,cd1,od1,a1,b1,D1,e1⟩:=id T1
    refine ⟨_,rfl,p,dx1,_,rfl,D1.hp,rfl,n,p,_,_,rfl,T1,by omega,fun H2 T2 k2 => q H2 ?_ (k1.trans k2)⟩
    unfold step
    rw [if_pos h0]
    exact T2
  · have h0 : s.place ≠ 0:=fun z => h0 (decide_eq_true (by rw [z]; rfl))
    refine ⟨_,rfl,p,dx,_,rfl,D.hp,rfl,n,p,s,_,rfl,TI,h0,hpn,fun H1 T1 k1 => q H1 ?_ k1⟩
    unfold step
    rw [if_neg h0]
    exact T1
def rInit (K : PySem.W.Frag) (C : Addr) : Sp:=fun vs H Q _ => ∃ (n : Nat) (p dx : Addr),vs = [.ref p,.int ((n : Int) - 1)] ∧ n ≤ 6 ∧ H p = some (.ins C dx []) ∧ H dx = some (.own p) ∧
  ∀ H' F,RingIs K C n H' p new F → (∀ b o,H b = some o → b ≠ p → H' b = some o) → (∀ b,F b → b = p ∨ b = dx ∨ H b = none) → Q .non H'
theorem sc_r0 : FnScope ["self","last"] ["self","last"] (defScope s_Ring___init__):=⟨rfl,rfl,rfl,by decide +kernel,rfl,by decide +kernel,by decide +kernel⟩
theorem ok_r_init {f : Addr} {fd : FuncData} (F : Fun K "__init__" "Ring.__init__" s_Ring___init__ f fd) (T : RingC K mg C) : FnOk P w K mg base CX0 1 f fd ["self","last"] (rInit K C):=by
  refine F.ok sc_r0 (fun vs H Q E h => ?_) (fun cdv A outer s H vs Q E hr h => ?_)
  · obtain ⟨_,_,_,rfl,_⟩:=h; rfl
  obtain ⟨n,p,dx,rfl,hn,hp,hdx,q⟩:=h
  obtain ⟨u,hu,ru⟩:=T.white
  refine ⟨_,pss_cons (ps_fld (pv 0) (pv 1) rfl) (pss_cons (ps_fld (pv 0) pe_dnewK rfl) (pss_cons (ps_fld (pv 0) pe_dnewK rfl) (pss_cons (ps_fld (pv 0) pe_int rfl) (pss_cons (ps_fld (pv 0) pe_int rfl) (pss_cons (ps_fld (pv 0) (pe_glob (by rfl) hu ru) rfl) (pss_cons (ps_fld (pv 0) pe_bl rfl) (pss_one (ps_fld (pv 0) pe_bl rfl)))))))),?_⟩
  refine ⟨_,rfl,_,rfl,p,C,dx,_,rfl,hp,T.cl,T.last,by decide,fun cd hcd => ?_⟩
  have n1 : cd ≠ p:=fun z => by rw [z,upd_same] at hcd; cases hcd
  have hcd0 : H cd = none:=by rw [upd_ne n1] at hcd; exact hcd
  have s1:=same_tup (x:=.dK []) hcd
  refine ⟨_,rfl,p,C,dx,_,rfl,s1 _ _ upd_same,T.cl,T.counts,(show 1 < 1000 by decide),fun od hod => ?_⟩
  have n2 : od ≠ p:=fun z => by rw [z,upd_same] at hod; cases hod
  have hod1:=hod
  rw [upd_ne n2] at hod1
  have noc : od ≠ cd:=fun z => by rw [z,upd_same] at hod1; cases hod1
  rw [upd_ne noc,upd_ne n2] at hod1
  have s2:=same_tup (x:=.dK []) hod
  refine ⟨_,rfl,p,C,dx,_,rfl,s2 _ _ upd_same,T.cl,T.colours,(show 2 < 1000 by decide),?_⟩
  refine ⟨_,rfl,p,C,dx,_,rfl,upd_same,T.cl,T.place,(show 3 < 1000 by decide),?_⟩
  refine ⟨_,rfl,p,C,dx,_,rfl,upd_same,T.cl,T.gathered,(show 4 < 1000 by decide),?_⟩
  refine ⟨_,rfl,p,C,dx,_,rfl,upd_same,T.cl,T.shade,(show 5 < 1000 by decide),?_⟩
  refine ⟨_,rfl,p,C,dx,_,rfl,upd_same,T.cl,T.gone,(show 6 < 1000 by decide),?_⟩
  refine ⟨_,rfl,p,C,dx,_,rfl,upd_same,T.cl,T.telling,(show 7 < 1000 by decide),?_⟩
  simp only [upd_upd]
  have nd_p : dx ≠ p:=ne_of hdx hp (by intro z; cases z)
  have dc : dx ≠ cd:=ne_of_none hdx hcd0
  have do' : dx ≠ od:=ne_of_none hdx hod1
  refine q _ _ ⟨dx,cd,od,[],[],⟨hn,upd_same,?_,?_,?_,Ne.symm noc,Num.nil n,Cols.nil n⟩,rfl⟩ (fun b v hb nb => ?_) (fun b hb => ?_)
  · rw [upd_ne nd_p,upd_ne do',upd_ne nd_p,upd_ne dc,upd_ne nd_p]; exact hdx
  · rw [upd_ne n1,upd_ne (Ne.symm noc),upd_ne n1,upd_same]
  · rw [upd_ne n2,upd_same]
  · rw [upd_ne nb,upd_ne (ne_of_none hb hod1),upd_ne nb,upd_ne (ne_of_none hb hcd0),upd_ne nb]; exact hb
  · rcases hb with z | z | z | z
    · exact .inl z
    · exact .inr (.inl z)
    · rw [z]; exact .inr (.inr hcd0)
    · rw [z]; exact .inr (.inr hod1)
end
end Qh
set_option Elab.async false
set_option linter.all false
set_option maxRecDepth 100000
namespace Qh
open PySem L2 Tx
def hallF (n : Nat) (bd wy t w r : Addr) : List (Str × V):=[("many",.int (n : Nat)),("busy",.ref bd),("on_way",.ref wy),("tree",.ref t),("weights",.ref w),("ring",.ref r)]
def Own (p dx bd wy : Addr) : Addr → Prop:=fun b => b = p ∨ b = dx ∨ b = bd ∨ b = wy
def FH (p dx bd wy : Addr) (GT GW GR : Addr → Prop) : Addr → Prop:=fun b => Own p dx bd wy b ∨ GT b ∨ GW b ∨ GR b
structure Cs where
  h : Addr
  t : Addr
  w : Addr
  r : Addr
structure HallD (K : PySem.W.Frag) (C : Cs) (n : Nat) (H : Hp) (p : Addr) (sB sT sW sR : S) (dx bd wy t w r : Addr) (kvb : List (Key × V)) (kvy : List (List Key × V)) (GT GW GR : Addr → Prop) : Prop where
  n6 : n ≤ 6
  hp : H p = some (.ins C.h dx (hallF n bd wy t w r))
  hd : H dx = some (.own p)
  hb : H bd = some (.dK kvb)
  hy : H wy = some (.dT kvy)
  tb : DK n kvb (fun k => if sB.busy k = true then some (.bl true) else none)
  ty : Num2 n kvy (fun a b => (sB.rows a b).length)
  T : TreeIs K C.t n H t sT GT
  W : WtsIs K C.w n H w sW GW
  R : RingIs K C.r n H r sR GR
  d1 : ∀ b,GT b → ¬ GW b
  d2 : ∀ b,GT b → ¬ GR b
  d3 : ∀ b,GW b → ¬ GR b
  o1 : ∀ b,Own p dx bd wy b → ¬ GT b ∧ ¬ GW b ∧ ¬ GR b
section
variable {K : PySem.W.Frag} {C : Cs} {n : Nat} {H H1 : Hp} {p : Addr} {sB sT sW sR s' : S} {dx bd wy t w r : Addr} {kvb : List (Key × V)} {kvy : List (List Key × V)} {GT GW GR G' : Addr → Prop}
theorem HallD.own (D : HallD K C n H p sB sT sW sR dx bd wy t w r kvb kvy GT GW GR) {b : Addr} (h : Own p dx bd wy b) : H b ≠ none ∧ ∀ xs,H b ≠ some (.tup xs):=by
  rcases h with rfl | rfl | rfl | rfl
  · rw [D.hp]; exact ⟨by simp,by simp⟩
  · rw [D.hd]; exact ⟨by simp,by simp⟩
  · rw [D.hb]; exact ⟨by simp,by simp⟩
  · rw [D.hy]; exact ⟨by simp,by simp⟩
theorem HallD.keep (D : HallD K C n H p sB sT sW sR dx bd wy t w r kvb kvy GT GW GR) (k : ∀ b u,H b = some u → (FH p dx bd wy GT GW GR b ∨ ∃ xs,u = .tup xs) → H1 b = some u) : HallD K C n H1 p sB sT sW sR dx bd wy t w r kvb kvy GT GW GR :=
  ⟨D.n6,k _ _ D.hp (.inl (.inl (.inl rfl))),k _ _ D.hd (.inl (.inl (.inr (.inl rfl)))),k _ _ D.hb (.inl (.inl (.inr (.inr (.inl rfl))))),k _ _ D.hy (.inl (.inl (.inr (.inr (.inr rfl))))),D.tb,D.ty,
    D.T.part.keep _ fun b u h z => k b u h (z.elim (fun z => .inl (.inr (.inl z))) .inr),D.W.part.keep _ fun b u h z => k b u h (z.elim (fun z => .inl (.inr (.inr (.inl z)))) .inr),D.R.part.keep _ fun b u h z => k b u h (z.elim (fun z => .inl (.inr (.inr (.inr z)))) .inr),D.d1,D.d2,D.d3,D.o1⟩
theorem HallD.same (D : HallD K C n H p sB sT sW sR dx bd wy t w r kvb kvy GT GW GR) (e : Same H H1) : HallD K C n H1 p sB sT sW sR dx bd wy t w r kvb kvy GT GW GR:=D.keep fun b u h _ => e b u h
theorem HallD.tree (D : HallD K C n H p sB sT sW sR dx bd wy t w r kvb kvy GT GW GR) (T' : TreeIs K C.t n H1 t s' G') (k : Kept H H1 GT G') : HallD K C n H1 p sB s' sW sR dx bd wy t w r kvb kvy G' GW GR ∧ Kept H H1 (FH p dx bd wy GT GW GR) (FH p dx bd wy G' GW GR):=by
  have ft : ∀ b,GT b → ∀ xs,H b ≠ some (.tup xs):=fun b h => (D.T.part.foot b h).2
  refine ⟨⟨D.n6,k.keep _ _ D.hp (D.o1 p (.inl rfl)).1,k.keep _ _ D.hd (D.o1 dx (.inr (.inl rfl))).1,k.keep _ _ D.hb (D.o1 bd (.inr (.inr (.inl rfl)))).1,k.keep _ _ D.hy (D.o1 wy (.inr (.inr (.inr rfl)))).1,D.tb,D.ty,T',D.W.part.carry k (fun b h g => D.d1 b g h) ft,D.R.part.carry k (fun b h g => D.d2 b g h) ft,fun b h g => ?_,fun b h g => ?_,D.d3,fun b h => ⟨fun g => ?_,(D.o1 b h).2⟩⟩,⟨fun b o e h => k.keep b o e fun g => h (.inr (.inl g)),fun b h => ?_⟩⟩
  · rcases k.new b h with z | z
    · exact D.d1 b z g
    · exact (D.W.part.foot b g).1 z
  · rcases k.new b h with z | z
    · exact D.d2 b z g
    · exact (D.R.part.foot b g).1 z
  · rcases k.new b g with z | z
    · exact (D.o1 b h).1 z
    · exact (D.own h).1 z
  · rcases h with h | h | h | h
    · exact .inl (.inl h)
    · exact (k.new b h).imp (fun z => .inr (.inl z)) id
    · exact .inl (.inr (.inr (.inl h)))
    · exact .inl (.inr (.inr (.inr h)))
theorem HallD.wts (D : HallD K C n H p sB sT sW sR dx bd wy t w r kvb kvy GT GW GR) (T' : WtsIs K C.w n H1 w s' G') (k : Kept H H1 GW G') : HallD K C n H1 p sB sT s' sR dx bd wy t w r kvb kvy GT G' GR ∧ Kept H H1 (FH p dx bd wy GT GW GR) (FH p dx bd wy GT G' GR):=by
  have ft : ∀ b,GW b → ∀ xs,H b ≠ some (.tup xs):=fun b h => (D.W.part.foot b h).2
  refine ⟨⟨D.n6,k.keep _ _ D.hp (D.o1 p (.inl rfl)).2.1,k.keep _ _ D.hd (D.o1 dx (.inr (.inl rfl))).2.1,k.keep _ _ D.hb (D.o1 bd (.inr (.inr (.inl rfl)))).2.1,k.keep _ _ D.hy (D.o1 wy (.inr (.inr (.inr rfl)))).2.1,D.tb,D.ty,D.T.part.carry k (fun b h g => D.d1 b h g) ft,T',D.R.part.carry k (fun b h g => D.d3 b g h) ft,fun b h g => ?_,D.d2,fun b h g => ?_,fun b h => ⟨(D.o1 b h).1,fun g => ?_,(D.o1 b h).2.2⟩⟩,⟨fun b o e h => k.keep b o e fun g => h (.inr (.inr (.inl g))),fun b h => ?_⟩⟩
  · rcases k.new b g with z | z
    · exact D.d1 b h z
    · exact (D.T.part.foot b h).1 z
  · rcases k.new b h with z | z
    · exact D.d3 b z g
    · exact (D.R.part.foot b g).1 z
  · rcases k.new b g with z | z
    · exact (D.o1 b h).2.1 z
    · exact (D.own h).1 z
  · rcases h with h | h | h | h
    · exact .inl (.inl h)
    · exact .inl (.inr (.inl h))
    · exact (k.new b h).imp (fun z => .inr (.inr (.inl z))) id
    · exact .inl (.inr (.inr (.inr h)))
theorem HallD.ring (D : HallD K C n H p sB sT sW sR dx bd wy t w r kvb kvy GT GW GR) (T' : RingIs K C.r n H1 r s' G') (k : Kept H H1 GR G') : HallD K C n H1 p sB sT sW s' dx bd wy t w r kvb kvy GT GW G' ∧ Kept H H1 (FH p dx bd wy GT GW GR) (FH p dx bd wy GT GW G'):=by
  have ft : ∀ b,GR b → ∀ xs,H b ≠ some (.tup xs):=fun b h => (D.R.part.foot b h).2
  refine ⟨⟨D.n6,k.keep _ _ D.hp (D.o1 p (.inl rfl)).2.2,k.keep _ _ D.hd (D.o1 dx (.inr (.inl rfl))).2.2,k.keep _ _ D.hb (D.o1 bd (.inr (.inr (.inl rfl)))).2.2,k.keep _ _ D.hy (D.o1 wy (.inr (.inr (.inr rfl)))).2.2,D.tb,D.ty,D.T.part.carry k (fun b h g => D.d2 b h g) ft,D.W.part.carry k (fun b h g => D.d3 b h g) ft,T',D.d1,fun b h g => ?_,fun b h g => ?_,fun b h => ⟨(D.o1 b h).1,(D.o1 b h).2.1,fun g => ?_⟩⟩,⟨fun b o e h => k.keep b o e fun g => h (.inr (.inr (.inr g))),fun b h => ?_⟩⟩
  · rcases k.new b g with z | z
    · exact D.d2 b h z
    · exact (D.T.part.foot b h).1 z
  · rcases k.new b g with z | z
    · exact D.d3 b h z
    · exact (D.W.part.foot b h).1 z
  · rcases k.new b g with z | z
    · exact (D.o1 b h).2.2 z
    · exact (D.own h).1 z
  · rcases h with h | h | h | h
    · exact .inl (.inl h)
    · exact .inl (.inr (.inl h))
    · exact .inl (.inr (.inr (.inl h)))
    · exact (k.new b h).imp (fun z => .inr (.inr (.inr z))) id
theorem HallD.parts (D : HallD K C n H p sB sT sW sR dx bd wy t w r kvb kvy GT GW GR) {a : Addr} (ha : Own p dx bd wy a) (x : HO) : TreeIs K C.t n (upd H a x) t sT GT ∧ WtsIs K C.w n (upd H a x) w sW GW ∧ RingIs K C.r n (upd H a x) r sR GR:=by
  have k : Kept H (upd H a x) (fun b => b = a) (fun b => b = a):=Kept.upd x rfl
  have ft : ∀ b,b = a → ∀ xs,H b ≠ some (.tup xs):=fun b h => by rw [h]; exact (D.own ha).2
  refine ⟨D.T.part.carry k (fun b h g => ?_) ft,D.W.part.carry k (fun b h g => ?_) ft,D.R.part.carry k (fun b h g => ?_) ft⟩
  · rw [g] at h; exact (D.o1 a ha).1 h
  · rw [g] at h; exact (D.o1 a ha).2.1 h
  · rw [g] at h; exact (D.o1 a ha).2.2 h
theorem HallD.busyK (D : HallD K C n H p sB sT sW sR dx bd wy t w r kvb kvy GT GW GR) {kv : List (Key × V)} (e : s'.rows = sB.rows) (h : DK n kv (fun k => if s'.busy k = true then some (.bl true) else none)) :
    HallD K C n (upd H bd (.dK kv)) p s' sT sW sR dx bd wy t w r kv kvy GT GW GR ∧ Kept H (upd H bd (.dK kv)) (FH p dx bd wy GT GW GR) (FH p dx bd wy GT GW GR):=by
  obtain ⟨h1,h2,h3⟩:=D.parts (a:=bd) (.inr (.inr (.inl rfl))) (.dK kv)
  refine ⟨⟨D.n6,upd_k D.hb D.hp (fun z => nomatch z),upd_k D.hb D.hd (fun z => nomatch z),upd_same,upd_k D.hb D.hy (fun z => nomatch z),h,by rw [e]; exact D.ty,h1,h2,h3,D.d1,D.d2,D.d3,D.o1⟩,Kept.upd _ (.inl (.inr (.inr (.inl rfl))))⟩
theorem HallD.rowsK (D : HallD K C n H p sB sT sW sR dx bd wy t w r kvb kvy GT GW GR) {kv : List (List Key × V)} (e : s'.busy = sB.busy) (h : Num2 n kv (fun a b => (s'.rows a b).length)) :
    HallD K C n (upd H wy (.dT kv)) p s' sT sW sR dx bd wy t w r kvb kv GT GW GR ∧ Kept H (upd H wy (.dT kv)) (FH p dx bd wy GT GW GR) (FH p dx bd wy GT GW GR):=by
  obtain ⟨h1,h2,h3⟩:=D.parts (a:=wy) (.inr (.inr (.inr rfl))) (.dT kv)
  refine ⟨⟨D.n6,upd_k D.hy D.hp (fun z => nomatch z),upd_k D.hy D.hd (fun z => nomatch z),upd_k D.hy D.hb (fun z => nomatch z),upd_same,by rw [e]; exact D.tb,h,h1,h2,h3,D.d1,D.d2,D.d3,D.o1⟩,Kept.upd _ (.inl (.inr (.inr (.inr rfl))))⟩
end
def HallAt (K : PySem.W.Frag) (C : Cs) (n : Nat) (H : Hp) (p : Addr) (s : S) (F : Addr → Prop) : Prop:=∃ dx bd wy t w r kvb kvy GT GW GR,HallD K C n H p s s s s dx bd wy t w r kvb kvy GT GW GR ∧ F = FH p dx bd wy GT GW GR
theorem HallD.all {K : PySem.W.Frag} {C : Cs} {n : Nat} {H : Hp} {p : Addr} {sB sT sW sR s : S} {dx bd wy t w r : Addr} {kvb : List (Key × V)} {kvy : List (List Key × V)} {GT GW GR : Addr → Prop} (D : HallD K C n H p sB sT sW sR dx bd wy t w r kvb kvy GT GW GR)
    (b1 : s.busy = sB.busy) (b2 : s.rows = sB.rows) (t1 : s.due = sT.due) (t2 : s.over = sT.over) (t3 : s.slips = sT.slips) (w1 : s.held = sW.held) (w2 : s.rows = sW.rows) (w3 : s.hw = sW.hw) (r1 : s.cnt = sR.cnt) (r2 : s.black = sR.black) (r3 : s.place = sR.place) (r4 : s.tcnt = sR.tcnt) (r5 : s.tblack = sR.tblack) (r6 : s.begun = sR.begun) (r7 : s.found = sR.found) :
    HallAt K C n H p s (FH p dx bd wy GT GW GR) :=
  ⟨dx,bd,wy,t,w,r,kvb,kvy,GT,GW,GR,⟨D.n6,D.hp,D.hd,D.hb,D.hy,by rw [b1]; exact D.tb,by rw [b2]; exact D.ty,D.T.of t1 t2 t3,D.W.of w1 w2 w3,D.R.of r1 r2 r3 r4 r5 r6 r7,D.d1,D.d2,D.d3,D.o1⟩,rfl⟩
theorem hall_lookup {n : Nat} {bd wy t w r : Addr} {m : Str} (h : m ∈ meths ++ (["need_hand","need_two","need_working"] : List Str)) : (hallF n bd wy t w r).lookup m = none:=by
  have e : ∀ k ∈ (["many","busy","on_way","tree","weights","ring"] : List Str),m ≠ k:=by
    have key : ∀ m ∈ meths ++ (["need_hand","need_two","need_working"] : List Str),∀ k ∈ (["many","busy","on_way","tree","weights","ring"] : List Str),m ≠ k:=by decide +kernel
    exact key m h
  unfold hallF
  simp only [List.lookup_cons,beq_eq_false_iff_ne.mpr (e "many" (by simp)),beq_eq_false_iff_ne.mpr (e "busy" (by simp)),beq_eq_false_iff_ne.mpr (e "on_way" (by simp)),beq_eq_false_iff_ne.mpr (e "tree" (by simp)),beq_eq_false_iff_ne.mpr (e "weights" (by simp)),beq_eq_false_iff_ne.mpr (e "ring" (by simp)),List.lookup_nil]
def hallI (K : PySem.W.Frag) (C : Cs) : HallI K C.h where
  At:=HallAt K C
  ins:=fun {n H p s F} h => by
    obtain ⟨dx,bd,wy,t,w,r,a,b,GT,GW,GR,D,rfl⟩:=h
    exact ⟨dx,_,D.hp,fun m hm => hall_lookup (List.mem_append_left _ hm)⟩
  foot:=fun {n H p s F} h b hb => by
    obtain ⟨dx,bd,wy,t,w,r,a,b',GT,GW,GR,D,rfl⟩:=h
    rcases hb with z | z | z | z
    · exact D.own z
    · exact D.T.part.foot b z
    · exact D.W.part.foot b z
    · exact D.R.part.foot b z
  keep:=fun {n H H' p s F} h k => by
    obtain ⟨dx,bd,wy,t,w,r,a,b',GT,GW,GR,D,rfl⟩:=h
    exact ⟨dx,bd,wy,t,w,r,a,b',GT,GW,GR,D.keep fun b u e z => k b u e z,rfl⟩
end Qh
set_option Elab.async false
set_option linter.all false
set_option maxRecDepth 100000
namespace Qh
open PySem L2 Tx
section
variable {P : Program} {w : World} {K : PySem.W.Frag} {mg : Str → Option Value} {base : Heap} {C : Cs}
structure HallC (K : PySem.W.Frag) (mg : Str → Option Value) (C : Cs) : Prop where
  cl : Cls K C.h
  ct : Cls K C.t
  cw : Cls K C.w
  cr : Cls K C.r
  many : NoAttr K C.h "many"
  busy : NoAttr K C.h "busy"
  way : NoAttr K C.h "on_way"
  tree : NoAttr K C.h "tree"
  weights : NoAttr K C.h "weights"
  ring : NoAttr K C.h "ring"
  tuple : mg "tuple" = none
  sorted : mg "sorted" = none
  len : mg "len" = none
def hqHand (C : Cs) : Sp:=fun vs H Q _ => ∃ n p dx bd wy t w r k,vs = [.ref p,.int (k : Nat)] ∧ H p = some (.ins C.h dx (hallF n bd wy t w r)) ∧ k < n ∧ Q .non H
theorem sc_h1 : FnScope ["self","hand"] ["self","hand"] (defScope s_Hall_need_hand):=⟨rfl,rfl,rfl,by decide +kernel,rfl,by decide +kernel,by decide +kernel⟩
theorem ok_h_hand {f : Addr} {fd : FuncData} (F : Fun K "need_hand" "Hall.need_hand" s_Hall_need_hand f fd) (T : HallC K mg C) : FnOk P w K mg base CX0 1 f fd ["self","hand"] (hqHand C):=by
  refine F.ok sc_h1 (fun vs H Q E h => ?_) (fun cdv A outer s H vs Q E hr h => ?_)
  · obtain ⟨_,_,_,_,_,_,_,_,_,rfl,_⟩:=h; rfl
  obtain ⟨n,p,dx,bd,wy,t,w,r,k,rfl,hp,hk,q⟩:=h
  refine ⟨_,pss_one (ps_if (PW.pt (pw_or (pt_cmpR op_lt (pv 1) pe_int (nomark _)) (pw_or1 (pt_cmpR op_ge (pv 1) (pe_fld (pv 0) rfl) (nomark _))))) pss_never pss_nil),?_⟩
  refine ⟨_,rfl,_,_,rfl,rfl,_,rfl,?_⟩
  rw [decide_eq_false (by omega)]
  refine iteF ⟨_,rfl,_,rfl,p,C.h,dx,_,_,rfl,hp,T.cl,T.many,rfl,_,_,rfl,rfl,_,rfl,?_⟩
  rw [decide_eq_false (by omega)]
  exact iteF q
def hqTwo (C : Cs) : Sp:=fun vs H Q _ => ∃ n p dx bd wy t w r a b,vs = [.ref p,.int (a : Nat),.int (b : Nat)] ∧ H p = some (.ins C.h dx (hallF n bd wy t w r)) ∧ a < n ∧ b < n ∧ a ≠ b ∧ Q .non H
theorem sc_h2 : FnScope ["self","one","other"] ["self","one","other"] (defScope s_Hall_need_two):=⟨rfl,rfl,rfl,by decide +kernel,rfl,by decide +kernel,by decide +kernel⟩
theorem ok_h_two {f : Addr} {fd : FuncData} (F : Fun K "need_two" "Hall.need_two" s_Hall_need_two f fd) (T : HallC K mg C) (Mh : Mt P w K mg base C.h "need_hand" 1 ["self","hand"] (hqHand C)) : FnOk P w K mg base CX0 2 f fd ["self","one","other"] (hqTwo C):=by
  refine F.ok sc_h2 (fun vs H Q E h => ?_) (fun cdv A outer s H vs Q E hr h => ?_)
  · obtain ⟨_,_,_,_,_,_,_,_,_,_,rfl,_⟩:=h; rfl
  obtain ⟨n,p,dx,bd,wy,t,w,r,a,b,rfl,hp,ha,hb,hab,q⟩:=h
  refine ⟨_,pss_cons (ps_expr (pe_mt Mh T.cl hr (by decide) (pv 0) (pa_cons (pv 1) pa_nil))) (pss_cons (ps_expr (pe_mt Mh T.cl hr (by decide) (pv 0) (pa_cons (pv 2) pa_nil))) (pss_one (ps_if (pt_cmpR op_eq (pv 1) (pv 2) (nomark _)) pss_never pss_nil))),?_⟩
  refine ⟨_,rfl,p,dx,_,rfl,hp,hall_lookup (by decide +kernel),_,rfl,n,p,dx,bd,wy,t,w,r,a,rfl,hp,ha,?_⟩
  refine ⟨_,rfl,p,dx,_,rfl,hp,hall_lookup (by decide +kernel),_,rfl,n,p,dx,bd,wy,t,w,r,b,rfl,hp,hb,?_⟩
  refine ⟨_,rfl,_,rfl,rfl,_,rfl,?_⟩
  rw [decide_eq_false (by rw [V.int.injEq]; omega)]
  exact iteF q
def hqBusy (C : Cs) : Sp:=fun vs H Q _ => ∃ n p dx bd wy t w r k kvb,vs = [.ref p,.int (k : Nat)] ∧ H p = some (.ins C.h dx (hallF n bd wy t w r)) ∧ H bd = some (.dK kvb) ∧ (valV kvb (kI k)).isSome = true ∧ Q .non H
theorem sc_h3 : FnScope ["self","hand"] ["self","hand"] (defScope s_Hall_need_working):=⟨rfl,rfl,rfl,by decide +kernel,rfl,by decide +kernel,by decide +kernel⟩
theorem ok_h_busy {f : Addr} {fd : FuncData} (F : Fun K "need_working" "Hall.need_working" s_Hall_need_working f fd) (T : HallC K mg C) : FnOk P w K mg base CX0 1 f fd ["self","hand"] (hqBusy C):=by
  refine F.ok sc_h3 (fun vs H Q E h => ?_) (fun cdv A outer s H vs Q E hr h => ?_)
  · obtain ⟨_,_,_,_,_,_,_,_,_,_,rfl,_⟩:=h; rfl
  obtain ⟨n,p,dx,bd,wy,t,w,r,k,kvb,rfl,hp,hb,hv,q⟩:=h
  refine ⟨_,pss_one (ps_if (pt_cmp (pc_dnotin (hu_of hr) (pv 1) (pe_fld (pv 0) rfl)) rfl) pss_never pss_nil),?_⟩
  refine ⟨_,rfl,_,rfl,p,C.h,dx,_,_,rfl,hp,T.cl,T.busy,rfl,bd,_,rfl,DGet.k (k:=kI k) hb,_,rfl,?_⟩
  rw [hv]
  exact iteF q
theorem sc_h4 : FnScope ["self","one","other"] ["self","one","other"] (defScope s_Hall_works):=⟨rfl,rfl,rfl,by decide +kernel,rfl,by decide +kernel,by decide +kernel⟩
theorem ok_h_works {f : Addr} {fd : FuncData} (F : Fun K "works" "Hall.works" s_Hall_works f fd) (T : HallC K mg C) (Mt2 : Mt P w K mg base C.h "need_two" 2 ["self","one","other"] (hqTwo C)) : FnOk P w K mg base CX0 3 f fd ["self","one","other"] (spQ2 (hallI K C) qWorks):=by
  refine F.ok sc_h4 (fun vs H Q E h => ?_) (fun cdv A outer s H vs Q E hr h => ?_)
  · obtain ⟨_,_,_,_,_,_,rfl,_⟩:=h; rfl
  obtain ⟨n,p,s,F,a,b,rfl,⟨dx,bd,wy,t,w,r,kvb,kvy,GT,GW,GR,D,rfl⟩,ha,hb,hab,q⟩:=h
  refine ⟨_,pss_cons (ps_expr (pe_mt Mt2 T.cl hr (by decide) (pv 0) (pa_cons (pv 1) (pa_cons (pv 2) pa_nil)))) (pss_one (ps_ret (pe_dget2 (hu_of hr) (pe_fld (pv 0) rfl) (pe_tup (pa_cons (pv 1) (pa_cons (pv 2) pa_nil))) pe_int ⟨rfl,rfl,rfl,rfl⟩))),?_⟩
  refine ⟨_,rfl,p,dx,_,rfl,D.hp,hall_lookup (by decide +kernel),_,rfl,_,rfl,n,p,dx,bd,wy,t,w,r,a,b,rfl,D.hp,ha,hb,hab,?_⟩
  refine ⟨_,rfl,p,C.h,dx,_,_,rfl,D.hp,T.cl,T.way,rfl,wy,rfl,.inr ⟨_,.inl D.hy⟩,_,rfl,_,rfl,le1000 (by show 2 ≤ 1000; decide),fun t' ht => ?_⟩
  have D':=D.same (same_tup (x:=.tup [V.int (a : Nat),V.int (b : Nat)]) ht)
  refine ⟨_,DGet.t (k:=kII a b) D'.hy upd_same,?_⟩
  rw [D.ty.get]
  exact q _ _ (same_tup ht) rfl
theorem sc_h5 : FnScope ["self","one","other"] ["self","one","other"] (defScope s_Hall_receipts):=⟨rfl,rfl,rfl,by decide +kernel,rfl,by decide +kernel,by decide +kernel⟩
theorem ok_h_slips {f : Addr} {fd : FuncData} (F : Fun K "receipts" "Hall.receipts" s_Hall_receipts f fd) (T : HallC K mg C) (Mt2 : Mt P w K mg base C.h "need_two" 2 ["self","one","other"] (hqTwo C)) (Mr : Mt P w K mg base C.t "receipts" 1 ["self","one","other"] (tqSlips K C.t)) :
    FnOk P w K mg base CX0 3 f fd ["self","one","other"] (spQ2 (hallI K C) qReceipts):=by
  refine F.ok sc_h5 (fun vs H Q E h => ?_) (fun cdv A outer s H vs Q E hr h => ?_)
  · obtain ⟨_,_,_,_,_,_,rfl,_⟩:=h; rfl
  obtain ⟨n,p,s,F,a,b,rfl,⟨dx,bd,wy,t,w,r,kvb,kvy,GT,GW,GR,D,rfl⟩,ha,hb,hab,q⟩:=h
  refine ⟨_,pss_cons (ps_expr (pe_mt Mt2 T.cl hr (by decide) (pv 0) (pa_cons (pv 1) (pa_cons (pv 2) pa_nil)))) (pss_one (ps_ret (pe_mt Mr T.ct hr (by decide) (pe_fld (pv 0) rfl) (pa_cons (pv 1) (pa_cons (pv 2) pa_nil))))),?_⟩
  refine ⟨_,rfl,p,dx,_,rfl,D.hp,hall_lookup (by decide +kernel),_,rfl,_,rfl,n,p,dx,bd,wy,t,w,r,a,b,rfl,D.hp,ha,hb,hab,?_⟩
  obtain ⟨tdx,tfs,htp,htl⟩:=D.T.ins
  refine ⟨_,rfl,p,C.h,dx,_,_,rfl,D.hp,T.cl,T.tree,rfl,t,tdx,tfs,rfl,htp,htl "receipts" (by decide +kernel) (by decide +kernel) (by decide +kernel),_,rfl,_,rfl,n,t,s,_,a,b,rfl,D.T,fun H' s' => q _ H' s' rfl⟩
theorem sc_h6 : FnScope ["self","hand"] ["self","hand"] (defScope s_Hall_open_of):=⟨rfl,rfl,rfl,by decide +kernel,rfl,by decide +kernel,by decide +kernel⟩
theorem ok_h_open {f : Addr} {fd : FuncData} (F : Fun K "open_of" "Hall.open_of" s_Hall_open_of f fd) (T : HallC K mg C) (Mh : Mt P w K mg base C.h "need_hand" 1 ["self","hand"] (hqHand C)) (Mo : Mt P w K mg base C.t "open_of" 1 ["self","hand"] (tqOpen K C.t)) :
    FnOk P w K mg base CX0 2 f fd ["self","hand"] (spQ1 (hallI K C) qOpen):=by
  refine F.ok sc_h6 (fun vs H Q E h => ?_) (fun cdv A outer s H vs Q E hr h => ?_)
  · obtain ⟨_,_,_,_,_,rfl,_⟩:=h; rfl
  obtain ⟨n,p,s,F,a,rfl,⟨dx,bd,wy,t,w,r,kvb,kvy,GT,GW,GR,D,rfl⟩,ha,q⟩:=h
  refine ⟨_,pss_cons (ps_expr (pe_mt Mh T.cl hr (by decide) (pv 0) (pa_cons (pv 1) pa_nil))) (pss_one (ps_ret (pe_mt Mo T.ct hr (by decide) (pe_fld (pv 0) rfl) (pa_cons (pv 1) pa_nil)))),?_⟩
  refine ⟨_,rfl,p,dx,_,rfl,D.hp,hall_lookup (by decide +kernel),_,rfl,n,p,dx,bd,wy,t,w,r,a,rfl,D.hp,ha,?_⟩
  obtain ⟨tdx,tfs,htp,htl⟩:=D.T.ins
  exact ⟨_,rfl,p,C.h,dx,_,_,rfl,D.hp,T.cl,T.tree,rfl,t,tdx,tfs,rfl,htp,htl "open_of" (by decide +kernel) (by decide +kernel) (by decide +kernel),_,rfl,n,t,s,_,a,rfl,D.T,q _ H (Same.refl _) rfl⟩
theorem sc_h7 : FnScope ["self","hand"] ["self","hand"] (defScope s_Hall_weight_of):=⟨rfl,rfl,rfl,by decide +kernel,rfl,by decide +kernel,by decide +kernel⟩
theorem ok_h_weight {f : Addr} {fd : FuncData} (F : Fun K "weight_of" "Hall.weight_of" s_Hall_weight_of f fd) (T : HallC K mg C) (Mh : Mt P w K mg base C.h "need_hand" 1 ["self","hand"] (hqHand C)) (Mo : Mt P w K mg base C.w "weight_of" 1 ["self","hand"] (wqOf K C.w)) :
    FnOk P w K mg base CX0 2 f fd ["self","hand"] (spQ1 (hallI K C) (qWeight (K:=K))):=by
  refine F.ok sc_h7 (fun vs H Q E h => ?_) (fun cdv A outer s H vs Q E hr h => ?_)
  · obtain ⟨_,_,_,_,_,rfl,_⟩:=h; rfl
  obtain ⟨n,p,s,F,a,rfl,⟨dx,bd,wy,t,w,r,kvb,kvy,GT,GW,GR,D,rfl⟩,ha,q⟩:=h
  refine ⟨_,pss_cons (ps_expr (pe_mt Mh T.cl hr (by decide) (pv 0) (pa_cons (pv 1) pa_nil))) (pss_one (ps_ret (pe_mt Mo T.cw hr (by decide) (pe_fld (pv 0) rfl) (pa_cons (pv 1) pa_nil)))),?_⟩
  refine ⟨_,rfl,p,dx,_,rfl,D.hp,hall_lookup (by decide +kernel),_,rfl,n,p,dx,bd,wy,t,w,r,a,rfl,D.hp,ha,?_⟩
  obtain ⟨tdx,tfs,htp,htl⟩:=D.W.ins
  exact ⟨_,rfl,p,C.h,dx,_,_,rfl,D.hp,T.cl,T.weights,rfl,w,tdx,tfs,rfl,htp,htl "weight_of" (by decide +kernel) (by decide +kernel) (by decide +kernel),_,rfl,n,w,s,_,a,rfl,D.W,fun v hv => q v H (Same.refl _) hv⟩
theorem sc_h8 : FnScope ["self","hand"] ["self","hand"] (defScope s_Hall_weights_home):=⟨rfl,rfl,rfl,by decide +kernel,rfl,by decide +kernel,by decide +kernel⟩
theorem ok_h_home {f : Addr} {fd : FuncData} (F : Fun K "weights_home" "Hall.weights_home" s_Hall_weights_home f fd) (T : HallC K mg C) (Mh : Mt P w K mg base C.h "need_hand" 1 ["self","hand"] (hqHand C)) (Mo : Mt P w K mg base C.w "weights_home" 1 ["self","hand"] (wqHome K C.w)) :
    FnOk P w K mg base CX0 2 f fd ["self","hand"] (spQ1 (hallI K C) (qHome (K:=K))):=by
  refine F.ok sc_h8 (fun vs H Q E h => ?_) (fun cdv A outer s H vs Q E hr h => ?_)
  · obtain ⟨_,_,_,_,_,rfl,_⟩:=h; rfl
  obtain ⟨n,p,s,F,a,rfl,⟨dx,bd,wy,t,w,r,kvb,kvy,GT,GW,GR,D,rfl⟩,ha,q⟩:=h
  refine ⟨_,pss_cons (ps_expr (pe_mt Mh T.cl hr (by decide) (pv 0) (pa_cons (pv 1) pa_nil))) (pss_one (ps_ret (pe_mt Mo T.cw hr (by decide) (pe_fld (pv 0) rfl) (pa_cons (pv 1) pa_nil)))),?_⟩
  refine ⟨_,rfl,p,dx,_,rfl,D.hp,hall_lookup (by decide +kernel),_,rfl,n,p,dx,bd,wy,t,w,r,a,rfl,D.hp,ha,?_⟩
  obtain ⟨tdx,tfs,htp,htl⟩:=D.W.ins
  exact ⟨_,rfl,p,C.h,dx,_,_,rfl,D.hp,T.cl,T.weights,rfl,w,tdx,tfs,rfl,htp,htl "weights_home" (by decide +kernel) (by decide +kernel) (by decide +kernel),_,rfl,n,w,s,_,a,rfl,D.W,fun t' xs H' s' h1 h2 => q _ H' s' ⟨t',xs,rfl,h1,h2⟩⟩
theorem ringF_lookup {n : Nat} {s : S} {cd od : Addr} {m : Str} (h : m ∈ (["token","count_of","colour_of","send","take","pass_on"] : List Str)) : (ringF n s cd od).lookup m = none:=by
  have e : ∀ k ∈ (["last","counts","colours","place","gathered","shade","has_gone","telling"] : List Str),m ≠ k:=by
    have key : ∀ m ∈ (["token","count_of","colour_of","send","take","pass_on"] : List Str),∀ k ∈ (["last","counts","colours","place","gathered","shade","has_gone","telling"] : List Str),m ≠ k:=by decide +kernel
    exact key m h
  unfold ringF
  simp only [List.lookup_cons,beq_eq_false_iff_ne.mpr (e "last" (by simp)),beq_eq_false_iff_ne.mpr (e "counts" (by simp)),beq_eq_false_iff_ne.mpr (e "colours" (by simp)),beq_eq_false_iff_ne.mpr (e "place" (by simp)),beq_eq_false_iff_ne.mpr (e "gathered" (by simp)),beq_eq_false_iff_ne.mpr (e "shade" (by simp)),beq_eq_false_iff_ne.mpr (e "has_gone" (by simp)),beq_eq_false_iff_ne.mpr (e "telling" (by simp)),List.lookup_nil]
theorem RingIs.ins {n : Nat} {H : Hp} {p : Addr} {s : S} {F : Addr → Prop} {C : Addr} (T : RingIs K C n H p s F) : ∃ dx fs,H p = some (.ins C dx fs) ∧ (∀ m,m ∈ (["token","count_of","colour_of","send","take","pass_on"] : List Str) → fs.lookup m = none) ∧ fs.lookup ("place" : Str) = some (.int (s.place : Nat)) ∧ fs.lookup ("telling" : Str) = some (.bl s.found):=by
  obtain ⟨dx,cd,od,a,b,D,rfl⟩:=T
  exact ⟨dx,_,D.hp,fun m h => ringF_lookup h,rfl,rfl⟩
theorem sc_h9 : FnScope ["self"] ["self"] (defScope s_Hall_token):=⟨rfl,rfl,rfl,by decide +kernel,rfl,by decide +kernel,by decide +kernel⟩
theorem ok_h_token {f : Addr} {fd : FuncData} (F : Fun K "token" "Hall.token" s_Hall_token f fd) (T : HallC K mg C) (Mo : Mt P w K mg base C.r "token" 1 ["self"] (rqToken K C.r)) : FnOk P w K mg base CX0 2 f fd ["self"] (spQ0 (hallI K C) (qToken (K:=K))):=by
  refine F.ok sc_h9 (fun vs H Q E h => ?_) (fun cdv A outer s H vs Q E hr h => ?_)
  · obtain ⟨_,_,_,_,rfl,_⟩:=h; rfl
  obtain ⟨n,p,s,F,rfl,⟨dx,bd,wy,t,w,r,kvb,kvy,GT,GW,GR,D,rfl⟩,q⟩:=h
  refine ⟨_,pss_one (ps_ret (pe_mt0 Mo T.cr hr (by decide) (pe_fld (pv 0) rfl))),?_⟩
  obtain ⟨tdx,tfs,htp,htl,_⟩:=D.R.ins
  exact ⟨_,rfl,p,C.h,dx,_,_,rfl,D.hp,T.cl,T.ring,rfl,r,tdx,tfs,rfl,htp,htl "token" (by decide +kernel),n,r,s,_,rfl,D.R,fun t' H' s' h1 => q _ H' s' ⟨t',rfl,SqT.of h1⟩⟩
theorem sc_h10 : FnScope ["self","hand"] ["self","hand"] (defScope s_Hall_count_of):=⟨rfl,rfl,rfl,by decide +kernel,rfl,by decide +kernel,by decide +kernel⟩
theorem ok_h_count {f : Addr} {fd : FuncData} (F : Fun K "count_of" "Hall.count_of" s_Hall_count_of f fd) (T : HallC K mg C) (Mh : Mt P w K mg base C.h "need_hand" 1 ["self","hand"] (hqHand C)) (Mo : Mt P w K mg base C.r "count_of" 1 ["self","hand"] (rqCount K C.r)) :
    FnOk P w K mg base CX0 2 f fd ["self","hand"] (spQ1 (hallI K C) qCount):=by
  refine F.ok sc_h10 (fun vs H Q E h => ?_) (fun cdv A outer s H vs Q E hr h => ?_)
  · obtain ⟨_,_,_,_,_,rfl,_⟩:=h; rfl
  obtain ⟨n,p,s,F,a,rfl,⟨dx,bd,wy,t,w,r,kvb,kvy,GT,GW,GR,D,rfl⟩,ha,q⟩:=h
  refine ⟨_,pss_cons (ps_expr (pe_mt Mh T.cl hr (by decide) (pv 0) (pa_cons (pv 1) pa_nil))) (pss_one (ps_ret (pe_mt Mo T.cr hr (by decide) (pe_fld (pv 0) rfl) (pa_cons (pv 1) pa_nil)))),?_⟩
  refine ⟨_,rfl,p,dx,_,rfl,D.hp,hall_lookup (by decide +kernel),_,rfl,n,p,dx,bd,wy,t,w,r,a,rfl,D.hp,ha,?_⟩
  obtain ⟨tdx,tfs,htp,htl,_⟩:=D.R.ins
  exact ⟨_,rfl,p,C.h,dx,_,_,rfl,D.hp,T.cl,T.ring,rfl,r,tdx,tfs,rfl,htp,htl "count_of" (by decide +kernel),_,rfl,n,r,s,_,a,rfl,D.R,q _ H (Same.refl _) rfl⟩
theorem sc_h11 : FnScope ["self","hand"] ["self","hand"] (defScope s_Hall_colour_of):=⟨rfl,rfl,rfl,by decide +kernel,rfl,by decide +kernel,by decide +kernel⟩
theorem ok_h_colour {f : Addr} {fd : FuncData} (F : Fun K "colour_of" "Hall.colour_of" s_Hall_colour_of f fd) (T : HallC K mg C) (Mh : Mt P w K mg base C.h "need_hand" 1 ["self","hand"] (hqHand C)) (Mo : Mt P w K mg base C.r "colour_of" 1 ["self","hand"] (rqColour K C.r)) :
    FnOk P w K mg base CX0 2 f fd ["self","hand"] (spQ1 (hallI K C) qColour):=by
  refine F.ok sc_h11 (fun vs H Q E h => ?_) (fun cdv A outer s H vs Q E hr h => ?_)
  · obtain ⟨_,_,_,_,_,rfl,_⟩:=h; rfl
  obtain ⟨n,p,s,F,a,rfl,⟨dx,bd,wy,t,w,r,kvb,kvy,GT,GW,GR,D,rfl⟩,ha,q⟩:=h
  refine ⟨_,pss_cons (ps_expr (pe_mt Mh T.cl hr (by decide) (pv 0) (pa_cons (pv 1) pa_nil))) (pss_one (ps_ret (pe_mt Mo T.cr hr (by decide) (pe_fld (pv 0) rfl) (pa_cons (pv 1) pa_nil)))),?_⟩
  refine ⟨_,rfl,p,dx,_,rfl,D.hp,hall_lookup (by decide +kernel),_,rfl,n,p,dx,bd,wy,t,w,r,a,rfl,D.hp,ha,?_⟩
  obtain ⟨tdx,tfs,htp,htl,_⟩:=D.R.ins
  exact ⟨_,rfl,p,C.h,dx,_,_,rfl,D.hp,T.cl,T.ring,rfl,r,tdx,tfs,rfl,htp,htl "colour_of" (by decide +kernel),_,rfl,n,r,s,_,a,rfl,D.R,q _ H (Same.refl _) rfl⟩
theorem inc_ext : ∀ {l m : List Int},l.Pairwise (· < ·) → m.Pairwise (· < ·) → (∀ x,x ∈ l ↔ x ∈ m) → l = m
  | [],[],_,_,_ => rfl
  | [],b :: m,_,_,h => absurd ((h b).mpr List.mem_cons_self) (by simp)
  | a :: l,[],_,_,h => absurd ((h a).mp List.mem_cons_self) (by simp)
  | a :: l,b :: m,hl,hm,h => by
    obtain ⟨l1,l2⟩:=List.pairwise_cons.mp hl
    obtain ⟨m1,m2⟩:=List.pairwise_cons.mp hm
    have e : a = b:=by
      have h1:=(h a).mp List.mem_cons_self
      have h2:=(h b).mpr List.mem_cons_self
      rcases List.mem_cons.mp h1 with z | z
      · exact z
      · rcases List.mem_cons.mp h2 with y | y
        · exact y.symm
        · have q1:=m1 a z
          have q2:=l1 b y
          omega
    subst e
    rw [inc_ext l2 m2 fun x => ?_]
    have hx:=h x
    constructor
    · intro hxl
      have q1:=l1 x hxl
      rcases List.mem_cons.mp (hx.mp (List.mem_cons_of_mem _ hxl)) with z | z
      · omega
      · exact z
    · intro hxm
      have q1:=m1 x hxm
      rcases List.mem_cons.mp (hx.mpr (List.mem_cons_of_mem _ hxm)) with z | z
      · omega
      · exact z
theorem strict_of {l : List Int} (h : l.Pairwise (· ≤ ·)) (nd : l.Nodup) : l.Pairwise (· < ·):=by
  have h2 : l.Pairwise (fun a b => a ≠ b):=nd
  exact (h.and h2).imp fun ⟨a,b⟩ => by omega
theorem workers_inc (n : Nat) (s : S) : ((workers n s).map fun k => ((k : Nat) : Int)).Pairwise (· < ·):=by
  unfold workers
  rw [List.pairwise_map]
  refine List.Pairwise.imp (R:=fun a b => a < b) (fun h => by omega) ?_
  exact List.Pairwise.filter _ List.pairwise_lt_range
theorem sc_h12 : FnScope ["self"] ["self"] (defScope s_Hall_working):=⟨rfl,rfl,rfl,by decide +kernel,rfl,by decide +kernel,by decide +kernel⟩
theorem ok_h_working {f : Addr} {fd : FuncData} (F : Fun K "working" "Hall.working" s_Hall_working f fd) (T : HallC K mg C) : FnOk P w K mg base CX0 1 f fd ["self"] (spQ0 (hallI K C) (qWorking (K:=K))):=by
  refine F.ok sc_h12 (fun vs H Q E h => ?_) (fun cdv A outer s H vs Q E hr h => ?_)
  · obtain ⟨_,_,_,_,rfl,_⟩:=h; rfl
  obtain ⟨n,p,s,F,rfl,⟨dx,bd,wy,t,w,r,kvb,kvy,GT,GW,GR,D,rfl⟩,q⟩:=h
  refine ⟨_,pss_one (ps_ret (pe_callTy call_tuple_of (by rfl) T.tuple (by decide +kernel) (pa_cons (pe_callB (call_sortD rfl) (by rfl) T.sorted (by decide +kernel) (pa_cons (pe_fld (pv 0) rfl) pa_nil)) pa_nil))),?_⟩
  obtain ⟨ks,e1,e2,e3,e4⟩:=D.tb.keys
  have kl : ks.length ≤ n:=few e2 e3
  refine ⟨_,rfl,p,C.h,dx,_,_,rfl,D.hp,T.cl,T.busy,rfl,bd,kvb,ks.map (fun k => ((k : Nat) : Int)),rfl,D.hb,?_,?_,fun l ms hl pm so => ?_⟩
  · rw [e1,List.map_map]; rfl
  · rw [List.length_map]; have:=D.n6; omega
  have em : ms = (workers n s).map fun k => ((k : Nat) : Int):=by
    have nd : ms.Nodup:=pm.nodup_iff.mpr (by
      rw [List.nodup_iff_pairwise_ne,List.pairwise_map]
      exact e2.imp fun h => by omega)
    refine inc_ext (strict_of so nd) (workers_inc n s) fun x => ?_
    rw [pm.mem_iff,List.mem_map,List.mem_map]
    constructor
    · rintro ⟨k,hk,rfl⟩
      refine ⟨k,?_,rfl⟩
      unfold workers
      have hb:=(e4 k).mp hk
      refine List.mem_filter.mpr ⟨List.mem_range.mpr (e3 k hk),?_⟩
      cases z : s.busy k with
      | true => rfl
      | false => rw [z] at hb; exact absurd rfl hb
    · rintro ⟨k,hk,rfl⟩
      refine ⟨k,?_,rfl⟩
      unfold workers at hk
      obtain ⟨_,hb⟩:=List.mem_filter.mp hk
      refine (e4 k).mpr ?_
      rw [hb]; simp
  have s1:=same_tup (x:=.lst (ms.map V.int)) hl
  refine ⟨l,ms.map V.int,rfl,.inl ⟨SqL.of upd_same,fun l2 hl2 => ?_⟩⟩
  have s2:=same_tup (x:=.tup (ms.map V.int)) hl2
  refine q _ _ (s1.trans s2) ⟨l2,rfl,SqT.of ?_⟩
  rw [upd_same,em,List.map_map]; rfl
end
end Qh
set_option Elab.async false
set_option linter.all false
set_option maxRecDepth 100000
namespace Qh
open PySem L2 Tx
theorem Wts.take_le {n m : Nat} {s : S} (W : Wts n s m) {a b x : Nat} (ha : a < n) (hb : b < n) (hx : x ∈ s.rows a b) : s.held b + x ≤ 2 ^ 90:=by
  have t:=W.tot
  unfold total at t
  obtain ⟨p1,p2,p3⟩:=parts_nonneg n s
  have h1:=sm_ge (f:=fun k => (s.held k : Int)) (fun i _ => by omega) hb
  have h2:=sm_ge (f:=onWay n s) (fun i _ => sm_nonneg fun j _ => by omega) ha
  have h3:=sm_ge (f:=fun b => (sumL (s.rows a b) : Int)) (fun i _ => by omega) hb
  have h4:=sumL_ge hx
  have h2 : sm n (fun b => (sumL (s.rows a b) : Int)) ≤ sm n (onWay n s):=h2
  have h1 : ((s.held b : Nat) : Int) ≤ sm n (fun k => (s.held k : Int)):=h1
  have h3 : ((sumL (s.rows a b) : Nat) : Int) ≤ sm n (fun b => (sumL (s.rows a b) : Int)):=h3
  omega
theorem Wts.home_le {n m : Nat} {s : S} (W : Wts n s m) {a x : Nat} (ha : a < n) (hx : x ∈ s.hw a) : s.held 0 + x ≤ 2 ^ 90:=by
  have t:=W.tot
  unfold total at t
  obtain ⟨p1,p2,p3⟩:=parts_nonneg n s
  have h1:=sm_ge (f:=fun k => (s.held k : Int)) (fun i _ => by omega) W.pos
  have h3:=sm_ge (f:=fun k => (sumL (s.hw k) : Int)) (fun i _ => by omega) ha
  have h4:=sumL_ge hx
  have h1 : ((s.held 0 : Nat) : Int) ≤ sm n (fun k => (s.held k : Int)):=h1
  have h3 : ((sumL (s.hw a) : Nat) : Int) ≤ sm n (fun k => (sumL (s.hw k) : Int)):=h3
  omega
theorem Tree.due_pos {n : Nat} {s : S} (T : Tree n s) {a b : Nat} (ha : a < n) (hb : b < n) (h : s.slips a b ≠ 0) : s.due a ≠ 0:=by
  have o:=T.opn a ha
  have k:=kids_nonneg n s a
  have g:=owed_ge (s:=s) (a:=a) hb
  unfold ln at g
  omega
theorem settle_left {s : S} {k : Nat} (top : s.over 0 = none) (h : s.busy k = false) : settle s k = left s k:=by
  unfold settle left leaves
  by_cases h0 : k = 0
  · subst h0
    rw [if_neg (by simp),top]
    split <;> simp_all
  · by_cases hd : s.due k = 0
    · rw [if_pos ⟨h0,h,hd⟩,if_pos hd]
      try (cases s.over k <;> rfl)
    · rw [if_neg (fun z => hd z.2.2),if_neg hd]
theorem settle_busyk {s : S} {k : Nat} (h : s.busy k = true) : settle s k = s:=by
  unfold settle leaves
  rw [if_neg (by rw [h]; simp)]
section
variable {P : Program} {w : World} {K : PySem.W.Frag} {mg : Str → Option Value} {base : Heap} {C : Cs}
theorem sc_b1 : FnScope ["self","one","other"] ["self","one","other"] (defScope s_Hall_send):=⟨rfl,rfl,rfl,by decide +kernel,rfl,by decide +kernel,by decide +kernel⟩
theorem ok_h_send {f : Addr} {fd : FuncData} (F : Fun K "send" "Hall.send" s_Hall_send f fd) (T : HallC K mg C) (M2 : Mt P w K mg base C.h "need_two" 2 ["self","one","other"] (hqTwo C)) (Mb : Mt P w K mg base C.h "need_working" 1 ["self","hand"] (hqBusy C))
    (Mw : Mt P w K mg base C.h "works" 3 ["self","one","other"] (spQ2 (hallI K C) qWorks)) (Mt' : Mt P w K mg base C.t "send" 2 ["self","one"] (taSend K C.t)) (Mws : Mt P w K mg base C.w "send" 4 ["self","one","other"] (waSend K C.w)) (Mr : Mt P w K mg base C.r "send" 2 ["self","one"] (raSend K C.r)) :
    FnOk P w K mg base CX0 5 f fd ["self","one","other"] (spAct (hallI K C) aSend):=by
  refine F.ok sc_b1 (fun vs H Q E h => ?_) (fun cdv A outer s H vs Q E hr h => ?_)
  · obtain ⟨_,_,_,_,c,_,e,_⟩:=h
    cases c <;> first | (cases e; rfl) | cases e
  obtain ⟨n,p,s,F,c,m,e,At,can,good,hm,q⟩:=h
  cases c with
  | send a b =>
    cases e
    obtain ⟨ha,hb,hab,hbu⟩:=can
    obtain ⟨dx,bd,wy,t,w,r,kvb,kvy,GT,GW,GR,D,rfl⟩:=id At
    have hm : m + 1 ≤ 60:=hm
    refine ⟨_,pss_cons (ps_expr (pe_mt M2 T.cl hr (by decide) (pv 0) (pa_cons (pv 1) (pa_cons (pv 2) pa_nil))))
      (pss_cons (ps_expr (pe_mt Mb T.cl hr (by decide) (pv 0) (pa_cons (pv 1) pa_nil)))
      (pss_cons (ps_dput (hu_of hr) (pe_fld (pv 0) rfl) (pe_tup (pa_cons (pv 1) (pa_cons (pv 2) pa_nil))) (pe_op op_add (pe_mt Mw T.cl hr (by decide) (pv 0) (pa_cons (pv 1) (pa_cons (pv 2) pa_nil))) pe_int) rfl)
      (pss_cons (ps_expr (pe_mt Mt' T.ct hr (by decide) (pe_fld (pv 0) rfl) (pa_cons (pv 1) pa_nil)))
      (pss_cons (ps_expr (pe_mt Mws T.cw hr (by decide) (pe_fld (pv 0) rfl) (pa_cons (pv 1) (pa_cons (pv 2) pa_nil))))
      (pss_one (ps_expr (pe_mt Mr T.cr hr (by decide) (pe_fld (pv 0) rfl) (pa_cons (pv 1) pa_nil)))))))),?_⟩
    refine ⟨_,rfl,p,dx,_,rfl,D.hp,hall_lookup (by decide +kernel),_,rfl,_,rfl,n,p,dx,bd,wy,t,w,r,a,b,rfl,D.hp,ha,hb,hab,?_⟩
    refine ⟨_,rfl,p,dx,_,rfl,D.hp,hall_lookup (by decide +kernel),_,rfl,n,p,dx,bd,wy,t,w,r,a,kvb,rfl,D.hp,D.hb,by rw [D.tb.val,hbu]; rfl,?_⟩
    refine ⟨_,rfl,p,dx,_,rfl,D.hp,hall_lookup (by decide +kernel),_,rfl,_,rfl,n,p,s,_,a,b,rfl,At,ha,hb,hab,fun v H1 s1 ev => ?_⟩
    cases ev
    have D1:=D.same s1
    refine ⟨_,_,rfl,rfl,_,rfl,p,C.h,dx,_,_,rfl,D1.hp,T.cl,T.way,rfl,_,rfl,_,rfl,le1000 (by show 2 ≤ 1000; decide),fun t' ht => ?_⟩
    have s2:=same_tup (H:=H1) (x:=.tup [V.int (a : Nat),V.int (b : Nat)]) ht
    have D2:=D1.same s2
    refine ⟨wy,_,rfl,DPut.t (k:=kII a b) D2.hy upd_same (D.ty.small D.n6),?_⟩
    obtain ⟨D3,k3⟩:=D2.rowsK (s':=step n s (.send a b)) rfl (D.ty.put ha hb ((s.rows a b).length + 1) fun i j => by
      show (up2 s.rows a b (s.rows a b ++ [s.held a / 2]) i j).length = _
      rw [up2_at]
      split
      · rw [List.length_append]; rfl
      · rfl)
    replace k3:=(Kept.same (s1.trans s2) _).trans k3
    have ev : (((s.rows a b).length : Nat) : Int) + 1 = (((s.rows a b).length + 1 : Nat) : Int):=by omega
    dsimp only
    rw [ev]
    generalize upd (upd H1 t' (.tup [V.int (a : Nat),V.int (b : Nat)])) wy (.dT (putK kvy (kII a b) (.int (((s.rows a b).length + 1 : Nat) : Int)))) = H3 at D3 k3 ⊢
    obtain ⟨tdx,tfs,htp,htl⟩:=D3.T.ins
    refine ⟨_,rfl,p,C.h,dx,_,_,rfl,D3.hp,T.cl,T.tree,rfl,t,tdx,tfs,rfl,htp,htl "send" (by decide +kernel) (by decide +kernel) (by decide +kernel),_,rfl,n,t,s,_,a,rfl,D3.T,ha,fun H4 T4 k4 => ?_⟩
    obtain ⟨D4,k4⟩:=D3.tree T4 k4
    obtain ⟨wdx,wfs,hwp,hwl⟩:=D4.W.ins
    have W:=good.wts
    refine ⟨_,rfl,p,C.h,dx,_,_,rfl,D4.hp,T.cl,T.weights,rfl,w,wdx,wfs,rfl,hwp,hwl "send" (by decide +kernel) (by decide +kernel) (by decide +kernel),_,rfl,_,rfl,n,w,s,_,a,b,m,rfl,D4.W,ha,hb,?_,W.held_le ha,by omega,W.dv a,?_,fun H5 F5 T5 k5 => ?_⟩
    · have:=(W.held a ha).mpr (.inr hbu); omega
    · have:=good.few.row ha hb; omega
    obtain ⟨D5,k5⟩:=D4.wts T5 k5
    obtain ⟨rdx,rfs,hrp,hrl,_⟩:=D5.R.ins
    refine ⟨_,rfl,p,C.h,dx,_,_,rfl,D5.hp,T.cl,T.ring,rfl,r,rdx,rfs,rfl,hrp,hrl "send" (by decide +kernel),_,rfl,n,r,s,_,a,rfl,D5.R,ha,fun H6 T6 k6 => ?_⟩
    obtain ⟨D6,k6⟩:=D5.ring T6 k6
    exact q H6 _ (D6.all rfl rfl rfl rfl rfl rfl rfl rfl rfl rfl rfl rfl rfl rfl rfl) (((k3.trans k4).trans k5).trans k6)
  | take a b => cases e
  | rest a => cases e
  | back a b => cases e
  | home a => cases e
  | pass => cases e
theorem sc_b2 : FnScope ["self","one","other"] ["self","one","other"] (defScope s_Hall_take):=⟨rfl,rfl,rfl,by decide +kernel,rfl,by decide +kernel,by decide +kernel⟩
theorem ok_h_take {f : Addr} {fd : FuncData} (F : Fun K "take" "Hall.take" s_Hall_take f fd) (T : HallC K mg C) (M2 : Mt P w K mg base C.h "need_two" 2 ["self","one","other"] (hqTwo C))
    (Mw : Mt P w K mg base C.h "works" 3 ["self","one","other"] (spQ2 (hallI K C) qWorks)) (Mt' : Mt P w K mg base C.t "take" 3 ["self","one","other"] (taTake K C.t)) (Mws : Mt P w K mg base C.w "take" 5 ["self","one","other"] (waTake K C.w)) (Mr : Mt P w K mg base C.r "take" 2 ["self","other"] (raTake K C.r)) :
    FnOk P w K mg base CX0 6 f fd ["self","one","other"] (spAct (hallI K C) aTake):=by
  refine F.ok sc_b2 (fun vs H Q E h => ?_) (fun cdv A outer s H vs Q E hr h => ?_)
  · obtain ⟨_,_,_,_,c,_,e,_⟩:=h
    cases c <;> first | (cases e; rfl) | cases e
  obtain ⟨n,p,s,F,c,m,e,At,can,good,hm,q⟩:=h
  cases c with
  | take a b =>
    cases e
    obtain ⟨ha,hb,hab,hne⟩:=can
    obtain ⟨dx,bd,wy,t,w,r,kvb,kvy,GT,GW,GR,D,rfl⟩:=id At
    have hm : m ≤ 60:=hm
    obtain ⟨x,rr,er⟩:=List.exists_cons_of_ne_nil hne
    refine ⟨_,pss_cons (ps_expr (pe_mt M2 T.cl hr (by decide) (pv 0) (pa_cons (pv 1) (pa_cons (pv 2) pa_nil))))
      (pss_cons (ps_if (pt_cmpR op_eq (pe_mt Mw T.cl hr (by decide) (pv 0) (pa_cons (pv 1) (pa_cons (pv 2) pa_nil))) pe_int (nomark _)) pss_never pss_nil)
      (pss_cons (ps_dput (hu_of hr) (pe_fld (pv 0) rfl) (pe_tup (pa_cons (pv 1) (pa_cons (pv 2) pa_nil))) (pe_op op_sub (pe_mt Mw T.cl hr (by decide) (pv 0) (pa_cons (pv 1) (pa_cons (pv 2) pa_nil))) pe_int) rfl)
      (pss_cons (ps_dput (hu_of hr) (pe_fld (pv 0) rfl) (pv 2) pe_bl rfl)
      (pss_cons (ps_expr (pe_mt Mt' T.ct hr (by decide) (pe_fld (pv 0) rfl) (pa_cons (pv 1) (pa_cons (pv 2) pa_nil))))
      (pss_cons (ps_expr (pe_mt Mws T.cw hr (by decide) (pe_fld (pv 0) rfl) (pa_cons (pv 1) (pa_cons (pv 2) pa_nil))))
      (pss_one (ps_expr (pe_mt Mr T.cr hr (by decide) (pe_fld (pv 0) rfl) (pa_cons (pv 2) pa_nil))))))))),?_⟩
    refine ⟨_,rfl,p,dx,_,rfl,D.hp,hall_lookup (by decide +kernel),_,rfl,_,rfl,n,p,dx,bd,wy,t,w,r,a,b,rfl,D.hp,ha,hb,hab,?_⟩
    refine ⟨_,rfl,p,dx,_,rfl,D.hp,hall_lookup (by decide +kernel),_,rfl,_,rfl,n,p,s,_,a,b,rfl,At,ha,hb,hab,fun v H0 s0 ev => ?_⟩
    cases ev
    refine ⟨rfl,_,rfl,?_⟩
    have len : (s.rows a b).length = rr.length + 1:=by rw [er]; rfl
    rw [decide_eq_false (by rw [V.int.injEq]; omega)]
    refine iteF ?_
    have D0:=D.same s0
    have At0:=(hallI K C).same At s0
    refine ⟨_,rfl,p,dx,_,rfl,D0.hp,hall_lookup (by decide +kernel),_,rfl,_,rfl,n,p,s,_,a,b,rfl,At0,ha,hb,hab,fun v H1 s1 ev => ?_⟩
    cases ev
    have D1:=D0.same s1
    refine ⟨_,_,rfl,rfl,_,rfl,p,C.h,dx,_,_,rfl,D1.hp,T.cl,T.way,rfl,_,rfl,_,rfl,le1000 (by show 2 ≤ 1000; decide),fun t' ht => ?_⟩
    have s2:=same_tup (H:=H1) (x:=.tup [V.int (a : Nat),V.int (b : Nat)]) ht
    have D2:=D1.same s2
    refine ⟨wy,_,rfl,DPut.t (k:=kII a b) D2.hy upd_same (D.ty.small D.n6),?_⟩
    obtain ⟨D3,k3⟩:=D2.rowsK (s':={ s with rows:=up2 s.rows a b (s.rows a b).tail }) rfl (D.ty.put ha hb ((s.rows a b).length - 1) fun i j => by
      show (up2 s.rows a b (s.rows a b).tail i j).length = _
      rw [up2_at]
      split
      · rw [List.length_tail]
      · rfl)
    replace k3:=(Kept.same ((s0.trans s1).trans s2) _).trans k3
    have ev : (((s.rows a b).length : Nat) : Int) - 1 = (((s.rows a b).length - 1 : Nat) : Int):=by omega
    dsimp only
    rw [ev]
    generalize upd (upd H1 t' (.tup [V.int (a : Nat),V.int (b : Nat)])) wy (.dT (putK kvy (kII a b) (.int (((s.rows a b).length - 1 : Nat) : Int)))) = H3 at D3 k3 ⊢
    refine ⟨_,rfl,p,C.h,dx,_,_,rfl,D3.hp,T.cl,T.busy,rfl,_,rfl,bd,_,rfl,DPut.k (k:=kI b) D3.hb (D.tb.small D.n6),?_⟩
    obtain ⟨D4,k4⟩:=D3.busyK (s':={ s with rows:=up2 s.rows a b (s.rows a b).tail,busy:=up s.busy b true }) rfl (D.tb.put hb (.bl true) fun j => by
      show (if up s.busy b true j = true then some (V.bl true) else none) = _
      rw [up_at]
      by_cases z : j = b
      · rw [if_pos z,if_pos z]; rfl
      · rw [if_neg z,if_neg z])
    replace k4:=k3.trans k4
    generalize upd H3 bd (.dK (putK kvb (kI b) (.bl true))) = H4 at D4 k4 ⊢
    obtain ⟨tdx,tfs,htp,htl⟩:=D4.T.ins
    refine ⟨_,rfl,p,C.h,dx,_,_,rfl,D4.hp,T.cl,T.tree,rfl,t,tdx,tfs,rfl,htp,htl "take" (by decide +kernel) (by decide +kernel) (by decide +kernel),_,rfl,_,rfl,n,t,s,_,a,b,rfl,D4.T,ha,hb,fun H5 T5 k5 => ?_⟩
    obtain ⟨D5,k5⟩:=D4.tree T5 k5
    obtain ⟨wdx,wfs,hwp,hwl⟩:=D5.W.ins
    have W:=good.wts
    have mx : x ∈ s.rows a b:=by rw [er]; exact List.mem_cons_self
    refine ⟨_,rfl,p,C.h,dx,_,_,rfl,D5.hp,T.cl,T.weights,rfl,w,wdx,wfs,rfl,hwp,hwl "take" (by decide +kernel) (by decide +kernel) (by decide +kernel),_,rfl,_,rfl,n,w,s,_,a,b,x,rr,m,rfl,D5.W,ha,hb,er,W.take_le ha hb mx,by omega,W.dv b,(W.rows a b x mx).2,fun H6 T6 k6 => ?_⟩
    obtain ⟨D6,k6⟩:=D5.wts T6 k6
    obtain ⟨rdx,rfs,hrp,hrl,_⟩:=D6.R.ins
    refine ⟨_,rfl,p,C.h,dx,_,_,rfl,D6.hp,T.cl,T.ring,rfl,r,rdx,rfs,rfl,hrp,hrl "take" (by decide +kernel),_,rfl,n,r,s,_,b,rfl,D6.R,hb,fun H7 T7 k7 => ?_⟩
    obtain ⟨D7,k7⟩:=D6.ring T7 k7
    have e1 : (s.rows a b).headD 0 = x:=by rw [er]; rfl
    have e2 : (s.rows a b).tail = rr:=by rw [er]; rfl
    refine q H7 _ (D7.all ?_ ?_ ?_ ?_ ?_ ?_ ?_ ?_ ?_ ?_ ?_ ?_ ?_ ?_ ?_) (((k4.trans k5).trans k6).trans k7)
    all_goals unfold step
    all_goals dsimp only
    all_goals by_cases z : b ≠ 0 ∧ s.over b = none
    all_goals first | rw [if_pos z] | rw [if_neg z]
    all_goals first | rfl | (rw [if_pos z]) | (rw [if_neg z]) | (dsimp only; rw [e1]) | (dsimp only; rw [e2])
  | send a b => cases e
  | rest a => cases e
  | back a b => cases e
  | home a => cases e
  | pass => cases e
theorem sc_b3 : FnScope ["self","hand"] ["self","hand"] (defScope s_Hall_rest):=⟨rfl,rfl,rfl,by decide +kernel,rfl,by decide +kernel,by decide +kernel⟩
theorem ok_h_rest {f : Addr} {fd : FuncData} (F : Fun K "rest" "Hall.rest" s_Hall_rest f fd) (T : HallC K mg C) (Mh : Mt P w K mg base C.h "need_hand" 1 ["self","hand"] (hqHand C)) (Mb : Mt P w K mg base C.h "need_working" 1 ["self","hand"] (hqBusy C))
    (Ml : Mt P w K mg base C.t "leave_if_done" 3 ["self","hand"] (taLeave K C.t)) (Mws : Mt P w K mg base C.w "rest" 2 ["self","hand"] (waRest K C.w)) : FnOk P w K mg base CX0 4 f fd ["self","hand"] (spAct (hallI K C) aRest):=by
  refine F.ok sc_b3 (fun vs H Q E h => ?_) (fun cdv A outer s H vs Q E hr h => ?_)
  · obtain ⟨_,_,_,_,c,_,e,_⟩:=h
    cases c <;> first | (cases e; rfl) | cases e
  obtain ⟨n,p,s,F,c,m,e,At,can,good,hm,q⟩:=h
  cases c with
  | rest a =>
    cases e
    obtain ⟨ha,hbu⟩:=can
    obtain ⟨dx,bd,wy,t,w,r,kvb,kvy,GT,GW,GR,D,rfl⟩:=id At
    have hm : m ≤ 60:=hm
    refine ⟨_,pss_cons (ps_expr (pe_mt Mh T.cl hr (by decide) (pv 0) (pa_cons (pv 1) pa_nil)))
      (pss_cons (ps_expr (pe_mt Mb T.cl hr (by decide) (pv 0) (pa_cons (pv 1) pa_nil)))
      (pss_cons (ps_expr (pe_dpop1 (pe_fld (pv 0) rfl) (pv 1) ⟨rfl,rfl,rfl,rfl⟩))
      (pss_cons (ps_expr (pe_mt Ml T.ct hr (by decide) (pe_fld (pv 0) rfl) (pa_cons (pv 1) pa_nil)))
      (pss_one (ps_expr (pe_mt Mws T.cw hr (by decide) (pe_fld (pv 0) rfl) (pa_cons (pv 1) pa_nil))))))),?_⟩
    refine ⟨_,rfl,p,dx,_,rfl,D.hp,hall_lookup (by decide +kernel),_,rfl,n,p,dx,bd,wy,t,w,r,a,rfl,D.hp,ha,?_⟩
    refine ⟨_,rfl,p,dx,_,rfl,D.hp,hall_lookup (by decide +kernel),_,rfl,n,p,dx,bd,wy,t,w,r,a,kvb,rfl,D.hp,D.hb,by rw [D.tb.val,hbu]; rfl,?_⟩
    refine ⟨_,rfl,p,C.h,dx,_,_,rfl,D.hp,T.cl,T.busy,rfl,bd,rfl,.inl ⟨_,.inl D.hb⟩,_,rfl,kvb,kI a,.bl true,D.hb,rfl,by rw [D.tb.val,hbu]; rfl,?_⟩
    obtain ⟨D3,k3⟩:=D.busyK (s':={ s with busy:=up s.busy a false }) rfl (D.tb.drop a fun j => by
      show (if up s.busy a false j = true then some (V.bl true) else none) = _
      rw [up_at]
      by_cases z : j = a
      · rw [if_pos z,if_pos z]; rfl
      · rw [if_neg z,if_neg z])
    generalize upd H bd (.dK (dropK kvb (kI a))) = H3 at D3 k3 ⊢
    obtain ⟨tdx,tfs,htp,htl⟩:=D3.T.ins
    have Tr:=good.tree
    refine ⟨_,rfl,p,C.h,dx,_,_,rfl,D3.hp,T.cl,T.tree,rfl,t,tdx,tfs,rfl,htp,htl "leave_if_done" (by decide +kernel) (by decide +kernel) (by decide +kernel),_,rfl,n,t,s,_,a,rfl,D3.T,ha,fun x hx => (Tr.inn a x ha hx).1,fun H4 T4 k4 => ?_⟩
    obtain ⟨D4,k4⟩:=D3.tree T4 k4
    obtain ⟨wdx,wfs,hwp,hwl⟩:=D4.W.ins
    refine ⟨_,rfl,p,C.h,dx,_,_,rfl,D4.hp,T.cl,T.weights,rfl,w,wdx,wfs,rfl,hwp,hwl "rest" (by decide +kernel) (by decide +kernel) (by decide +kernel),_,rfl,n,w,s,_,a,rfl,D4.W,ha,?_,fun H5 F5 T5 k5 => ?_⟩
    · have:=good.few.home ha; omega
    obtain ⟨D5,k5⟩:=D4.wts T5 k5
    have es : step n s (.rest a) = if a = 0 then { s with busy:=up s.busy a false } else settle { s with busy:=up s.busy a false,hw:=up s.hw a (s.hw a ++ [s.held a]),held:=up s.held a 0 } a:=rfl
    by_cases h0 : a = 0
    · rw [if_pos h0] at es D5
      have el : left s a = s:=by
        unfold left
        rw [h0,Tr.top]
        split <;> simp_all
      rw [el] at D5
      refine q H5 _ (D5.all ?_ ?_ ?_ ?_ ?_ ?_ ?_ ?_ ?_ ?_ ?_ ?_ ?_ ?_ ?_) ((k3.trans k4).trans k5)
      all_goals rw [es]
    · rw [if_neg h0] at es D5
      have el:=settle_left (s:={ s with busy:=up s.busy a false,hw:=up s.hw a (s.hw a ++ [s.held a]),held:=up s.held a 0 }) (k:=a) Tr.top (up_same _ _ _)
      rw [el] at es
      have e1 : (left { s with busy:=up s.busy a false,hw:=up s.hw a (s.hw a ++ [s.held a]),held:=up s.held a 0 } a).due = (left s a).due:=by unfold left; dsimp only; cases (if s.due a = 0 then s.over a else none) <;> rfl
      have e2 : (left { s with busy:=up s.busy a false,hw:=up s.hw a (s.hw a ++ [s.held a]),held:=up s.held a 0 } a).over = (left s a).over:=by unfold left; dsimp only; cases (if s.due a = 0 then s.over a else none) <;> rfl
      have e3 : (left { s with busy:=up s.busy a false,hw:=up s.hw a (s.hw a ++ [s.held a]),held:=up s.held a 0 } a).slips = (left s a).slips:=by unfold left; dsimp only; cases (if s.due a = 0 then s.over a else none) <;> rfl
      refine q H5 _ (D5.all ?_ ?_ (by rw [es]; exact e1) (by rw [es]; exact e2) (by rw [es]; exact e3) ?_ ?_ ?_ ?_ ?_ ?_ ?_ ?_ ?_ ?_) ((k3.trans k4).trans k5)
      all_goals rw [es,← el]
      · rw [settle_busy]
      · rw [settle_rows]
      · rw [settle_held]
      · rw [settle_rows]
      · rw [settle_hw]
      · rw [settle_cnt]
      · rw [settle_black]
      · rw [settle_place]
      · rw [settle_tcnt]
      · rw [settle_tblack]
      · rw [settle_begun]
      · rw [settle_found]
  | send a b => cases e
  | take a b => cases e
  | back a b => cases e
  | home a => cases e
  | pass => cases e
theorem sc_b4 : FnScope ["self","one","other"] ["self","one","other"] (defScope s_Hall_back):=⟨rfl,rfl,rfl,by decide +kernel,rfl,by decide +kernel,by decide +kernel⟩
theorem ok_h_back {f : Addr} {fd : FuncData} (F : Fun K "back" "Hall.back" s_Hall_back f fd) (T : HallC K mg C) (M2 : Mt P w K mg base C.h "need_two" 2 ["self","one","other"] (hqTwo C)) (Mr : Mt P w K mg base C.t "receipts" 1 ["self","one","other"] (tqSlips K C.t))
    (Mb : Mt P w K mg base C.t "back" 2 ["self","one","other"] (taBack K C.t)) (Ml : Mt P w K mg base C.t "leave_if_done" 3 ["self","hand"] (taLeave K C.t)) : FnOk P w K mg base CX0 4 f fd ["self","one","other"] (spAct (hallI K C) aBack):=by
  refine F.ok sc_b4 (fun vs H Q E h => ?_) (fun cdv A outer s H vs Q E hr h => ?_)
  · obtain ⟨_,_,_,_,c,_,e,_⟩:=h
    cases c <;> first | (cases e; rfl) | cases e
  obtain ⟨n,p,s,F,c,m,e,At,can,good,hm,q⟩:=h
  cases c with
  | back a b =>
    cases e
    obtain ⟨ha,hb,hab,hne⟩:=can
    obtain ⟨dx,bd,wy,t,w,r,kvb,kvy,GT,GW,GR,D,rfl⟩:=id At
    refine ⟨_,pss_cons (ps_expr (pe_mt M2 T.cl hr (by decide) (pv 0) (pa_cons (pv 1) (pa_cons (pv 2) pa_nil))))
      (pss_cons (ps_if (pt_cmpR op_eq (pe_mt Mr T.ct hr (by decide) (pe_fld (pv 0) rfl) (pa_cons (pv 1) (pa_cons (pv 2) pa_nil))) pe_int (nomark _)) pss_never pss_nil)
      (pss_cons (ps_expr (pe_mt Mb T.ct hr (by decide) (pe_fld (pv 0) rfl) (pa_cons (pv 1) (pa_cons (pv 2) pa_nil))))
      (pss_one (ps_if (pt_cmp (pc_dnotin (hu_of hr) (pv 1) (pe_fld (pv 0) rfl)) rfl) (pss_one (ps_expr (pe_mt Ml T.ct hr (by decide) (pe_fld (pv 0) rfl) (pa_cons (pv 1) pa_nil)))) pss_nil)))),?_⟩
    refine ⟨_,rfl,p,dx,_,rfl,D.hp,hall_lookup (by decide +kernel),_,rfl,_,rfl,n,p,dx,bd,wy,t,w,r,a,b,rfl,D.hp,ha,hb,hab,?_⟩
    obtain ⟨tdx,tfs,htp,htl⟩:=D.T.ins
    refine ⟨_,rfl,p,C.h,dx,_,_,rfl,D.hp,T.cl,T.tree,rfl,t,tdx,tfs,rfl,htp,htl "receipts" (by decide +kernel) (by decide +kernel) (by decide +kernel),_,rfl,_,rfl,n,t,s,_,a,b,rfl,D.T,fun H0 s0 => ⟨rfl,_,rfl,?_⟩⟩
    rw [decide_eq_false (by rw [V.int.injEq]; omega)]
    refine iteF ?_
    have D0:=D.same s0
    have Tr:=good.tree
    refine ⟨_,rfl,p,C.h,dx,_,_,rfl,D0.hp,T.cl,T.tree,rfl,t,tdx,tfs,rfl,s0 _ _ htp,htl "back" (by decide +kernel) (by decide +kernel) (by decide +kernel),_,rfl,_,rfl,n,t,s,_,a,b,rfl,D0.T,ha,hb,hne,Tr.due_pos ha hb hne,fun H3 T3 k3 => ?_⟩
    obtain ⟨D3,k3⟩:=D0.tree T3 k3
    replace k3:=(Kept.same s0 _).trans k3
    have es : step n s (.back a b) = settle { s with slips:=up2 s.slips a b (s.slips a b - 1),due:=up s.due a (s.due a - 1) } a:=rfl
    refine ⟨_,rfl,_,rfl,p,C.h,dx,_,_,rfl,D3.hp,T.cl,T.busy,rfl,bd,_,rfl,DGet.k (k:=kI a) D3.hb,_,rfl,?_⟩
    rw [D3.tb.val]
    cases hbu : s.busy a with
    | true =>
      have e3:=settle_busyk (s:={ s with slips:=up2 s.slips a b (s.slips a b - 1),due:=up s.due a (s.due a - 1) }) hbu
      refine iteF (q H3 _ (D3.all ?_ ?_ ?_ ?_ ?_ ?_ ?_ ?_ ?_ ?_ ?_ ?_ ?_ ?_ ?_) k3)
      all_goals rw [es,e3]
    | false =>
      refine iteT ?_
      obtain ⟨t3dx,t3fs,ht3,ht3l⟩:=D3.T.ins
      refine ⟨_,rfl,p,C.h,dx,_,_,rfl,D3.hp,T.cl,T.tree,rfl,t,t3dx,t3fs,rfl,ht3,ht3l "leave_if_done" (by decide +kernel) (by decide +kernel) (by decide +kernel),_,rfl,n,t,_,_,a,rfl,D3.T,ha,fun x hx => (Tr.inn a x ha hx).1,fun H4 T4 k4 => ?_⟩
      obtain ⟨D4,k4⟩:=D3.tree T4 k4
      have el:=settle_left (s:={ s with slips:=up2 s.slips a b (s.slips a b - 1),due:=up s.due a (s.due a - 1) }) (k:=a) Tr.top hbu
      refine q H4 _ (D4.all ?_ ?_ (by rw [es,el]) (by rw [es,el]) (by rw [es,el]) ?_ ?_ ?_ ?_ ?_ ?_ ?_ ?_ ?_ ?_) (k3.trans k4)
      all_goals rw [es]
      · rw [settle_busy]
      · rw [settle_rows]
      · rw [settle_held]
      · rw [settle_rows]
      · rw [settle_hw]
      · rw [settle_cnt]
      · rw [settle_black]
      · rw [settle_place]
      · rw [settle_tcnt]
      · rw [settle_tblack]
      · rw [settle_begun]
      · rw [settle_found]
  | send a b => cases e
  | take a b => cases e
  | rest a => cases e
  | home a => cases e
  | pass => cases e
theorem sc_b5 : FnScope ["self","hand"] ["self","hand"] (defScope s_Hall_home):=⟨rfl,rfl,rfl,by decide +kernel,rfl,by decide +kernel,by decide +kernel⟩
theorem ok_h_goHome {f : Addr} {fd : FuncData} (F : Fun K "home" "Hall.home" s_Hall_home f fd) (T : HallC K mg C) (Mh : Mt P w K mg base C.h "need_hand" 1 ["self","hand"] (hqHand C)) (Mq : Mt P w K mg base C.w "weights_home" 1 ["self","hand"] (wqHome K C.w)) (Mws : Mt P w K mg base C.w "home" 5 ["self","hand"] (waHome K C.w)) :
    FnOk P w K mg base CX0 6 f fd ["self","hand"] (spAct (hallI K C) aHome):=by
  refine F.ok sc_b5 (fun vs H Q E h => ?_) (fun cdv A outer s H vs Q E hr h => ?_)
  · obtain ⟨_,_,_,_,c,_,e,_⟩:=h
    cases c <;> first | (cases e; rfl) | cases e
  obtain ⟨n,p,s,F,c,m,e,At,can,good,hm,q⟩:=h
  cases c with
  | home a =>
    cases e
    obtain ⟨ha,h0,hne⟩:=can
    obtain ⟨dx,bd,wy,t,w,r,kvb,kvy,GT,GW,GR,D,rfl⟩:=id At
    have hm : m ≤ 60:=hm
    obtain ⟨x,rr,er⟩:=List.exists_cons_of_ne_nil hne
    refine ⟨_,pss_cons (ps_expr (pe_mt Mh T.cl hr (by decide) (pv 0) (pa_cons (pv 1) pa_nil)))
      (pss_cons (ps_if (pt_cmpR op_eq (pv 1) pe_int (nomark _)) pss_never pss_nil)
      (pss_cons (ps_if (pt_cmpR op_eq (pe_callB call_len_seq (by rfl) T.len PySem.boot_len (pa_cons (pe_mt Mq T.cw hr (by decide) (pe_fld (pv 0) rfl) (pa_cons (pv 1) pa_nil)) pa_nil)) pe_int (nomark _)) pss_never pss_nil)
      (pss_one (ps_expr (pe_mt Mws T.cw hr (by decide) (pe_fld (pv 0) rfl) (pa_cons (pv 1) pa_nil)))))),?_⟩
    refine ⟨_,rfl,p,dx,_,rfl,D.hp,hall_lookup (by decide +kernel),_,rfl,n,p,dx,bd,wy,t,w,r,a,rfl,D.hp,ha,?_⟩
    refine ⟨_,rfl,rfl,_,rfl,?_⟩
    rw [decide_eq_false (by rw [V.int.injEq]; omega)]
    refine iteF ?_
    obtain ⟨wdx,wfs,hwp,hwl⟩:=D.W.ins
    refine ⟨_,rfl,p,C.h,dx,_,_,rfl,D.hp,T.cl,T.weights,rfl,w,wdx,wfs,rfl,hwp,hwl "weights_home" (by decide +kernel) (by decide +kernel) (by decide +kernel),_,rfl,n,w,s,_,a,rfl,D.W,fun t' xs H1 s1 h1 h2 => ?_⟩
    refine ⟨t',xs,rfl,.inr h1,rfl,_,rfl,?_⟩
    have len : xs.length = rr.length + 1:=by rw [Paired.length h2,er]; rfl
    rw [decide_eq_false (by rw [V.int.injEq]; omega)]
    refine iteF ?_
    have D1:=D.same s1
    have W:=good.wts
    have mx : x ∈ s.hw a:=by rw [er]; exact List.mem_cons_self
    refine ⟨_,rfl,p,C.h,dx,_,_,rfl,D1.hp,T.cl,T.weights,rfl,w,wdx,wfs,rfl,s1 _ _ hwp,hwl "home" (by decide +kernel) (by decide +kernel) (by decide +kernel),_,rfl,n,w,s,_,a,x,rr,m,rfl,D1.W,W.pos,ha,er,W.home_le ha mx,by omega,W.dv 0,(W.hw a x mx).2,fun H2 T2 k2 => ?_⟩
    obtain ⟨D2,k2⟩:=D1.wts T2 k2
    have e1 : (s.hw a).headD 0 = x:=by rw [er]; rfl
    have e2 : (s.hw a).tail = rr:=by rw [er]; rfl
    refine q H2 _ (D2.all rfl rfl rfl rfl rfl ?_ rfl ?_ rfl rfl rfl rfl rfl rfl rfl) ((Kept.same s1 _).trans k2)
    · show up s.held 0 _ = up s.held 0 _; rw [e1]
    · show up s.hw a _ = up s.hw a _; rw [e2]
  | send a b => cases e
  | take a b => cases e
  | rest a => cases e
  | back a b => cases e
  | pass => cases e
theorem sc_b6 : FnScope ["self"] ["self"] (defScope s_Hall_pass_on):=⟨rfl,rfl,rfl,by decide +kernel,rfl,by decide +kernel,by decide +kernel⟩
theorem ok_h_pass {f : Addr} {fd : FuncData} (F : Fun K "pass_on" "Hall.pass_on" s_Hall_pass_on f fd) (T : HallC K mg C) (TR : RingC K mg C.r) (Mp : Mt P w K mg base C.r "pass_on" 3 ["self"] (raPass K C.r)) : FnOk P w K mg base CX0 4 f fd ["self"] (spAct (hallI K C) aPass):=by
  refine F.ok sc_b6 (fun vs H Q E h => ?_) (fun cdv A outer s H vs Q E hr h => ?_)
  · obtain ⟨_,_,_,_,c,_,e,_⟩:=h
    cases c <;> first | (cases e; rfl) | cases e
  obtain ⟨n,p,s,F,c,m,e,At,can,good,hm,q⟩:=h
  cases c with
  | pass =>
    cases e
    have can : s.busy s.place = false:=can
    obtain ⟨dx,bd,wy,t,w,r,kvb,kvy,GT,GW,GR,D,rfl⟩:=id At
    refine ⟨_,pss_cons (ps_if (pt_cmp (pc_din (hu_of hr) (pe_fld (pe_fld (pv 0) rfl) rfl) (pe_fld (pv 0) rfl)) rfl) pss_never pss_nil) (pss_one (ps_expr (pe_mt0 Mp T.cr hr (by decide) (pe_fld (pv 0) rfl)))),?_⟩
    obtain ⟨rdx,rfs,hrp,hrl,hpl,_⟩:=D.R.ins
    refine ⟨_,rfl,p,C.h,dx,_,_,rfl,D.hp,T.cl,T.ring,rfl,r,C.r,rdx,rfs,_,rfl,hrp,T.cr,TR.place,hpl,_,rfl,p,C.h,dx,_,_,rfl,D.hp,T.cl,T.busy,rfl,bd,_,rfl,DGet.k (k:=kI s.place) D.hb,_,rfl,?_⟩
    rw [D.tb.val,can]
    refine iteF ⟨_,rfl,p,C.h,dx,_,_,rfl,D.hp,T.cl,T.ring,rfl,r,rdx,rfs,rfl,hrp,hrl "pass_on" (by decide +kernel),n,r,s,_,rfl,D.R,good.ring.plc,fun H1 T1 k1 => ?_⟩
    obtain ⟨D1,k1⟩:=D.ring T1 k1
    have pb:=pass_busy n s
    refine q H1 _ (D1.all ?_ ?_ ?_ ?_ ?_ ?_ ?_ ?_ rfl rfl rfl rfl rfl rfl rfl) k1
    all_goals unfold step
    all_goals by_cases z : s.place = 0
    all_goals first | rw [if_pos z] | rw [if_neg z]
  | send a b => cases e
  | take a b => cases e
  | rest a => cases e
  | back a b => cases e
  | home a => cases e
end
end Qh
set_option Elab.async false
set_option linter.all false
set_option maxRecDepth 100000
namespace L2
open PySem PySem.Spec PyProof.Rows
section
variable {X : Cx} {k j : Nat} {C : Addr} {ps : List Str} {sp : Sp} {x : Str} {p pos : Pos}
theorem pe_mk0 (F : Mkr X.prog X.w X.K X.mg X.base x C k ps sp) (hr : Room j X.A) (hj : k + 1 ≤ j) (hg : Gl X x:=by rfl) (hdb : (x == ("__debug__" : Str)) = false:=by decide) :
    PE X (.Call (.Name x p) [] [] pos) (tMake C sp [] E0 tNil):=by
  obtain ⟨f,fd,h1,h2,h3,h4⟩:=F.ex
  exact pe_make0 h2 h3 (hr.mono hj) hg h1 h4 .nil pass0 hdb
end
end L2
namespace Qh
open PySem L2 Tx
theorem make_part {H H' : Hp} {x dx : Addr} {ob : HO} {G : Addr → Prop} (hx : H x = none) (hd : H dx = none) (k : ∀ b o,upd (upd H dx (.own x)) x ob b = some o → b ≠ x → H' b = some o) (f : ∀ b,G b → b = x ∨ b = dx ∨ upd (upd H dx (.own x)) x ob b = none) : Same H H' ∧ ∀ b,G b → H b = none:=by
  have s : Same H (upd (upd H dx (.own x)) x ob):=fun b o e => by rw [upd_ne (ne_of_none e hx),upd_ne (ne_of_none e hd)]; exact e
  refine ⟨fun b o e => k b o (s b o e) (ne_of_none e hx),fun b hb => ?_⟩
  rcases f b hb with rfl | rfl | z
  · exact hx
  · exact hd
  · exact s.free z
theorem Part.at_ {At : Hp → Prop} {H : Hp} {F : Addr → Prop} (p : Part At H F) {a : Addr} {x u : HO} (ha : H a = some u) (nt : ∀ xs,u ≠ .tup xs) (h : ¬ F a) : At (upd H a x) :=
  p.carry (Kept.upd (F:=fun b => b = a) x rfl) (fun b hb e => h (e ▸ hb)) fun b e xs z => by rw [e,ha] at z; exact nt xs (Option.some.inj z)
section
variable {P : Program} {w : World} {K : PySem.W.Frag} {mg : Str → Option Value} {base : Heap} {C : Cs}
theorem sc_b0 : FnScope ["self","many"] ["self","many"] (defScope s_Hall___init__):=⟨rfl,rfl,rfl,by decide +kernel,rfl,by decide +kernel,by decide +kernel⟩
set_option maxHeartbeats 4000000 in
theorem ok_h_init {f : Addr} {fd : FuncData} (F : Fun K "__init__" "Hall.__init__" s_Hall___init__ f fd) (T : HallC K mg C) (Kt : Mkr P w K mg base "Tree" C.t 1 ["self"] (tInit K C.t)) (Kw : Mkr P w K mg base "Weights" C.w 1 ["self"] (wInit K C.w)) (Kr : Mkr P w K mg base "Ring" C.r 1 ["self","last"] (rInit K C.r)) :
    FnOk P w K mg base CX0 3 f fd ["self","many"] (spInit (hallI K C)):=by
  refine F.ok sc_b0 (fun vs H Q E h => ?_) (fun cdv A outer s H vs Q E hr h => ?_)
  · obtain ⟨_,_,_,rfl,_⟩:=h; rfl
  obtain ⟨n,p,dx,rfl,h2,h6,hp,hdx,hne,q⟩:=h
  refine ⟨_,pss_cons (ps_fld (pv 0) (pv 1) rfl) (pss_cons (ps_fld (pv 0) (pe_disp (pps_cons pe_int pe_bl pps_nil) rfl rfl (by simp) (by decide)) rfl) (pss_cons (ps_fld (pv 0) pe_dnewT rfl) (pss_cons (ps_fld (pv 0) (pe_mk0 Kt hr (by decide)) rfl) (pss_cons (ps_fld (pv 0) (pe_mk0 Kw hr (by decide)) rfl)
    (pss_one (ps_fld (pv 0) (pe_mk Kr hr (by decide) (pa_cons (pe_op op_sub (pv 1) pe_int) pa_nil)) rfl)))))),?_⟩
  refine ⟨_,rfl,_,rfl,p,C.h,dx,_,rfl,hp,T.cl,T.many,by decide,fun bd hbd => ?_⟩
  refine ⟨upd_same,[(kI 0,V.bl true)],rfl,(show 1 ≤ 15 by decide),?_⟩
  rw [show mergeK [] [(kI 0,V.bl true)] = [(kI 0,V.bl true)] from rfl,upd_upd]
  have nbp : bd ≠ p:=fun z => by rw [z,upd_same] at hbd; cases hbd
  have hbd0 : H bd = none:=by rw [upd_ne nbp] at hbd; exact hbd
  have s1:=same_tup (x:=.dK [(kI 0,V.bl true)]) hbd
  refine ⟨_,rfl,p,C.h,dx,_,rfl,s1 _ _ upd_same,T.cl,T.busy,(show 1 < 1000 by decide),fun wy hwy => ?_⟩
  have nyp : wy ≠ p:=fun z => by rw [z,upd_same] at hwy; cases hwy
  have hwy1:=hwy
  rw [upd_ne nyp] at hwy1
  have nyb : wy ≠ bd:=fun z => by rw [z,upd_same] at hwy1; cases hwy1
  rw [upd_ne nyb,upd_ne nyp] at hwy1
  have s2:=same_tup (x:=.dT []) hwy
  refine ⟨_,rfl,p,C.h,dx,_,rfl,s2 _ _ upd_same,T.cl,T.way,(show 2 < 1000 by decide),?_⟩
  -- what stands now
  have hp3 : upd (upd (upd (upd (upd H p (.ins C.h dx (putF "many" (.int (n : Nat)) []))) bd (.dK [(kI 0,V.bl true)])) p (.ins C.h dx (putF "busy" (.ref bd) (putF "many" (.int (n : Nat)) [])))) wy (.dT [])) p (.ins C.h dx (putF "on_way" (.ref wy) (putF "busy" (.ref bd) (putF "many" (.int (n : Nat)) [])))) p = some (.ins C.h dx [("many",.int (n : Nat)),("busy",.ref bd),("on_way",.ref wy)]):=by rw [upd_same]; rfl
  have kp3 : ∀ b o,H b = some o → b ≠ p → upd (upd (upd (upd (upd H p (.ins C.h dx (putF "many" (.int (n : Nat)) []))) bd (.dK [(kI 0,V.bl true)])) p (.ins C.h dx (putF "busy" (.ref bd) (putF "many" (.int (n : Nat)) [])))) wy (.dT [])) p (.ins C.h dx (putF "on_way" (.ref wy) (putF "busy" (.ref bd) (putF "many" (.int (n : Nat)) [])))) b = some o:=fun b o e nb => by
    rw [upd_ne nb,upd_ne (ne_of_none e hwy1),upd_ne nb,upd_ne (ne_of_none e hbd0),upd_ne nb]; exact e
  have hb3 : upd (upd (upd (upd (upd H p (.ins C.h dx (putF "many" (.int (n : Nat)) []))) bd (.dK [(kI 0,V.bl true)])) p (.ins C.h dx (putF "busy" (.ref bd) (putF "many" (.int (n : Nat)) [])))) wy (.dT [])) p (.ins C.h dx (putF "on_way" (.ref wy) (putF "busy" (.ref bd) (putF "many" (.int (n : Nat)) [])))) bd = some (.dK [(kI 0,V.bl true)]):=by
    rw [upd_ne nbp,upd_ne (Ne.symm nyb),upd_ne nbp,upd_same]
  have hy3 : upd (upd (upd (upd (upd H p (.ins C.h dx (putF "many" (.int (n : Nat)) []))) bd (.dK [(kI 0,V.bl true)])) p (.ins C.h dx (putF "busy" (.ref bd) (putF "many" (.int (n : Nat)) [])))) wy (.dT [])) p (.ins C.h dx (putF "on_way" (.ref wy) (putF "busy" (.ref bd) (putF "many" (.int (n : Nat)) [])))) wy = some (.dT []):=by
    rw [upd_ne nyp,upd_same]
  generalize upd (upd (upd (upd (upd H p (.ins C.h dx (putF "many" (.int (n : Nat)) []))) bd (.dK [(kI 0,V.bl true)])) p (.ins C.h dx (putF "busy" (.ref bd) (putF "many" (.int (n : Nat)) [])))) wy (.dT [])) p (.ins C.h dx (putF "on_way" (.ref wy) (putF "busy" (.ref bd) (putF "many" (.int (n : Nat)) [])))) = H3 at hp3 kp3 hb3 hy3 ⊢
  have back : ∀ b,H3 b = none → H b = none:=fun b e => by
    cases z : H b with
    | none => rfl
    | some o =>
      by_cases y : b = p
      · rw [y,hp3] at e; cases e
      · rw [kp3 b o z y] at e; cases e
  have hd3:=kp3 _ _ hdx hne
  -- Tree()
  intro t tdx ht htd nt
  refine ⟨n,t,tdx,rfl,h6,upd_same,by rw [upd_ne nt,upd_same],fun H4 GT T4 k4 f4 => ⟨rfl,?_⟩⟩
  obtain ⟨s4,g4⟩:=make_part ht htd k4 f4
  refine ⟨_,rfl,p,C.h,dx,_,rfl,s4 _ _ hp3,T.cl,T.tree,(show 3 < 1000 by decide),?_⟩
  have npT : ¬ GT p:=fun z => by rw [g4 p z] at hp3; cases hp3
  have hp5 : upd H4 p (.ins C.h dx (putF "tree" (.ref t) [("many",.int (n : Nat)),("busy",.ref bd),("on_way",.ref wy)])) p = some (.ins C.h dx [("many",.int (n : Nat)),("busy",.ref bd),("on_way",.ref wy),("tree",.ref t)]):=by rw [upd_same]; rfl
  have kp5 : ∀ b o,H3 b = some o → b ≠ p → upd H4 p (.ins C.h dx (putF "tree" (.ref t) [("many",.int (n : Nat)),("busy",.ref bd),("on_way",.ref wy)])) b = some o:=fun b o e nb => by rw [upd_ne nb]; exact s4 b o e
  have T5 : TreeIs K C.t n (upd H4 p (.ins C.h dx (putF "tree" (.ref t) [("many",.int (n : Nat)),("busy",.ref bd),("on_way",.ref wy)]))) t new GT:=T4.part.at_ (s4 _ _ hp3) (fun xs z => nomatch z) npT
  generalize upd H4 p (.ins C.h dx (putF "tree" (.ref t) [("many",.int (n : Nat)),("busy",.ref bd),("on_way",.ref wy)])) = H5 at hp5 kp5 T5 ⊢
  -- Weights()
  intro w wdx hw hwd nw
  refine ⟨n,w,wdx,rfl,by omega,h6,upd_same,by rw [upd_ne nw,upd_same],fun H6 GW W6 k6 f6 => ⟨rfl,?_⟩⟩
  obtain ⟨s6,g6⟩:=make_part hw hwd k6 f6
  refine ⟨_,rfl,p,C.h,dx,_,rfl,s6 _ _ hp5,T.cl,T.weights,(show 4 < 1000 by decide),?_⟩
  have npW : ¬ GW p:=fun z => by rw [g6 p z] at hp5; cases hp5
  have T6 : TreeIs K C.t n H6 t new GT:=T5.part.keep _ fun b o e _ => s6 b o e
  have hp7 : upd H6 p (.ins C.h dx (putF "weights" (.ref w) [("many",.int (n : Nat)),("busy",.ref bd),("on_way",.ref wy),("tree",.ref t)])) p = some (.ins C.h dx [("many",.int (n : Nat)),("busy",.ref bd),("on_way",.ref wy),("tree",.ref t),("weights",.ref w)]):=by rw [upd_same]; rfl
  have kp7 : ∀ b o,H5 b = some o → b ≠ p → upd H6 p (.ins C.h dx (putF "weights" (.ref w) [("many",.int (n : Nat)),("busy",.ref bd),("on_way",.ref wy),("tree",.ref t)])) b = some o:=fun b o e nb => by rw [upd_ne nb]; exact s6 b o e
  have T7 : TreeIs K C.t n (upd H6 p (.ins C.h dx (putF "weights" (.ref w) [("many",.int (n : Nat)),("busy",.ref bd),("on_way",.ref wy),("tree",.ref t)]))) t new GT:=T6.part.at_ (s6 _ _ hp5) (fun xs z => nomatch z) npT
  have W7 : WtsIs K C.w n (upd H6 p (.ins C.h dx (putF "weights" (.ref w) [("many",.int (n : Nat)),("busy",.ref bd),("on_way",.ref wy),("tree",.ref t)]))) w new GW:=W6.part.at_ (s6 _ _ hp5) (fun xs z => nomatch z) npW
  generalize upd H6 p (.ins C.h dx (putF "weights" (.ref w) [("many",.int (n : Nat)),("busy",.ref bd),("on_way",.ref wy),("tree",.ref t)])) = H7 at hp7 kp7 T7 W7 ⊢
  -- Ring(many - 1)
  refine ⟨_,rfl,_,_,rfl,rfl,?_⟩
  intro r rdx hr' hrd nr
  refine ⟨n,r,rdx,rfl,h6,upd_same,by rw [upd_ne nr,upd_same],fun H8 GR R8 k8 f8 => ⟨rfl,?_⟩⟩
  obtain ⟨s8,g8⟩:=make_part hr' hrd k8 f8
  refine ⟨_,rfl,p,C.h,dx,_,rfl,s8 _ _ hp7,T.cl,T.ring,(show 5 < 1000 by decide),?_⟩
  have npR : ¬ GR p:=fun z => by rw [g8 p z] at hp7; cases hp7
  have T8 : TreeIs K C.t n H8 t new GT:=T7.part.keep _ fun b o e _ => s8 b o e
  have W8 : WtsIs K C.w n H8 w new GW:=W7.part.keep _ fun b o e _ => s8 b o e
  have e9 : putF "ring" (.ref r) [("many",V.int (n : Nat)),("busy",.ref bd),("on_way",.ref wy),("tree",.ref t),("weights",.ref w)] = hallF n bd wy t w r:=rfl
  rw [e9]
  have up3 : ∀ b o,H3 b = some o → b ≠ p → H8 b = some o:=fun b o e nb => s8 b o (kp7 b o (kp5 b o e nb) nb)
  have own3 : ∀ b,Own p dx bd wy b → H3 b ≠ none:=fun b hb => by
    rcases hb with rfl | rfl | rfl | rfl
    · rw [hp3]; simp
    · rw [hd3]; simp
    · rw [hb3]; simp
    · rw [hy3]; simp
  have own5 : ∀ b,Own p dx bd wy b → H5 b ≠ none:=fun b hb => by
    by_cases y : b = p
    · rw [y,hp5]; simp
    · obtain ⟨o,ho⟩:=Option.ne_none_iff_exists'.mp (own3 b hb)
      rw [kp5 b o ho y]; simp
  have own7 : ∀ b,Own p dx bd wy b → H7 b ≠ none:=fun b hb => by
    by_cases y : b = p
    · rw [y,hp7]; simp
    · obtain ⟨o,ho⟩:=Option.ne_none_iff_exists'.mp (own5 b hb)
      rw [kp7 b o ho y]; simp
  have b5 : ∀ b,H5 b = none → H3 b = none:=fun b e => by
    cases z : H3 b with
    | none => rfl
    | some o =>
      by_cases y : b = p
      · rw [y,hp5] at e; cases e
      · rw [kp5 b o z y] at e; cases e
  have b7 : ∀ b,H7 b = none → H5 b = none:=fun b e => by
    cases z : H5 b with
    | none => rfl
    | some o =>
      by_cases y : b = p
      · rw [y,hp7] at e; cases e
      · rw [kp7 b o z y] at e; cases e
  refine q _ (FH p dx bd wy GT GW GR) ⟨dx,bd,wy,t,w,r,[(kI 0,V.bl true)],[],GT,GW,GR,⟨h6,upd_same,?_,?_,?_,?_,Num2.nil n,T8.part.at_ (s8 _ _ hp7) (fun xs z => nomatch z) npT,W8.part.at_ (s8 _ _ hp7) (fun xs z => nomatch z) npW,R8.part.at_ (s8 _ _ hp7) (fun xs z => nomatch z) npR,fun b h1 h2 => ?_,fun b h1 h2 => ?_,fun b h1 h2 => ?_,fun b hb => ⟨fun z => own3 b hb (g4 b z),fun z => own5 b hb (g6 b z),fun z => own7 b hb (g8 b z)⟩⟩,rfl⟩ (fun b o e nb _ => ?_) (fun b hb => ?_)
  · rw [upd_ne hne]; exact up3 _ _ hd3 hne
  · rw [upd_ne nbp]; exact up3 _ _ hb3 nbp
  · rw [upd_ne nyp]; exact up3 _ _ hy3 nyp
  · refine (DK.nil n).put (by omega) (.bl true) fun j => ?_
    show (if decide (j = 0) = true then some (V.bl true) else none) = _
    by_cases z : j = 0
    · rw [if_pos z,if_pos (decide_eq_true z)]
    · rw [if_neg z,if_neg (by simpa using z)]
  · exact (T5.part.foot b h1).1 (g6 b h2)
  · exact (T7.part.foot b h1).1 (g8 b h2)
  · exact (W7.part.foot b h1).1 (g8 b h2)
  · rw [upd_ne nb]; exact up3 b o (kp3 b o e nb) nb
  · rcases hb with (z | z | z | z) | z | z | z
    · exact .inl z
    · exact .inr (.inl z)
    · rw [z]; exact .inr (.inr hbd0)
    · rw [z]; exact .inr (.inr hwy1)
    · exact .inr (.inr (back b (g4 b z)))
    · exact .inr (.inr (back b (b5 b (g6 b z))))
    · exact .inr (.inr (back b (b5 b (b7 b (g8 b z)))))
end
end Qh
set_option Elab.async false
set_option linter.all false
set_option maxRecDepth 100000
namespace Qh
open PySem L2 Tx
structure Gs (mg : Str → Option Value) : Prop where
  len : mg "len" = none
  range : mg "range" = none
section
variable {P : Program} {w : World} {K : PySem.W.Frag} {mg : Str → Option Value} {base : Heap}
def spCell (K : PySem.W.Frag) : Sp:=fun vs H Q _ => ∃ (a : Addr) (ns : List Int) (k : Nat),vs = [.ref a,.int k] ∧ SqL K H a (ns.map V.int) ∧ Q (.int (ns.getD k 0)) H
theorem sc_cell : FnScope ["_law_script","_law_k"] ["_law_script","_law_k"] (defScope s__law_cell):=⟨rfl,rfl,rfl,by decide +kernel,rfl,by decide +kernel,by decide +kernel⟩
theorem ok_cell {f : Addr} {fd : FuncData} (F : Fun K "_law_cell" "_law_cell" s__law_cell f fd) (T : Gs mg) : FnOk P w K mg base CX0 1 f fd ["_law_script","_law_k"] (spCell K):=by
  refine F.ok sc_cell (fun vs H Q E h => ?_) (fun cdv A outer s H vs Q E hr h => ?_)
  · obtain ⟨_,_,_,rfl,_⟩:=h; rfl
  obtain ⟨a,ns,k,rfl,hS,q⟩:=h
  refine ⟨_,pss_cons (ps_if (pt_cmpR op_lt (pv 1) (pe_callB call_len_seq (by rfl) T.len PySem.boot_len (pa_cons (pv 0) pa_nil)) (nomark _)) (pss_one (ps_ret (pe_ix ix_list (pv 0) (pv 1) (fun _ _ => rfl)))) pss_nil) (pss_one (ps_ret pe_int)),?_⟩
  refine ⟨_,rfl,_,rfl,a,_,rfl,.inl hS,_,_,rfl,rfl,_,rfl,?_⟩
  refine ite2 (fun hl => ?_) (fun hl => ?_)
  · have hl:=of_decide_eq_true hl
    rw [List.length_map] at hl
    have hk : k < ns.length:=by omega
    refine ⟨_,rfl,_,rfl,a,_,_,_,rfl,rfl,hS,atI_nat (v:=.int (ns.getD k 0)) ?_,q⟩
    rw [List.getElem?_map,List.getElem?_eq_getElem hk,List.getD_eq_getElem?_getD,List.getElem?_eq_getElem hk]
    rfl
  · have hl : ¬ _:=fun z => hl (decide_eq_true z)
    rw [List.length_map] at hl
    have e : ns.getD k 0 = 0:=by rw [List.getD_eq_getElem?_getD,List.getElem?_eq_none (by omega)]; rfl
    rw [e] at q
    exact q
def spMix : Sp:=fun vs H Q _ => ∃ (c p m : Int),vs = [.int c,.int p,.int m] ∧ 0 < p ∧ 0 < m ∧ Q (.int (c * 48271 % p % m)) H
theorem sc_mix : FnScope ["_law_cell_here","_law_prime","_law_many_here"] ["_law_cell_here","_law_prime","_law_many_here"] (defScope s__law_mix):=⟨rfl,rfl,rfl,by decide +kernel,rfl,by decide +kernel,by decide +kernel⟩
theorem ok_mix {f : Addr} {fd : FuncData} (F : Fun K "_law_mix" "_law_mix" s__law_mix f fd) : FnOk P w K mg base CX0 1 f fd ["_law_cell_here","_law_prime","_law_many_here"] spMix:=by
  refine F.ok sc_mix (fun vs H Q E h => ?_) (fun cdv A outer s H vs Q E hr h => ?_)
  · obtain ⟨_,_,_,rfl,_⟩:=h; rfl
  obtain ⟨c,p,m,rfl,hp,hm,q⟩:=h
  refine ⟨_,pss_one (ps_ret (pe_op op_mod (pe_op op_mod (pe_op op_mul (pv 0) pe_int) (pv 1)) (pv 2))),?_⟩
  exact ⟨_,rfl,_,_,rfl,rfl,.inr ⟨by decide,by decide⟩,_,rfl,_,_,rfl,rfl,hp,_,rfl,_,_,rfl,rfl,hm,q⟩
def spMany (K : PySem.W.Frag) : Sp:=fun vs H Q _ => ∃ (a : Addr) (ns : List Int),vs = [.ref a] ∧ SqL K H a (ns.map V.int) ∧ ∀ n : Nat,2 ≤ n → n ≤ 6 → Q (.int n) H
theorem sc_many : FnScope ["_law_script"] ["_law_script"] (defScope s__law_many):=⟨rfl,rfl,rfl,by decide +kernel,rfl,by decide +kernel,by decide +kernel⟩
theorem ok_many {f : Addr} {fd : FuncData} (F : Fun K "_law_many" "_law_many" s__law_many f fd) (Fc : Fn P w K mg base "_law_cell" 1 ["_law_script","_law_k"] (spCell K)) (Fm : Fn P w K mg base "_law_mix" 1 ["_law_cell_here","_law_prime","_law_many_here"] spMix) :
    FnOk P w K mg base CX0 2 f fd ["_law_script"] (spMany K):=by
  refine F.ok sc_many (fun vs H Q E h => ?_) (fun cdv A outer s H vs Q E hr h => ?_)
  · obtain ⟨_,_,rfl,_⟩:=h; rfl
  obtain ⟨a,ns,rfl,hS,q⟩:=h
  refine ⟨_,pss_one (ps_ret (pe_op op_add pe_int (pe_fn Fm hr (by decide) (pa_cons (pe_fn Fc hr (by decide) (pa_cons (pv 0) (pa_cons pe_int pa_nil))) (pa_cons pe_int (pa_cons pe_int pa_nil)))))),?_⟩
  refine ⟨_,rfl,a,ns,0,rfl,hS,_,_,_,rfl,by decide,by decide,_,_,rfl,rfl,?_⟩
  have h1:=Int.emod_nonneg (ns.getD 0 0 * 48271 % 9973) (show (5 : Int) ≠ 0 by decide)
  have h2:=Int.emod_lt_of_pos (ns.getD 0 0 * 48271 % 9973) (show (0 : Int) < 5 by decide)
  have e : (2 : Int) + ns.getD 0 0 * 48271 % 9973 % 5 = ((2 + (ns.getD 0 0 * 48271 % 9973 % 5).toNat : Nat) : Int):=by omega
  show Q (.int ((2 : Int) + ns.getD 0 0 * 48271 % 9973 % 5)) H
  rw [e]
  exact q _ (by omega) (by omega)
end
end Qh
set_option Elab.async false
set_option linter.all false
set_option maxRecDepth 100000
namespace Qh
open PySem L2 Tx
abbrev TL (H : Hp) : List (List V) → List V → Prop:=Paired fun xs v => ∃ t,v = V.ref t ∧ H t = some (.tup xs)
theorem Paired.app {α β : Type} {F : α → β → Prop} : ∀ {a b : List α} {c d : List β},Paired F a c → Paired F b d → Paired F (a ++ b) (c ++ d)
  | _,_,_,_,.nil,q => q
  | _,_,_,_,.cons h t,q => .cons h (Paired.app t q)
theorem Paired.get {α β : Type} {F : α → β → Prop} : ∀ {a : List α} {c : List β} {i : Nat} {x : α} {y : β},Paired F a c → a[i]? = some x → c[i]? = some y → F x y
  | _,_,_,_,_,.nil,e,_ => by simp at e
  | _,_,0,_,_,.cons h _,e,e' => by simp at e e'; subst e e'; exact h
  | _,_,i + 1,_,_,.cons _ t,e,e' => Paired.get (i:=i) t (by simpa using e) (by simpa using e')
theorem Paired.has {α β : Type} {F : α → β → Prop} : ∀ {a : List α} {c : List β} {i : Nat} {y : β},Paired F a c → c[i]? = some y → ∃ x,a[i]? = some x ∧ F x y
  | _,_,_,_,.nil,e => by simp at e
  | _,_,0,_,.cons h _,e => by simp at e; subst e; exact ⟨_,rfl,h⟩
  | _,_,i + 1,_,.cons _ t,e => by
    obtain ⟨x,q,f⟩:=Paired.has (i:=i) t (by simpa using e)
    exact ⟨x,by simpa using q,f⟩
theorem TL.keep {H H' : Hp} {xss : List (List V)} {vs : List V} (h : TL H xss vs) (k : ∀ b xs,H b = some (.tup xs) → H' b = some (.tup xs)) : TL H' xss vs:=Paired.mapP h fun xs v ⟨t,e,q⟩ => ⟨t,e,k t xs q⟩
def row (n a i : Nat) : List (Nat × Nat):=((List.range i).filter fun b => decide (a ≠ b)).map fun b => (a,b)
def roadsTo (n i : Nat) : List (Nat × Nat):=(List.range i).flatMap fun a => row n a n
def roads (n : Nat) : List (Nat × Nat):=roadsTo n n
def rv (r : Nat × Nat) : List V:=[.int (r.1 : Nat),.int (r.2 : Nat)]
theorem row_succ (n a i : Nat) : row n a (i + 1) = row n a i ++ (if a ≠ i then [(a,i)] else []):=by
  unfold row
  rw [List.range_succ,List.filter_append,List.map_append]
  congr 1
  by_cases h : a = i <;> simp [h]
theorem roadsTo_succ (n i : Nat) : roadsTo n (i + 1) = roadsTo n i ++ row n i n:=by
  unfold roadsTo
  rw [List.range_succ,List.flatMap_append]
  simp
theorem mem_roads {n : Nat} {r : Nat × Nat} : r ∈ roads n ↔ r.1 < n ∧ r.2 < n ∧ r.1 ≠ r.2:=by
  unfold roads roadsTo row
  simp only [List.mem_flatMap,List.mem_range,List.mem_map,List.mem_filter,decide_eq_true_eq]
  constructor
  · rintro ⟨a,ha,b,⟨hb,hab⟩,rfl⟩; exact ⟨ha,hb,hab⟩
  · rintro ⟨h1,h2,h3⟩; exact ⟨r.1,h1,r.2,⟨h2,h3⟩,rfl⟩
theorem row_len (n a i : Nat) : (row n a i).length ≤ i:=by
  unfold row
  rw [List.length_map]
  exact Nat.le_trans (List.length_filter_le _ _) (by rw [List.length_range]; exact Nat.le_refl _)
theorem roadsTo_len (n i : Nat) : (roadsTo n i).length ≤ i * n:=by
  induction i with
  | zero => simp [roadsTo]
  | succ i ih =>
    rw [roadsTo_succ,List.length_append,Nat.succ_mul]
    have:=row_len n i n
    omega
section
variable {P : Program} {w : World} {K : PySem.W.Frag} {mg : Str → Option Value} {base : Heap}
def spRoads : Sp:=fun vs H Q _ => ∃ n : Nat,vs = [.int n] ∧ n ≤ 6 ∧ ∀ (l : Addr) (rs : List V) (H' : Hp),H l = none → Same H H' → H' l = some (.lst rs) → TL H' ((roads n).map rv) rs → Q (.ref l) H'
theorem sc_roads : FnScope ["_law_many_here","_law_found","_law_one"] ["_law_many_here"] (defScope s__law_roads):=⟨rfl,rfl,rfl,by decide +kernel,rfl,by decide +kernel,by decide +kernel⟩
theorem ok_roads {f : Addr} {fd : FuncData} (F : Fun K "_law_roads" "_law_roads" s__law_roads f fd) (T : Gs mg) : FnOk P w K mg base CX0 1 f fd ["_law_many_here"] spRoads:=by
  refine F.ok sc_roads (fun vs H Q E h => ?_) (fun cdv A outer s H vs Q E hr h => ?_)
  · obtain ⟨_,rfl,_⟩:=h; rfl
  obtain ⟨n,rfl,hn,q⟩:=h
  refine ⟨_,pss_cons (ps_set (i:=1) sc_roads.nd rfl (Or.inl rfl) (pe_lst pa_nil))
    (pss_cons (ps_for PassesOwn.never rfl (pi_range1 rfl T.range (pa_cons (pv 0) pa_nil)) (pg_name (i:=2) sc_roads.nd rfl (Or.inr rfl))
      (pss_one (ps_expr (pe_bm PySem.F.plainAttrs_list PySem.F.slot_list_extend PySem.F.type_list_extend mt_extend (pv 1) (pa_cons
        (pe_comp (N:=["_law_other","_law_one"]) (ix:=[none,some 2]) ["_law_many_here","_law_found","_law_one"] (defScope s__law_roads) rfl rfl rfl ⟨by decide +kernel,rfl,by decide +kernel,by decide +kernel,rfl,by decide +kernel,by decide +kernel⟩ (pi_range1 rfl T.range (pa_cons (pv 0) pa_nil)) (fun _ _ _ _ nd => pg_name (i:=0) nd rfl (Or.inl rfl))
          (fun _ _ _ _ => pts_one (pt_cmpR op_ne (pv 1) (pv 0) (nomark _))) (fun _ _ _ _ => pe_tup (pa_cons (pv 1) (pa_cons (pv 0) pa_nil)))) pa_nil)))))
    (pss_one (ps_ret (pv 1)))),?_⟩
  refine ⟨Nat.zero_le _,fun l hl => ?_⟩
  refine ⟨_,rfl,(n : Int),rfl,by omega,by omega,?_⟩
  rw [Int.toNat_natCast]
  refine for_range (n:=n) (fun i σ H2 => ∃ (rs : List V) (v : Option V),σ = [some (.int n),some (.ref l),v] ∧ Same H H2 ∧ H2 l = some (.lst rs) ∧ TL H2 ((roadsTo n i).map rv) rs) ?_ ?_ ?_
  · exact ⟨[],none,rfl,fun b o e => by rw [upd_ne (ne_of_none e hl)]; exact e,upd_same,.nil⟩
  · rintro i σ H2 hi ⟨rs,v,rfl,s2,h2,p2⟩
    rw [Int.zero_add]
    refine ⟨_,rfl,.inl ⟨rfl,_,SqL.of h2⟩,?_⟩
    refine ⟨_,rfl,(n : Int),rfl,by omega,by omega,fun D hD => ?_⟩
    rw [Int.toNat_natCast]
    refine comp_range (n:=n) (by omega) (fun j ys σ H3 => ∃ w,σ = [w,some (.int (i : Nat))] ∧ Same H2 H3 ∧ H3 D = some (.lst ys) ∧ TL H3 ((row n i j).map rv) ys) ?_ ?_ ?_ ?_
    · exact ⟨none,rfl,fun b o e => by rw [upd_ne (ne_of_none e hD)]; exact e,upd_same,.nil⟩
    · rintro j ys σ H3 ⟨_,_,_,_,p⟩
      have:=Paired.length p
      rw [List.length_map] at this
      have:=row_len n i j
      omega
    · rintro j ys σ H3 hj ⟨w,rfl,s3,h3,p3⟩
      rw [Int.zero_add]
      refine ⟨_,rfl,_,rfl,rfl,_,rfl,?_⟩
      have e : (V.int (i : Nat) = V.int (j : Nat)) ↔ i = j:=by rw [V.int.injEq]; omega
      refine ite2 (fun hne => ?_) (fun hne => ?_)
      · have hne : i ≠ j:=fun z => by rw [decide_eq_true (e.mpr z)] at hne; cases hne
        refine ⟨_,rfl,_,rfl,le1000 (by show 2 ≤ 1000; decide),fun t ht => ⟨?_,_,rfl,fun b o q => ?_,upd_same,?_⟩⟩
        · rw [upd_ne (ne_of_none h3 ht)]; exact h3
        · have q':=s3 b o q
          rw [upd_ne (ne_of_none q hD),upd_ne (ne_of_none q' ht)]; exact q'
        · rw [row_succ,if_pos hne,List.map_append]
          refine Paired.snoc (TL.keep p3 fun b xs q => ?_) ⟨t,rfl,?_⟩
          · rw [upd_ne (ne_of q h3 (by intro z; cases z)),upd_ne (ne_of_none q ht)]; exact q
          · rw [upd_ne (Ne.symm (ne_of_none h3 ht)),upd_same]; rfl
      · have hne : i = j:=by
          by_cases z : i = j
          · exact z
          · rw [decide_eq_false (fun q => z (e.mp q))] at hne; exact absurd rfl hne
        refine ⟨_,rfl,s3,h3,?_⟩
        rw [row_succ,if_neg (by simp [hne]),List.append_nil]; exact p3
    · rintro ys σ H3 ⟨w,rfl,s3,h3,p3⟩
      have h2':=s3 l _ h2
      have nl : l ≠ D:=ne_of_none h2 hD
      refine ⟨l,D,rs,ys,rfl,rfl,h2',h3,?_,?_⟩
      · have a:=Paired.length p2
        have b:=Paired.length p3
        rw [List.length_map] at a b
        have c:=roadsTo_len n i
        have d:=row_len n i n
        have : i * n ≤ 6 * 6:=Nat.mul_le_mul (by omega) hn
        exact le1000 (by omega)
      · refine ⟨_,_,rfl,fun b o q => ?_,upd_same,?_⟩
        · have q1:=s2 b o q
          rw [upd_ne (ne_of_none q hl)]; exact s3 b o q1
        · rw [roadsTo_succ,List.map_append]
          have kp : ∀ b xs,H3 b = some (.tup xs) → upd H3 l (.lst (rs ++ ys)) b = some (.tup xs):=fun b xs q => by rw [upd_ne (ne_of q h2' (by intro z; cases z))]; exact q
          exact Paired.app (TL.keep (TL.keep p2 fun b xs q => s3 b _ q) kp) (TL.keep p3 kp)
  · rintro σ H2 ⟨rs,v,rfl,s2,h2,p2⟩
    exact ⟨_,rfl,q l rs H2 hl s2 h2 p2⟩
end
end Qh
set_option Elab.async false
set_option linter.all false
set_option maxRecDepth 100000
namespace Qh
open PySem L2 Tx
structure Wk (J : It) (H : Hp) (xs : List V) : Prop where
  go : ∀ (i : Nat) (H' : Hp),Same H H' → i < xs.length → J.go i H' ∧ ∀ x H2,J.yld i H' x H2 → H2 = H' ∧ xs[i]? = some x
  stop : ∀ H',Same H H' → J.stop xs.length H'
theorem wk_list {K : PySem.W.Frag} {H : Hp} {a : Addr} {xs : List V} (h : SqL K H a xs) : Wk (Itl K a) H xs :=
  ⟨fun i H' e hi => ⟨⟨xs,xs[i],e.seq h,by simp [hi]⟩,fun x H2 ⟨e2,y⟩ => ⟨e2,y xs (e.seq h)⟩⟩,fun H' e => ⟨xs,e.seq h,Nat.le_refl _⟩⟩
theorem wk_tup {K : PySem.W.Frag} {H : Hp} {a : Addr} {xs : List V} (h : SqT K H a xs) : Wk (Itt K a) H xs :=
  ⟨fun i H' e hi => ⟨⟨xs,xs[i],Same.tup e h,by simp [hi]⟩,fun x H2 ⟨e2,y⟩ => ⟨e2,y xs (Same.tup e h)⟩⟩,fun H' e => ⟨xs,Same.tup e h,Nat.le_refl _⟩⟩
theorem wk_range {H : Hp} {lo : Int} {n : Nat} : Wk (Itr lo n) H ((List.range n).map fun k => V.int (lo + (k : Nat))):=by
  refine ⟨fun i H' e hi => ?_,fun H' e => ?_⟩
  · rw [List.length_map,List.length_range] at hi
    refine ⟨hi,fun x H2 ⟨e2,y⟩ => ⟨e2,?_⟩⟩
    rw [List.getElem?_map,List.getElem?_range hi,y]; rfl
  · show n ≤ _
    rw [List.length_map,List.length_range]; exact Nat.le_refl _
def NonL (H H' : Hp) : Prop:=∀ b o,H b = some o → (∀ ys,o ≠ HO.lst ys) → H' b = some o
theorem NonL.of {H H' : Hp} (e : Same H H') : NonL H H':=fun b o h _ => e b o h
theorem comp_gen {α : Type} {J : It} {tt : TT} {te : TE} {D : Addr} {H : Hp} {Q : VK} {xs : List V} {rest : St} {w0 : Option V} (items : List α) (keep : α → Bool) (Rel : Hp → α → V → Prop) (mono : ∀ H H' it v,Rel H it v → NonL H H' → Rel H' it v) (W : Wk J H xs) (hD : H D = none) (hl : items.length = xs.length) (hn : xs.length ≤ 1000)
    (ht : ∀ (i : Nat) it x H3 R,items[i]? = some it → xs[i]? = some x → Same H H3 → (∀ H4,Same H3 H4 → R (keep it) H4) → tt (some x :: rest) H3 R)
    (he : ∀ (i : Nat) it x H3 (R : VK),items[i]? = some it → xs[i]? = some x → keep it = true → Same H H3 → (∀ v H4,Same H3 H4 → Rel H4 it v → R v H4) → te (some x :: rest) H3 R)
    (hq : ∀ ys H',Same H H' → H' D = some (.lst ys) → Paired (Rel H') (items.filter keep) ys → Q (.ref D) H') : CLoop J (gName 0) tt te D (w0 :: rest) (upd H D (.lst [])) Q:=by
  have s0 : Same H (upd H D (.lst [])):=fun b o e => by rw [upd_ne (ne_of_none e hD)]; exact e
  refine ⟨fun i m ys σ H3 => m = xs.length - i ∧ i ≤ xs.length ∧ (∃ w,σ = w :: rest) ∧ Same H H3 ∧ H3 D = some (.lst ys) ∧ Paired (Rel H3) ((items.take i).filter keep) ys,⟨xs.length,by simp,Nat.zero_le _,⟨w0,rfl⟩,s0,upd_same,.nil⟩,?_⟩
  rintro i m ys σ H3 ⟨rfl,hi,⟨w,rfl⟩,s3,h3,p3⟩
  by_cases hlt : i < xs.length
  · obtain ⟨go,yld⟩:=W.go i H3 s3 hlt
    have hyl : ys.length ≤ i:=by
      have a:=Paired.length p3
      have b:=List.length_filter_le keep (items.take i)
      rw [List.length_take] at b
      omega
    refine .inr ⟨go,small1000 (by omega),fun ys σ H3 => i + 1 ≤ xs.length ∧ (∃ w,σ = w :: rest) ∧ Same H H3 ∧ H3 D = some (.lst ys) ∧ Paired (Rel H3) ((items.take (i + 1)).filter keep) ys,fun ys σ H z => ⟨xs.length - (i + 1),by omega,rfl,z⟩,fun x H2 y => ?_⟩
    obtain ⟨e2,ex⟩:=yld x H2 y
    subst e2
    have hil : i < items.length:=by omega
    have ei : items[i]? = some items[i]:=List.getElem?_eq_getElem hil
    have et : items.take (i + 1) = items.take i ++ [items[i]]:=by rw [List.take_add_one,ei]; rfl
    show tt (some x :: rest) H2 _
    refine ht i items[i] x H2 _ ei ex s3 fun H4 s4 => ?_
    rw [et,List.filter_append]
    cases hk : keep items[i] with
    | true =>
      rw [if_pos rfl]
      have ef : [items[i]].filter keep = [items[i]]:=by simp [hk]
      rw [ef]
      refine he i items[i] x H4 _ ei ex hk (s3.trans s4) fun v H5 s5 h5 => ?_
      have d5:=s5 D _ (s4 D _ h3)
      refine ⟨d5,by omega,⟨_,rfl⟩,fun b o q => ?_,upd_same,?_⟩
      · rw [upd_ne (ne_of_none q hD)]; exact s5 b o (s4 b o (s3 b o q))
      · have kp : NonL H5 (upd H5 D (.lst (ys ++ [v]))):=fun b o q z => by rw [upd_ne (ne_of q d5 (z _))]; exact q
        exact Paired.snoc (Paired.mapP p3 fun it u r => mono _ _ it u (mono _ _ it u r (.of (s4.trans s5))) kp) (mono _ _ _ _ h5 kp)
    | false =>
      rw [if_neg (by simp)]
      have ef : [items[i]].filter keep = []:=by simp [hk]
      rw [ef]
      refine ⟨by omega,⟨_,rfl⟩,s3.trans s4,s4 D _ h3,?_⟩
      rw [List.append_nil]
      exact Paired.mapP p3 fun it u r => mono _ _ it u r (.of s4)
  · have e : i = xs.length:=by omega
    subst e
    refine .inl ⟨W.stop H3 s3,hq ys H3 s3 h3 ?_⟩
    rw [← hl,List.take_length] at p3
    exact p3
theorem comp_tl {α : Type} {J : It} {tt : TT} {te : TE} {D : Addr} {H : Hp} {Q : VK} {xs : List V} {rest : St} {w0 : Option V} (items : List α) (keep : α → Bool) (out : α → List V) (W : Wk J H xs) (hD : H D = none) (hl : items.length = xs.length) (hn : xs.length ≤ 1000)
    (ht : ∀ (i : Nat) it x H3 R,items[i]? = some it → xs[i]? = some x → Same H H3 → (∀ H4,Same H3 H4 → R (keep it) H4) → tt (some x :: rest) H3 R)
    (he : ∀ (i : Nat) it x H3 (R : VK),items[i]? = some it → xs[i]? = some x → keep it = true → Same H H3 → (∀ t H4,H3 t = none → Same H3 H4 → H4 t = some (.tup (out it)) → R (.ref t) H4) → te (some x :: rest) H3 R)
    (hq : ∀ ys H',Same H H' → H' D = some (.lst ys) → TL H' ((items.filter keep).map out) ys → Q (.ref D) H') : CLoop J (gName 0) tt te D (w0 :: rest) (upd H D (.lst [])) Q:=by
  refine comp_gen items keep (fun H it v => ∃ t,v = V.ref t ∧ H t = some (.tup (out it))) (fun H H' it v ⟨t,e,h⟩ k => ⟨t,e,k t _ h fun ys z => by cases z⟩) W hD hl hn ht (fun i it x H3 R a b c d r => he i it x H3 R a b c d fun t H4 _ s4 h4 => r _ H4 s4 ⟨t,rfl,h4⟩) fun ys H' s' h' p' => hq ys H' s' h' ?_
  clear hq ht he h'
  generalize items.filter keep = l at p'
  induction p' with
  | nil => exact .nil
  | cons h _ ih => exact .cons h ih
def actV : Act → List V
  | .send a b => [.str "send",.int (a : Nat),.int (b : Nat)]
  | .take a b => [.str "take",.int (a : Nat),.int (b : Nat)]
  | .rest a => [.str "rest",.int (a : Nat)]
  | .back a b => [.str "back",.int (a : Nat),.int (b : Nat)]
  | .home a => [.str "home",.int (a : Nat)]
  | .pass => [.str "pass"]
def choices (n : Nat) (s : S) (kind : Int) : List Act :=
  if kind < 3 then ((roads n).filter fun r => s.busy r.1).map fun r => .send r.1 r.2
  else if kind < 6 then ((roads n).filter fun r => decide (s.rows r.1 r.2 ≠ [])).map fun r => .take r.1 r.2
  else if kind < 9 then (workers n s).map .rest
  else if kind < 11 then ((roads n).filter fun r => decide (s.slips r.1 r.2 ≠ 0)).map fun r => .back r.1 r.2
  else if kind = 11 then (((List.range (n - 1)).map (· + 1)).filter fun k => decide (s.hw k ≠ [])).map .home
  else if s.busy s.place = true then [] else [.pass]
theorem mem_workers {n k : Nat} {s : S} : k ∈ workers n s ↔ k < n ∧ s.busy k = true:=by
  unfold workers; rw [List.mem_filter,List.mem_range]
theorem choices_can {n : Nat} {s : S} {kind : Int} {c : Act} (h : c ∈ choices n s kind) : Can n s c:=by
  unfold choices at h
  split at h
  · obtain ⟨r,hr,rfl⟩:=List.mem_map.mp h
    obtain ⟨h1,h2⟩:=List.mem_filter.mp hr
    obtain ⟨a,b,c⟩:=mem_roads.mp h1
    exact ⟨a,b,c,h2⟩
  split at h
  · obtain ⟨r,hr,rfl⟩:=List.mem_map.mp h
    obtain ⟨h1,h2⟩:=List.mem_filter.mp hr
    obtain ⟨a,b,c⟩:=mem_roads.mp h1
    exact ⟨a,b,c,of_decide_eq_true h2⟩
  split at h
  · obtain ⟨r,hr,rfl⟩:=List.mem_map.mp h
    exact mem_workers.mp hr
  split at h
  · obtain ⟨r,hr,rfl⟩:=List.mem_map.mp h
    obtain ⟨h1,h2⟩:=List.mem_filter.mp hr
    obtain ⟨a,b,c⟩:=mem_roads.mp h1
    exact ⟨a,b,c,of_decide_eq_true h2⟩
  split at h
  · obtain ⟨r,hr,rfl⟩:=List.mem_map.mp h
    obtain ⟨h1,h2⟩:=List.mem_filter.mp hr
    obtain ⟨k,hk,rfl⟩:=List.mem_map.mp h1
    have:=List.mem_range.mp hk
    exact ⟨by omega,by omega,of_decide_eq_true h2⟩
  split at h
  · cases h
  · rename_i hb
    obtain rfl:=List.mem_singleton.mp h
    show s.busy s.place = false
    simpa using hb
theorem inV_workers {n k : Nat} {s : S} : inV (V.int (k : Nat)) ((workers n s).map fun j => V.int (j : Nat)) = decide (k < n ∧ s.busy k = true):=by
  unfold inV
  rw [Bool.eq_iff_iff,List.any_eq_true,decide_eq_true_eq,← mem_workers]
  constructor
  · rintro ⟨x,hx,e⟩
    obtain ⟨j,hj,rfl⟩:=List.mem_map.mp hx
    have : (j : Int) = (k : Int):=by simpa [eqV] using e
    have : j = k:=by omega
    rw [← this]; exact hj
  · intro h
    exact ⟨_,List.mem_map.mpr ⟨k,h,rfl⟩,by simp [eqV]⟩
theorem flat_ints (l : List Nat) : (l.map fun j => V.int (j : Nat)).all flatV = true:=by
  rw [List.all_eq_true]
  intro x hx
  obtain ⟨j,_,rfl⟩:=List.mem_map.mp hx
  rfl
end Qh
set_option Elab.async false
set_option linter.all false
set_option maxRecDepth 100000
namespace Qh
open PySem L2 Tx
section
variable {P : Program} {w : World} {K : PySem.W.Frag} {mg : Str → Option Value} {base : Heap} {C : Addr}
structure Asks (P : Program) (w : World) (K : PySem.W.Frag) (mg : Str → Option Value) (base : Heap) (C : Addr) (I : HallI K C) : Prop where
  cl : Cls K C
  working : Mt P w K mg base C "working" 10 ["self"] (spQ0 I (qWorking (K:=K)))
  works : Mt P w K mg base C "works" 10 ["self","one","other"] (spQ2 I qWorks)
  receipts : Mt P w K mg base C "receipts" 10 ["self","one","other"] (spQ2 I qReceipts)
  home : Mt P w K mg base C "weights_home" 10 ["self","hand"] (spQ1 I (qHome (K:=K)))
  token : Mt P w K mg base C "token" 10 ["self"] (spQ0 I (qToken (K:=K)))
theorem meths_has {fs : List (Str × V)} (h : ∀ m ∈ meths,fs.lookup m = none) (m : Str) (e : meths.contains m = true:=by decide +kernel) : fs.lookup m = none:=h m (by simpa using e)
def spChoices (I : HallI K C) : Sp:=fun vs H Q _ => ∃ (n : Nat) (p : Addr) (s : S) (F : Addr → Prop) (k : Int),vs = [.ref p,.int n,.int k] ∧ I.At n H p s F ∧ 1 ≤ n ∧ n ≤ 6 ∧ s.place < n ∧
  ∀ (l : Addr) (ys : List V) (H' : Hp),H l = none → Same H H' → H' l = some (.lst ys) → TL H' ((choices n s k).map actV) ys → Q (.ref l) H'
abbrev N_choices : List Str:=["_law_hall","_law_many_here","_law_kind","_law_roads_here"]
theorem sc_choices : FnScope N_choices ["_law_hall","_law_many_here","_law_kind"] (defScope s__law_choices):=⟨rfl,rfl,rfl,by decide +kernel,rfl,by decide +kernel,by decide +kernel⟩
theorem rv_at0 (r : Nat × Nat) : atI (rv r) 0 = some (.int (r.1 : Nat)):=rfl
theorem rv_at1 (r : Nat × Nat) : atI (rv r) 1 = some (.int (r.2 : Nat)):=rfl
theorem ok_choices {f : Addr} {fd : FuncData} {I : HallI K C} (F : Fun K "_law_choices" "_law_choices" s__law_choices f fd) (T : Gs mg) (Q : Asks P w K mg base C I) (Fr : Fn P w K mg base "_law_roads" 1 ["_law_many_here"] spRoads) :
    FnOk P w K mg base CX0 11 f fd ["_law_hall","_law_many_here","_law_kind"] (spChoices I):=by
  refine F.ok sc_choices (fun vs H Q E h => ?_) (fun cdv A outer s0 H vs Qq E hr h => ?_)
  · obtain ⟨_,_,_,_,_,rfl,_⟩:=h; rfl
  obtain ⟨n,p,s,Ft,k,rfl,at0,hn1,hn6,hpl,q⟩:=h
  refine ⟨_,pss_cons (ps_set (i:=3) sc_choices.nd rfl (Or.inl rfl) (pe_fn Fr hr (by decide) (pa_cons (pv 1) pa_nil)))
    (pss_cons (ps_if (pt_cmpR op_lt (pv 2) pe_int (nomark _)) (pss_one (ps_ret
      (pe_comp (N:=["_law_road","_law_hall"]) (ix:=[none,some 0]) N_choices (defScope s__law_choices) rfl rfl rfl ⟨by decide +kernel,rfl,by decide +kernel,by decide +kernel,rfl,by decide +kernel,by decide +kernel⟩ (pi_list (pv 3)) (fun _ _ _ _ nd => pg_name (i:=0) nd rfl (Or.inl rfl))
        (fun _ _ _ _ => pts_one (pt_cmpR (k_in K rfl) (pe_ix (k_ixT K rfl) (pv 0) pe_int (fun _ _ => rfl)) (pe_mt0 Q.working Q.cl hr (by decide) (pv 1)) (by with_unfolding_all rfl))) (fun _ _ _ _ => pe_op (k_catT K rfl) (pe_tup (pa_cons pe_str pa_nil)) (pv 0))))) pss_nil)
    (pss_cons (ps_if (pt_cmpR op_lt (pv 2) pe_int (nomark _)) (pss_one (ps_ret
      (pe_comp (N:=["_law_road","_law_hall"]) (ix:=[none,some 0]) N_choices (defScope s__law_choices) rfl rfl rfl ⟨by decide +kernel,rfl,by decide +kernel,by decide +kernel,rfl,by decide +kernel,by decide +kernel⟩ (pi_list (pv 3)) (fun _ _ _ _ nd => pg_name (i:=0) nd rfl (Or.inl rfl))
        (fun _ _ _ _ => pts_one (pt_cmpR op_gt (pe_mt Q.works Q.cl hr (by decide) (pv 1) (pa_cons (pe_ix (k_ixT K rfl) (pv 0) pe_int (fun _ _ => rfl)) (pa_cons (pe_ix (k_ixT K rfl) (pv 0) pe_int (fun _ _ => rfl)) pa_nil))) pe_int (nomark _))) (fun _ _ _ _ => pe_op (k_catT K rfl) (pe_tup (pa_cons pe_str pa_nil)) (pv 0))))) pss_nil)
    (pss_cons (ps_if (pt_cmpR op_lt (pv 2) pe_int (nomark _)) (pss_one (ps_ret
      (pe_comp (N:=["_law_hand"]) (ix:=[none]) N_choices (defScope s__law_choices) rfl rfl rfl ⟨by decide +kernel,rfl,by decide +kernel,by decide +kernel,rfl,by decide +kernel,by decide +kernel⟩ (pi_tup (pe_mt0 Q.working Q.cl hr (by decide) (pv 0))) (fun _ _ _ _ nd => pg_name (i:=0) nd rfl (Or.inl rfl))
        (fun _ _ _ _ => pts_nil) (fun _ _ _ _ => pe_tup (pa_cons pe_str (pa_cons (pv 0) pa_nil)))))) pss_nil)
    (pss_cons (ps_if (pt_cmpR op_lt (pv 2) pe_int (nomark _)) (pss_one (ps_ret
      (pe_comp (N:=["_law_road","_law_hall"]) (ix:=[none,some 0]) N_choices (defScope s__law_choices) rfl rfl rfl ⟨by decide +kernel,rfl,by decide +kernel,by decide +kernel,rfl,by decide +kernel,by decide +kernel⟩ (pi_list (pv 3)) (fun _ _ _ _ nd => pg_name (i:=0) nd rfl (Or.inl rfl))
        (fun _ _ _ _ => pts_one (pt_cmpR op_gt (pe_mt Q.receipts Q.cl hr (by decide) (pv 1) (pa_cons (pe_ix (k_ixT K rfl) (pv 0) pe_int (fun _ _ => rfl)) (pa_cons (pe_ix (k_ixT K rfl) (pv 0) pe_int (fun _ _ => rfl)) pa_nil))) pe_int (nomark _))) (fun _ _ _ _ => pe_op (k_catT K rfl) (pe_tup (pa_cons pe_str pa_nil)) (pv 0))))) pss_nil)
    (pss_cons (ps_if (pt_cmpR op_eq (pv 2) pe_int (nomark _)) (pss_one (ps_ret
      (pe_comp (N:=["_law_hand","_law_hall"]) (ix:=[none,some 0]) N_choices (defScope s__law_choices) rfl rfl rfl ⟨by decide +kernel,rfl,by decide +kernel,by decide +kernel,rfl,by decide +kernel,by decide +kernel⟩ (pi_range2 rfl T.range (pa_cons pe_int (pa_cons (pv 1) pa_nil))) (fun _ _ _ _ nd => pg_name (i:=0) nd rfl (Or.inl rfl))
        (fun _ _ _ _ => pts_one (pt_cmpR op_gt (pe_callB (k_len K rfl) (by rfl) T.len PySem.boot_len (pa_cons (pe_mt Q.home Q.cl hr (by decide) (pv 1) (pa_cons (pv 0) pa_nil)) pa_nil)) pe_int (nomark _))) (fun _ _ _ _ => pe_tup (pa_cons pe_str (pa_cons (pv 0) pa_nil)))))) pss_nil)
    (pss_one (ps_ret
      (pe_comp (N:=["_law_hand","_law_hall"]) (ix:=[none,some 0]) N_choices (defScope s__law_choices) rfl rfl rfl ⟨by decide +kernel,rfl,by decide +kernel,by decide +kernel,rfl,by decide +kernel,by decide +kernel⟩ (pi_list (pe_lst (pa_cons (pe_ix (k_ixT K rfl) (pe_mt0 Q.token Q.cl hr (by decide) (pv 0)) pe_int (fun _ _ => rfl)) pa_nil))) (fun _ _ _ _ nd => pg_name (i:=0) nd rfl (Or.inl rfl))
        (fun _ _ _ _ => pts_one (pt_cmpR (k_notIn K rfl) (pv 0) (pe_mt0 Q.working Q.cl hr (by decide) (pv 1)) (by with_unfolding_all rfl))) (fun _ _ _ _ => pe_tup (pa_cons pe_str pa_nil)))))))))),?_⟩
  obtain ⟨dx,fs,hp,hm⟩:=I.ins at0
  have mapget : ∀ {i : Nat} {r : Nat × Nat},(roads n)[i]? = some r → ((roads n).map rv)[i]? = some (rv r):=fun e => by rw [List.getElem?_map,e]; rfl
  refine ⟨_,rfl,n,rfl,hn6,fun l rs H1 hl s1 h1 p1 => ?_⟩
  have rlen : (roads n).length = rs.length:=by have:=Paired.length p1; rw [List.length_map] at this; exact this
  have rle : rs.length ≤ 1000:=by
    have a:=roadsTo_len n n
    have b : n * n ≤ 6 * 6:=Nat.mul_le_mul hn6 hn6
    unfold roads at rlen
    omega
  refine ⟨_,rfl,_,_,rfl,rfl,_,rfl,?_⟩
  refine ite2 (fun hk => ?_) (fun hk => ?_)
  · have hk:=of_decide_eq_true hk
    refine ⟨_,rfl,l,rfl,⟨_,SqL.of h1⟩,fun D hD => ?_⟩
    refine comp_tl (w0:=none) (rest:=[some (.ref p)]) (roads n) (fun r => s.busy r.1) (fun r => actV (.send r.1 r.2)) (wk_list (SqL.of h1)) hD rlen rle ?_ ?_ ?_
    · intro i r x H3 R er ex s3 hR
      obtain ⟨t,rfl,ht⟩:=Paired.get p1 (mapget er) ex
      obtain ⟨r1,r2,r3⟩:=mem_roads.mp (List.mem_of_getElem? er)
      have a3:=I.same at0 (s1.trans s3)
      obtain ⟨dx3,fs3,hp3,hm3⟩:=I.ins a3
      refine ⟨_,rfl,t,_,_,_,rfl,rfl,SqT.of (s3 _ _ ht),rv_at0 r,_,rfl,p,dx3,fs3,rfl,hp3,meths_has hm3 "working",n,p,s,Ft,rfl,a3,fun v H4 s4 ⟨u,e,hu⟩ => ?_⟩
      subst e
      refine ⟨u,_,rfl,.inr hu,rfl,flat_ints _,_,rfl,?_⟩
      rw [if_neg (by decide),inV_workers,show decide (r.1 < n ∧ s.busy r.1 = true) = s.busy r.1 by simp [r1]]
      exact hR H4 s4
    · intro i r x H3 R er ex _ s3 hR
      obtain ⟨t,rfl,ht⟩:=Paired.get p1 (mapget er) ex
      refine ⟨le1000 (by show 1 ≤ 1000; decide),fun u hu => ⟨_,rfl,u,t,_,_,rfl,rfl,SqT.of upd_same,SqT.of (xs:=rv r) (by rw [upd_ne (ne_of_none (s3 _ _ ht) hu)]; exact s3 _ _ ht),(fun z => by cases z),le1000 (by show 1 + 2 ≤ 1000; decide),(fun z => by cases z),fun _ v hv => ?_⟩⟩
      have hv3 : H3 v = none:=by
        cases e : H3 v with
        | none => rfl
        | some o => rw [upd_ne (ne_of_none e hu),e] at hv; cases hv
      refine hR v _ hv3 (fun b o z => ?_) upd_same
      rw [upd_ne (ne_of_none z hv3),upd_ne (ne_of_none z hu)]; exact z
    · intro ys H' s' h' p'
      refine q D ys H' (s1.free hD) (s1.trans s') h' ?_
      unfold choices
      rw [if_pos hk]
      rw [List.map_map]; exact p'
  have k3:=fun z => hk (decide_eq_true z)
  refine ⟨_,rfl,_,_,rfl,rfl,_,rfl,?_⟩
  refine ite2 (fun hk => ?_) (fun hk => ?_)
  · have hk:=of_decide_eq_true hk
    refine ⟨_,rfl,l,rfl,⟨_,SqL.of h1⟩,fun D hD => ?_⟩
    refine comp_tl (w0:=none) (rest:=[some (.ref p)]) (roads n) (fun r => decide (s.rows r.1 r.2 ≠ [])) (fun r => actV (.take r.1 r.2)) (wk_list (SqL.of h1)) hD rlen rle ?_ ?_ ?_
    · intro i r x H3 R er ex s3 hR
      obtain ⟨t,rfl,ht⟩:=Paired.get p1 (mapget er) ex
      obtain ⟨r1,r2,r3⟩:=mem_roads.mp (List.mem_of_getElem? er)
      have a3:=I.same at0 (s1.trans s3)
      obtain ⟨dx3,fs3,hp3,hm3⟩:=I.ins a3
      refine ⟨_,rfl,p,dx3,fs3,rfl,hp3,meths_has hm3 "works",_,rfl,t,_,_,_,rfl,rfl,SqT.of (s3 _ _ ht),rv_at0 r,_,rfl,t,_,_,_,rfl,rfl,SqT.of (s3 _ _ ht),rv_at1 r,n,p,s,Ft,r.1,r.2,rfl,a3,r1,r2,r3,fun v H4 s4 e => ?_⟩
      subst e
      refine ⟨_,_,rfl,rfl,_,rfl,?_⟩
      rw [show decide ((0 : Int) < (((s.rows r.1 r.2).length : Nat) : Int)) = (fun r => decide (s.rows r.1 r.2 ≠ [])) r by simp [List.length_pos_iff]]
      exact hR H4 s4
    · intro i r x H3 R er ex _ s3 hR
      obtain ⟨t,rfl,ht⟩:=Paired.get p1 (mapget er) ex
      refine ⟨le1000 (by show 1 ≤ 1000; decide),fun u hu => ⟨_,rfl,u,t,_,_,rfl,rfl,SqT.of upd_same,SqT.of (xs:=rv r) (by rw [upd_ne (ne_of_none (s3 _ _ ht) hu)]; exact s3 _ _ ht),(fun z => by cases z),le1000 (by show 1 + 2 ≤ 1000; decide),(fun z => by cases z),fun _ v hv => ?_⟩⟩
      have hv3 : H3 v = none:=by
        cases e : H3 v with
        | none => rfl
        | some o => rw [upd_ne (ne_of_none e hu),e] at hv; cases hv
      refine hR v _ hv3 (fun b o z => ?_) upd_same
      rw [upd_ne (ne_of_none z hv3),upd_ne (ne_of_none z hu)]; exact z
    · intro ys H' s' h' p'
      refine q D ys H' (s1.free hD) (s1.trans s') h' ?_
      unfold choices
      rw [if_neg k3,if_pos hk]
      rw [List.map_map]; exact p'
  have k6:=fun z => hk (decide_eq_true z)
  refine ⟨_,rfl,_,_,rfl,rfl,_,rfl,?_⟩
  refine ite2 (fun hk => ?_) (fun hk => ?_)
  · have hk:=of_decide_eq_true hk
    have a1:=I.same at0 s1
    obtain ⟨dx1,fs1,hp1,hm1⟩:=I.ins a1
    refine ⟨_,rfl,p,dx1,fs1,rfl,hp1,meths_has hm1 "working",n,p,s,Ft,rfl,a1,fun v H2 s2 ⟨u,e,hu⟩ => ?_⟩
    subst e
    refine ⟨u,rfl,⟨_,hu⟩,fun D hD => ?_⟩
    refine comp_tl (w0:=none) (rest:=[]) (workers n s) (fun _ => true) (fun k => actV (.rest k)) (wk_tup hu) hD (by rw [List.length_map]) ?_ ?_ ?_ ?_
    · rw [List.length_map]
      exact Nat.le_trans (List.length_filter_le _ _) (by rw [List.length_range]; omega)
    · intro i k x H3 R er ex s3 hR
      exact hR H3 (Same.refl _)
    · intro i k x H3 R er ex _ s3 hR
      rw [List.getElem?_map,er] at ex
      cases ex
      refine ⟨_,rfl,le1000 (by show 2 ≤ 1000; decide),fun t ht => ?_⟩
      exact hR t _ ht (fun b o z => by rw [upd_ne (ne_of_none z ht)]; exact z) upd_same
    · intro ys H' s' h' p'
      refine q D ys H' (s1.free (s2.free hD)) (s1.trans (s2.trans s')) h' ?_
      unfold choices
      rw [if_neg k3,if_neg k6,if_pos hk,List.map_map]
      have e : (workers n s).filter (fun _ => true) = workers n s:=List.filter_eq_self.mpr fun _ _ => rfl
      rw [e] at p'
      exact p'
  have k9:=fun z => hk (decide_eq_true z)
  refine ⟨_,rfl,_,_,rfl,rfl,_,rfl,?_⟩
  refine ite2 (fun hk => ?_) (fun hk => ?_)
  · have hk:=of_decide_eq_true hk
    refine ⟨_,rfl,l,rfl,⟨_,SqL.of h1⟩,fun D hD => ?_⟩
    refine comp_tl (w0:=none) (rest:=[some (.ref p)]) (roads n) (fun r => decide (s.slips r.1 r.2 ≠ 0)) (fun r => actV (.back r.1 r.2)) (wk_list (SqL.of h1)) hD rlen rle ?_ ?_ ?_
    · intro i r x H3 R er ex s3 hR
      obtain ⟨t,rfl,ht⟩:=Paired.get p1 (mapget er) ex
      obtain ⟨r1,r2,r3⟩:=mem_roads.mp (List.mem_of_getElem? er)
      have a3:=I.same at0 (s1.trans s3)
      obtain ⟨dx3,fs3,hp3,hm3⟩:=I.ins a3
      refine ⟨_,rfl,p,dx3,fs3,rfl,hp3,meths_has hm3 "receipts",_,rfl,t,_,_,_,rfl,rfl,SqT.of (s3 _ _ ht),rv_at0 r,_,rfl,t,_,_,_,rfl,rfl,SqT.of (s3 _ _ ht),rv_at1 r,n,p,s,Ft,r.1,r.2,rfl,a3,r1,r2,r3,fun v H4 s4 e => ?_⟩
      subst e
      refine ⟨_,_,rfl,rfl,_,rfl,?_⟩
      rw [show decide ((0 : Int) < ((s.slips r.1 r.2 : Nat) : Int)) = (fun r => decide (s.slips r.1 r.2 ≠ 0)) r by simp [Nat.pos_iff_ne_zero]]
      exact hR H4 s4
    · intro i r x H3 R er ex _ s3 hR
      obtain ⟨t,rfl,ht⟩:=Paired.get p1 (mapget er) ex
      refine ⟨le1000 (by show 1 ≤ 1000; decide),fun u hu => ⟨_,rfl,u,t,_,_,rfl,rfl,SqT.of upd_same,SqT.of (xs:=rv r) (by rw [upd_ne (ne_of_none (s3 _ _ ht) hu)]; exact s3 _ _ ht),(fun z => by cases z),le1000 (by show 1 + 2 ≤ 1000; decide),(fun z => by cases z),fun _ v hv => ?_⟩⟩
      have hv3 : H3 v = none:=by
        cases e : H3 v with
        | none => rfl
        | some o => rw [upd_ne (ne_of_none e hu),e] at hv; cases hv
      refine hR v _ hv3 (fun b o z => ?_) upd_same
      rw [upd_ne (ne_of_none z hv3),upd_ne (ne_of_none z hu)]; exact z
    · intro ys H' s' h' p'
      refine q D ys H' (s1.free hD) (s1.trans s') h' ?_
      unfold choices
      rw [if_neg k3,if_neg k6,if_neg k9,if_pos hk]
      rw [List.map_map]; exact p'
  have k11:=fun z => hk (decide_eq_true z)
  refine ⟨_,rfl,rfl,_,rfl,?_⟩
  refine ite2 (fun hk => ?_) (fun hk => ?_)
  · have hk : k = 11:=by have:=of_decide_eq_true hk; simpa using this
    refine ⟨_,rfl,(1 : Int),(n : Int),rfl,⟨by decide,by decide,by omega,by omega⟩,fun D hD => ?_⟩
    have en : ((n : Int) - 1).toNat = n - 1:=by omega
    rw [en]
    refine comp_tl (w0:=none) (rest:=[some (.ref p)]) ((List.range (n - 1)).map (· + 1)) (fun k => decide (s.hw k ≠ [])) (fun k => actV (.home k)) wk_range hD (by simp) (by simp; omega) ?_ ?_ ?_
    · intro i k x H3 R er ex s3 hR
      have hi : i < n - 1:=by
        have:=(List.getElem?_eq_some_iff.mp er).1
        simpa using this
      rw [List.getElem?_map,List.getElem?_range hi] at er ex
      cases er
      cases ex
      have a3:=I.same at0 (s1.trans s3)
      obtain ⟨dx3,fs3,hp3,hm3⟩:=I.ins a3
      refine ⟨_,rfl,p,dx3,fs3,rfl,hp3,meths_has hm3 "weights_home",_,rfl,n,p,s,Ft,i + 1,?_,a3,by omega,fun v H4 s4 ⟨t,xs,e,ht,hw⟩ => ?_⟩
      · show [V.ref p,V.int (1 + (i : Int))] = [V.ref p,V.int ((i + 1 : Nat) : Int)]
        rw [show (1 : Int) + (i : Int) = ((i + 1 : Nat) : Int) by omega]
      subst e
      refine ⟨t,_,rfl,.inr ht,_,_,rfl,rfl,_,rfl,?_⟩
      rw [show decide ((0 : Int) < ((xs.length : Nat) : Int)) = decide (s.hw (i + 1) ≠ []) by rw [Paired.length hw]; simp [List.length_pos_iff]]
      exact hR H4 s4
    · intro i k x H3 R er ex _ s3 hR
      have hi : i < n - 1:=by
        have:=(List.getElem?_eq_some_iff.mp er).1
        simpa using this
      rw [List.getElem?_map,List.getElem?_range hi] at er ex
      cases er
      cases ex
      refine ⟨_,rfl,le1000 (by show 2 ≤ 1000; decide),fun t ht => ?_⟩
      refine hR t _ ht (fun b o z => by rw [upd_ne (ne_of_none z ht)]; exact z) ?_
      rw [upd_same]
      show some (HO.tup [V.str "home",V.int (1 + (i : Int))]) = some (HO.tup [V.str "home",V.int ((i + 1 : Nat) : Int)])
      rw [show (1 : Int) + (i : Int) = ((i + 1 : Nat) : Int) by omega]
    · intro ys H' s' h' p'
      refine q D ys H' (s1.free hD) (s1.trans s') h' ?_
      unfold choices
      rw [if_neg k3,if_neg k6,if_neg k9,if_neg k11,if_pos hk,List.map_map]
      exact p'
  have k12 : k ≠ 11:=fun z => hk (decide_eq_true (by rw [z]))
  have a1:=I.same at0 s1
  obtain ⟨dx1,fs1,hp1,hm1⟩:=I.ins a1
  refine ⟨_,rfl,p,dx1,fs1,rfl,hp1,meths_has hm1 "token",n,p,s,Ft,rfl,a1,fun v H2 s2 ⟨u,e,hu⟩ => ?_⟩
  subst e
  refine ⟨u,_,_,_,rfl,rfl,hu,rfl,le1000 (by show 1 ≤ 1000; decide),fun b hb => ?_⟩
  refine ⟨b,rfl,⟨_,SqL.of upd_same⟩,fun D hD => ?_⟩
  have sb : Same H2 (upd H2 b (.lst [V.int (s.place : Nat)])):=fun c o z => by rw [upd_ne (ne_of_none z hb)]; exact z
  refine comp_tl (w0:=none) (rest:=[some (.ref p)]) [s.place] (fun k => !s.busy k) (fun _ => actV .pass) (wk_list (SqL.of upd_same)) hD rfl (by show 1 ≤ 1000; decide) ?_ ?_ ?_
  · intro i k x H3 R er ex s3 hR
    have e0 : i = 0:=by have:=(List.getElem?_eq_some_iff.mp er).1; simpa using this
    subst e0
    cases er
    cases ex
    have a3:=I.same a1 (s2.trans (sb.trans s3))
    obtain ⟨dx3,fs3,hp3,hm3⟩:=I.ins a3
    refine ⟨_,rfl,_,rfl,p,dx3,fs3,rfl,hp3,meths_has hm3 "working",n,p,s,Ft,rfl,a3,fun v H4 s4 ⟨u,e,hu⟩ => ?_⟩
    subst e
    refine ⟨u,_,rfl,.inr hu,rfl,flat_ints _,_,rfl,?_⟩
    rw [if_pos rfl,inV_workers,show (!decide (s.place < n ∧ s.busy s.place = true)) = !s.busy s.place by simp [hpl]]
    exact hR H4 s4
  · intro i k x H3 R er ex _ s3 hR
    refine ⟨le1000 (by show 1 ≤ 1000; decide),fun t ht => ?_⟩
    exact hR t _ ht (fun b o z => by rw [upd_ne (ne_of_none z ht)]; exact z) upd_same
  · intro ys H' s' h' p'
    have hD' : H2 D = none:=sb.free hD
    refine q D ys H' (s1.free (s2.free hD')) (s1.trans (s2.trans (sb.trans s'))) h' ?_
    unfold choices
    rw [if_neg k3,if_neg k6,if_neg k9,if_neg k11,if_neg k12]
    cases hb : s.busy s.place with
    | true =>
      rw [if_pos rfl]
      have e : [s.place].filter (fun k => !s.busy k) = []:=by simp [hb]
      rw [e] at p'
      exact p'
    | false =>
      rw [if_neg (by simp)]
      have e : [s.place].filter (fun k => !s.busy k) = [s.place]:=by simp [hb]
      rw [e] at p'
      exact p'
end
end Qh
set_option Elab.async false
set_option linter.all false
set_option maxRecDepth 100000
namespace Qh
open PySem L2 Tx
section
variable {P : Program} {w : World} {K : PySem.W.Frag} {mg : Str → Option Value} {base : Heap} {C : Addr}
def spActL (I : HallI K C) : Sp:=fun vs H Q _ => ∃ (n : Nat) (p : Addr) (s : S) (F : Addr → Prop) (k : Int),vs = [.ref p,.int n,.int k] ∧ I.At n H p s F ∧ 1 ≤ n ∧ n ≤ 6 ∧ s.place < n ∧
  (∀ H',Same H H' → Q .non H') ∧ ∀ (t : Addr) (c : Act) (H' : Hp),Same H H' → H' t = some (.tup (actV c)) → Can n s c → Q (.ref t) H'
abbrev N_act : List Str:=["_law_hall","_law_many_here","_law_cell_here","_law_some"]
theorem sc_act : FnScope N_act ["_law_hall","_law_many_here","_law_cell_here"] (defScope s__law_act):=⟨rfl,rfl,rfl,by decide +kernel,rfl,by decide +kernel,by decide +kernel⟩
theorem tru_list {K : PySem.W.Frag} {H : Hp} {l : Addr} {ys : List V} (h : H l = some (.lst ys)) : TruV K (.ref l) H (!ys.isEmpty):=.inl ⟨ys,SqL.of h,rfl⟩
theorem ok_act {f : Addr} {fd : FuncData} {I : HallI K C} (F : Fun K "_law_act" "_law_act" s__law_act f fd) (T : Gs mg) (Fm : Fn P w K mg base "_law_mix" 1 ["_law_cell_here","_law_prime","_law_many_here"] spMix)
    (Fc : Fn P w K mg base "_law_choices" 11 ["_law_hall","_law_many_here","_law_kind"] (spChoices I)) : FnOk P w K mg base CX0 12 f fd ["_law_hall","_law_many_here","_law_cell_here"] (spActL I):=by
  refine F.ok sc_act (fun vs H Q E h => ?_) (fun cdv A outer s0 H vs Q E hr h => ?_)
  · obtain ⟨_,_,_,_,_,rfl,_⟩:=h; rfl
  obtain ⟨n,p,s,Ft,k,rfl,at0,hn1,hn6,hpl,q0,q1⟩:=h
  refine ⟨_,pss_cons (ps_set (i:=3) sc_act.nd rfl (Or.inl rfl) (pe_fn Fc hr (by decide) (pa_cons (pv 0) (pa_cons (pv 1) (pa_cons (pe_fn Fm hr (by decide) (pa_cons (pv 2) (pa_cons pe_int (pa_cons pe_int pa_nil)))) pa_nil)))))
    (pss_cons (ps_if (pt_not (pt_truth (pv 3) (fun _ => rfl))) (pss_one (ps_set (i:=3) sc_act.nd rfl (Or.inl rfl) (pe_fn Fc hr (by decide) (pa_cons (pv 0) (pa_cons (pv 1) (pa_cons (pe_fn Fm hr (by decide) (pa_cons (pv 2) (pa_cons pe_int (pa_cons pe_int pa_nil)))) pa_nil)))))) pss_nil)
    (pss_cons (ps_if (pt_not (pt_truth (pv 3) (fun _ => rfl))) (pss_one (ps_ret pe_non)) pss_nil)
    (pss_one (ps_ret (pe_ix ix_list (pv 3) (pe_fn Fm hr (by decide) (pa_cons (pv 2) (pa_cons pe_int (pa_cons (pe_callB call_len_seq (by rfl) T.len PySem.boot_len (pa_cons (pv 3) pa_nil)) pa_nil)))) (fun _ _ => rfl)))))),?_⟩
  refine ⟨_,rfl,_,rfl,_,rfl,k,_,_,rfl,by decide,by decide,n,p,s,Ft,_,rfl,at0,hn1,hn6,hpl,fun l ys H1 hl s1 h1 p1 => ?_⟩
  -- what follows once the list stands
  have fin : ∀ (l : Addr) (ys : List V) (kk : Int) (H1 : Hp),Same H H1 → H1 l = some (.lst ys) → TL H1 ((choices n s kk).map actV) ys →
      ∃ kb,TruV K (.ref l) H1 kb ∧ (if (!kb) = true then Q .non H1 else ∃ v,some (some (V.ref l)) = some (some v) ∧ ∃ v2,some (some (V.int k)) = some (some v2) ∧ ∃ v3,some (some (V.ref l)) = some (some v3) ∧ ∃ p' ys',[v3] = [V.ref p'] ∧ (SqL K H1 p' ys' ∨ SqT K H1 p' ys') ∧
        ∃ c pr m,[v2,V.int 9941,V.int ys'.length] = [V.int c,V.int pr,V.int m] ∧ 0 < pr ∧ 0 < m ∧ ∃ p'' xs i x,v = .ref p'' ∧ V.int (c * 48271 % pr % m) = .int i ∧ SqL K H1 p'' xs ∧ atI xs i = some x ∧ Q x H1):=fun l ys kk H1 s1 h1 p1 => by
    refine ⟨_,tru_list h1,?_⟩
    cases ys with
    | nil => exact iteT (q0 H1 s1)
    | cons y r =>
      refine iteF ?_
      have hm : (0 : Int) < (((y :: r).length : Nat) : Int):=by simp only [List.length_cons]; omega
      refine ⟨_,rfl,_,rfl,_,rfl,l,_,rfl,.inl (SqL.of h1),_,_,_,rfl,by decide,hm,l,_,_,((y :: r).getD (k * 48271 % 9941 % (((y :: r).length : Nat) : Int)).toNat .non),rfl,rfl,SqL.of h1,?_,?_⟩
      · have a:=Int.emod_nonneg (k * 48271 % 9941) (Int.ne_of_gt hm)
        have b:=Int.emod_lt_of_pos (k * 48271 % 9941) hm
        generalize k * 48271 % 9941 % (((y :: r).length : Nat) : Int) = z at a b ⊢
        obtain ⟨j,rfl⟩:=Int.eq_ofNat_of_zero_le a
        refine atI_nat ?_
        have hj : j < (y :: r).length:=by omega
        rw [Int.toNat_natCast,List.getD_eq_getElem?_getD,List.getElem?_eq_getElem hj]; rfl
      · have a:=Int.emod_nonneg (k * 48271 % 9941) (Int.ne_of_gt hm)
        have b:=Int.emod_lt_of_pos (k * 48271 % 9941) hm
        generalize k * 48271 % 9941 % (((y :: r).length : Nat) : Int) = z at a b ⊢
        obtain ⟨j,rfl⟩:=Int.eq_ofNat_of_zero_le a
        have hj : j < (y :: r).length:=by omega
        rw [Int.toNat_natCast,List.getD_eq_getElem?_getD,List.getElem?_eq_getElem hj]
        obtain ⟨xs,e1,t,e2,h⟩:=Paired.has p1 (List.getElem?_eq_getElem hj)
        rw [List.getElem?_map] at e1
        cases e3 : (choices n s kk)[j]? with
        | none => rw [e3] at e1; cases e1
        | some c =>
          rw [e3] at e1
          cases e1
          show Q ((some (y :: r)[j]).getD .non) H1
          rw [Option.getD_some,e2]
          exact q1 t c H1 s1 h (choices_can (List.mem_of_getElem? e3))
  refine ⟨_,rfl,_,tru_list h1,?_⟩
  cases ys with
  | nil =>
    refine iteT ?_
    refine ⟨_,rfl,_,rfl,_,rfl,k,_,_,rfl,by decide,by decide,n,p,s,Ft,_,rfl,I.same at0 s1,hn1,hn6,hpl,fun l2 ys2 H2 hl2 s2 h2 p2 => ?_⟩
    exact ⟨_,rfl,fin l2 ys2 _ H2 (s1.trans s2) h2 p2⟩
  | cons y r => exact iteF ⟨_,rfl,fin l (y :: r) _ H1 s1 h1 p1⟩
structure Acts (P : Program) (w : World) (K : PySem.W.Frag) (mg : Str → Option Value) (base : Heap) (C : Addr) (I : HallI K C) : Prop where
  cl : Cls K C
  send : Mt P w K mg base C "send" 10 ["self","one","other"] (spAct I aSend)
  take : Mt P w K mg base C "take" 10 ["self","one","other"] (spAct I aTake)
  rest : Mt P w K mg base C "rest" 10 ["self","hand"] (spAct I aRest)
  back : Mt P w K mg base C "back" 10 ["self","one","other"] (spAct I aBack)
  home : Mt P w K mg base C "home" 10 ["self","hand"] (spAct I aHome)
  pass : Mt P w K mg base C "pass_on" 10 ["self"] (spAct I aPass)
def spDo (I : HallI K C) : Sp:=fun vs H Q _ => ∃ (n : Nat) (p t : Addr) (s : S) (F : Addr → Prop) (c : Act) (m : Nat),vs = [.ref p,.ref t] ∧ SqT K H t (actV c) ∧ I.At n H p s F ∧ Can n s c ∧ Good n s m ∧ bump m c ≤ 60 ∧
  ∀ H' F',I.At n H' p (step n s c) F' → Kept H H' F F' → Q .non H'
theorem sc_do : FnScope ["_law_hall","_law_act_here"] ["_law_hall","_law_act_here"] (defScope s__law_do):=⟨rfl,rfl,rfl,by decide +kernel,rfl,by decide +kernel,by decide +kernel⟩
theorem at0 (x : V) (r : List V) : atI (x :: r) 0 = some x:=atI_nat (xs:=x :: r) (j:=0) rfl
theorem at1 (x y : V) (r : List V) : atI (x :: y :: r) 1 = some y:=atI_nat (xs:=x :: y :: r) (j:=1) rfl
theorem at2 (x y z : V) (r : List V) : atI (x :: y :: z :: r) 2 = some z:=atI_nat (xs:=x :: y :: z :: r) (j:=2) rfl
theorem ok_do {f : Addr} {fd : FuncData} {I : HallI K C} (F : Fun K "_law_do" "_law_do" s__law_do f fd) (Q : Acts P w K mg base C I) : FnOk P w K mg base CX0 11 f fd ["_law_hall","_law_act_here"] (spDo I):=by
  refine F.ok sc_do (fun vs H Q E h => ?_) (fun cdv A outer s0 H vs Qq E hr h => ?_)
  · obtain ⟨_,_,_,_,_,_,_,rfl,_⟩:=h; rfl
  obtain ⟨n,p,t,s,Ft,c,m,rfl,ht,hat,hcan,hgood,hm,q⟩:=h
  obtain ⟨dx,fs,hp,hms⟩:=I.ins hat
  refine ⟨_,pss_cons (ps_if (pt_cmpR op_eq (pe_ix ix_tup (pv 1) pe_int (fun _ _ => rfl)) pe_str (nomark _)) (pss_one (ps_ret (pe_mt Q.send Q.cl hr (by decide) (pv 0) (pa_cons (pe_ix ix_tup (pv 1) pe_int (fun _ _ => rfl)) (pa_cons (pe_ix ix_tup (pv 1) pe_int (fun _ _ => rfl)) pa_nil))))) pss_nil)
    (pss_cons (ps_if (pt_cmpR op_eq (pe_ix ix_tup (pv 1) pe_int (fun _ _ => rfl)) pe_str (nomark _)) (pss_one (ps_ret (pe_mt Q.take Q.cl hr (by decide) (pv 0) (pa_cons (pe_ix ix_tup (pv 1) pe_int (fun _ _ => rfl)) (pa_cons (pe_ix ix_tup (pv 1) pe_int (fun _ _ => rfl)) pa_nil))))) pss_nil)
    (pss_cons (ps_if (pt_cmpR op_eq (pe_ix ix_tup (pv 1) pe_int (fun _ _ => rfl)) pe_str (nomark _)) (pss_one (ps_ret (pe_mt Q.rest Q.cl hr (by decide) (pv 0) (pa_cons (pe_ix ix_tup (pv 1) pe_int (fun _ _ => rfl)) pa_nil)))) pss_nil)
    (pss_cons (ps_if (pt_cmpR op_eq (pe_ix ix_tup (pv 1) pe_int (fun _ _ => rfl)) pe_str (nomark _)) (pss_one (ps_ret (pe_mt Q.back Q.cl hr (by decide) (pv 0) (pa_cons (pe_ix ix_tup (pv 1) pe_int (fun _ _ => rfl)) (pa_cons (pe_ix ix_tup (pv 1) pe_int (fun _ _ => rfl)) pa_nil))))) pss_nil)
    (pss_cons (ps_if (pt_cmpR op_eq (pe_ix ix_tup (pv 1) pe_int (fun _ _ => rfl)) pe_str (nomark _)) (pss_one (ps_ret (pe_mt Q.home Q.cl hr (by decide) (pv 0) (pa_cons (pe_ix ix_tup (pv 1) pe_int (fun _ _ => rfl)) pa_nil)))) pss_nil)
    (pss_one (ps_ret (pe_mt0 Q.pass Q.cl hr (by decide) (pv 0)))))))),?_⟩
  have yes : ∀ {x : Str} {A B : Prop},A → (if decide (V.str x = V.str x) = true then A else B):=fun h => by rw [decide_eq_true rfl]; exact iteT h
  have no : ∀ {x y : Str} {A B : Prop},x ≠ y → B → (if decide (V.str x = V.str y) = true then A else B):=fun e h => by rw [decide_eq_false (fun z => e (V.str.inj z))]; exact iteF h
  cases c with
  | send a b =>
    refine ⟨_,rfl,t,_,_,_,rfl,rfl,ht,at0 _ _,rfl,_,rfl,yes ?_⟩
    exact ⟨_,rfl,p,dx,fs,rfl,hp,meths_has hms "send",_,rfl,t,_,_,_,rfl,rfl,ht,at1 _ _ _,_,rfl,t,_,_,_,rfl,rfl,ht,at2 _ _ _ _,n,p,s,Ft,.send a b,m,rfl,hat,hcan,hgood,hm,q⟩
  | take a b =>
    refine ⟨_,rfl,t,_,_,_,rfl,rfl,ht,at0 _ _,rfl,_,rfl,no (by decide +kernel) ?_⟩
    refine ⟨_,rfl,t,_,_,_,rfl,rfl,ht,at0 _ _,rfl,_,rfl,yes ?_⟩
    exact ⟨_,rfl,p,dx,fs,rfl,hp,meths_has hms "take",_,rfl,t,_,_,_,rfl,rfl,ht,at1 _ _ _,_,rfl,t,_,_,_,rfl,rfl,ht,at2 _ _ _ _,n,p,s,Ft,.take a b,m,rfl,hat,hcan,hgood,hm,q⟩
  | rest a =>
    refine ⟨_,rfl,t,_,_,_,rfl,rfl,ht,at0 _ _,rfl,_,rfl,no (by decide +kernel) ?_⟩
    refine ⟨_,rfl,t,_,_,_,rfl,rfl,ht,at0 _ _,rfl,_,rfl,no (by decide +kernel) ?_⟩
    refine ⟨_,rfl,t,_,_,_,rfl,rfl,ht,at0 _ _,rfl,_,rfl,yes ?_⟩
    exact ⟨_,rfl,p,dx,fs,rfl,hp,meths_has hms "rest",_,rfl,t,_,_,_,rfl,rfl,ht,at1 _ _ _,n,p,s,Ft,.rest a,m,rfl,hat,hcan,hgood,hm,q⟩
  | back a b =>
    refine ⟨_,rfl,t,_,_,_,rfl,rfl,ht,at0 _ _,rfl,_,rfl,no (by decide +kernel) ?_⟩
    refine ⟨_,rfl,t,_,_,_,rfl,rfl,ht,at0 _ _,rfl,_,rfl,no (by decide +kernel) ?_⟩
    refine ⟨_,rfl,t,_,_,_,rfl,rfl,ht,at0 _ _,rfl,_,rfl,no (by decide +kernel) ?_⟩
    refine ⟨_,rfl,t,_,_,_,rfl,rfl,ht,at0 _ _,rfl,_,rfl,yes ?_⟩
    exact ⟨_,rfl,p,dx,fs,rfl,hp,meths_has hms "back",_,rfl,t,_,_,_,rfl,rfl,ht,at1 _ _ _,_,rfl,t,_,_,_,rfl,rfl,ht,at2 _ _ _ _,n,p,s,Ft,.back a b,m,rfl,hat,hcan,hgood,hm,q⟩
  | home a =>
    refine ⟨_,rfl,t,_,_,_,rfl,rfl,ht,at0 _ _,rfl,_,rfl,no (by decide +kernel) ?_⟩
    refine ⟨_,rfl,t,_,_,_,rfl,rfl,ht,at0 _ _,rfl,_,rfl,no (by decide +kernel) ?_⟩
    refine ⟨_,rfl,t,_,_,_,rfl,rfl,ht,at0 _ _,rfl,_,rfl,no (by decide +kernel) ?_⟩
    refine ⟨_,rfl,t,_,_,_,rfl,rfl,ht,at0 _ _,rfl,_,rfl,no (by decide +kernel) ?_⟩
    refine ⟨_,rfl,t,_,_,_,rfl,rfl,ht,at0 _ _,rfl,_,rfl,yes ?_⟩
    exact ⟨_,rfl,p,dx,fs,rfl,hp,meths_has hms "home",_,rfl,t,_,_,_,rfl,rfl,ht,at1 _ _ _,n,p,s,Ft,.home a,m,rfl,hat,hcan,hgood,hm,q⟩
  | pass =>
    refine ⟨_,rfl,t,_,_,_,rfl,rfl,ht,at0 _ _,rfl,_,rfl,no (by decide +kernel) ?_⟩
    refine ⟨_,rfl,t,_,_,_,rfl,rfl,ht,at0 _ _,rfl,_,rfl,no (by decide +kernel) ?_⟩
    refine ⟨_,rfl,t,_,_,_,rfl,rfl,ht,at0 _ _,rfl,_,rfl,no (by decide +kernel) ?_⟩
    refine ⟨_,rfl,t,_,_,_,rfl,rfl,ht,at0 _ _,rfl,_,rfl,no (by decide +kernel) ?_⟩
    refine ⟨_,rfl,t,_,_,_,rfl,rfl,ht,at0 _ _,rfl,_,rfl,no (by decide +kernel) ?_⟩
    exact ⟨_,rfl,p,dx,fs,rfl,hp,meths_has hms "pass_on",n,p,s,Ft,.pass,m,rfl,hat,hcan,hgood,hm,q⟩
end
end Qh
set_option Elab.async false
set_option linter.all false
set_option maxRecDepth 100000
namespace Qh
open PySem L2 Tx
section
variable {P : Program} {w : World} {K : PySem.W.Frag} {mg : Str → Option Value} {base : Heap} {C : Addr}
def spLaw (K : PySem.W.Frag) : Sp:=fun vs H Q _ => ∃ (a : Addr) (ns : List Int),vs = [.ref a] ∧ SqL K H a (ns.map V.int) ∧ ns.length ≤ 63 ∧ ∀ H',Q (.bl true) H'
structure Live (I : HallI K C) (n : Nat) (H0 H : Hp) (p : Addr) (s : S) : Prop where
  ex : ∃ F,I.At n H p s F ∧ ∀ b,F b → H0 b = none
  same : Same H0 H
theorem Live.act {I : HallI K C} {n : Nat} {H0 H H' : Hp} {p : Addr} {s' : S} {F F' : Addr → Prop} (hF : ∀ b,F b → H0 b = none) (same : Same H0 H) (a' : I.At n H' p s' F') (k : Kept H H' F F') : Live I n H0 H' p s':=by
  refine ⟨⟨F',a',fun b hb => ?_⟩,fun b o e => k.keep b o (same b o e) fun z => by rw [hF b z] at e; cases e⟩
  rcases k.new b hb with z | z
  · exact hF b z
  · exact same.free z
theorem Live.lay {I : HallI K C} {n : Nat} {H0 H : Hp} {p : Addr} {s : S} (L : Live I n H0 H p s) {a : Addr} (ha : H a = none) (x : HO) : Live I n (upd H0 a x) (upd H a x) p s:=by
  obtain ⟨F,at_,f⟩:=L.ex
  have s1 : Same H (upd H a x):=fun b o z => by rw [upd_ne (ne_of_none z ha)]; exact z
  refine ⟨⟨F,I.same at_ s1,fun b hb => ?_⟩,fun b o e => ?_⟩
  · have nb : b ≠ a:=fun z => (I.foot at_ b hb).1 (by rw [z]; exact ha)
    rw [upd_ne nb]; exact f b hb
  · by_cases z : b = a
    · rw [z,upd_same] at e ⊢; exact e
    · rw [upd_ne z] at e ⊢; exact L.same b o e
theorem live_new {I : HallI K C} {n : Nat} {H H1 : Hp} {x dx : Addr} {F1 : Addr → Prop} (nx : H x = none) (ndx : H dx = none) (at1 : I.At n H1 x new F1) (k1 : ∀ b o,upd (upd H dx (.own x)) x (.ins C dx []) b = some o → b ≠ x → b ≠ dx → H1 b = some o)
    (f1 : ∀ b,F1 b → b = x ∨ b = dx ∨ upd (upd H dx (.own x)) x (.ins C dx []) b = none) : Live I n H H1 x new:=by
  refine ⟨⟨F1,at1,fun b hb => ?_⟩,fun b o e => ?_⟩
  · rcases f1 b hb with z | z | z
    · rw [z]; exact nx
    · rw [z]; exact ndx
    · by_cases y : b = x
      · rw [y]; exact nx
      · by_cases y' : b = dx
        · rw [y']; exact ndx
        · rw [upd_ne y,upd_ne y'] at z; exact z
  · have h1 : b ≠ x:=ne_of_none e nx
    have h2 : b ≠ dx:=ne_of_none e ndx
    refine k1 b o ?_ h1 h2
    rw [upd_ne h1,upd_ne h2]; exact e
theorem cut_ints (ns : List Int) (lo hi : Option Int) : ∃ cs : List Int,cutV (ns.map V.int) lo hi = cs.map V.int:=by
  unfold cutV
  rw [← List.map_drop,← List.map_take]
  exact ⟨_,rfl⟩
end
end Qh
set_option Elab.async false
set_option linter.all false
set_option maxRecDepth 100000
namespace L2
open PySem PySem.Spec PyProof.Rows
section
variable {P : Program} {w : World} {K : PySem.W.Frag} {mg : Str → Option Value} {base : Heap} {C : Addr} {x m q : Str} {st : Stmt} {k : Nat} {ps : List Str} {sp : Sp}
theorem Fn.mk' (h : ∃ f fd,mg x = some (.ref f) ∧ PySem.W.keepIn K (.ref f) = true ∧ Fun K x q st f fd) (ok : ∀ f fd,Fun K x q st f fd → FnOk P w K mg base CX0 k f fd ps sp)
    (b : ∀ (kV doc pm : Value) (an : Option Addr) (cdv ct : Value) (us : List Value),us.length = ps.length → bindArgs (PySem.W.fnOf x q (defArgs st) (defBody st) (defScope st) .none kV doc pm an cdv ct) ⟨us,[]⟩ = pure (ps.zip us)) : Fn P w K mg base x k ps sp :=
  let ⟨f,fd,h1,h2,h3⟩:=h; ⟨f,fd,h1,h2,ok f fd h3,h3.binds b⟩
theorem Mt.mk' (h : ∃ f fd,Meth K C m f ∧ Fun K m q st f fd) (ok : ∀ f fd,Fun K m q st f fd → FnOk P w K mg base CX0 k f fd ps sp)
    (b : ∀ (kV doc pm : Value) (an : Option Addr) (cdv ct : Value) (us : List Value),us.length = ps.length → bindArgs (PySem.W.fnOf m q (defArgs st) (defBody st) (defScope st) .none kV doc pm an cdv ct) ⟨us,[]⟩ = pure (ps.zip us)) : Mt P w K mg base C m k ps sp :=
  let ⟨f,fd,h1,h3⟩:=h; ⟨f,fd,h1,ok f fd h3,h3.binds b⟩
theorem Mkr.mk' (hm : mg x = some (.ref C)) (h : ∃ f fd,Mk K C f ∧ Fun K m q st f fd) (ok : ∀ f fd,Fun K m q st f fd → FnOk P w K mg base CX0 k f fd ps sp)
    (b : ∀ (kV doc pm : Value) (an : Option Addr) (cdv ct : Value) (us : List Value),us.length = ps.length → bindArgs (PySem.W.fnOf m q (defArgs st) (defBody st) (defScope st) .none kV doc pm an cdv ct) ⟨us,[]⟩ = pure (ps.zip us)) : Mkr P w K mg base x C k ps sp :=
  let ⟨f,fd,h1,h3⟩:=h; ⟨f,fd,hm,h1,ok f fd h3,h3.binds b⟩
theorem Mkr.mono {j : Nat} (M : Mkr P w K mg base x C j ps sp) (h : j ≤ k) : Mkr P w K mg base x C k ps sp:=let ⟨f,fd,a,b,c,d⟩:=M.ex; ⟨f,fd,a,b,c.mono h,d⟩
end
end L2
namespace Qh
open PySem L2 Tx
theorem mk_tup2 {K : PySem.W.Frag} {h : Heap} {mg : Str → Option Value} (X : K.In h) (G : h.Ns mainGlobals mg) {x : Str} {i j : Int} {od : Option Addr} {ti tj : Tok} {n : Nat} {sl : Array (Option Value)} {a0 : Addr} (a : PySem.W.nsIn K mainGlobals x = some (some (.ref a0)))
    (l : K.lookup a0 = some ⟨.type "tuple",od,.seq #[.int i ti,.int j tj] n,sl⟩) : ModT K mg x [.int i,.int j] :=
  ⟨⟨a0,PySem.W.mg_of X G a,_,_,n,l,rfl,rfl,le1000 (by show 2 ≤ 1000; decide),.cons ⟨ti,rfl⟩ (.cons ⟨tj,rfl⟩ .nil)⟩⟩
theorem mk_str {K : PySem.W.Frag} {h : Heap} {mg : Str → Option Value} (X : K.In h) (G : h.Ns mainGlobals mg) {x y : Str} {t : Tok} (a : PySem.W.nsIn K mainGlobals x = some (some (.str y t))) : ∃ u,mg x = some u ∧ RelV (.str y) u:=⟨_,PySem.W.mg_of X G a,t,rfl⟩
structure HallTx (K : PySem.W.Frag) (mg : Str → Option Value) (C : Cs) : Prop where
  t : Txt_Tree K mg C.t
  w : Txt_Weights K mg C.w
  r : Txt_Ring K mg C.r
  h : Txt_Hall K mg C.h
  half : ∃ f fd,mg "half_of" = some (.ref f) ∧ PySem.W.keepIn K (.ref f) = true ∧ Fun K "half_of" "half_of" s_half_of f fd
  sum : ∃ f fd,mg "sum_of" = some (.ref f) ∧ PySem.W.keepIn K (.ref f) = true ∧ Fun K "sum_of" "sum_of" s_sum_of f fd
  upper : ∃ f fd,mg "upper_at" = some (.ref f) ∧ PySem.W.keepIn K (.ref f) = true ∧ Fun K "upper_at" "upper_at" s_upper_at f fd
  form : ∃ f fd,mg "in_one_form" = some (.ref f) ∧ PySem.W.keepIn K (.ref f) = true ∧ Fun K "in_one_form" "in_one_form" s_in_one_form f fd
  twos : ∃ f fd,mg "twos_in" = some (.ref f) ∧ PySem.W.keepIn K (.ref f) = true ∧ Fun K "twos_in" "twos_in" s_twos_in f fd
  nothing : ModT K mg "NOTHING" [.int 0,.int 0]
  whole : ModT K mg "WHOLE" [.int 1,.int 0]
  white : ∃ u,mg "WHITE" = some u ∧ RelV (.str "white") u
  black : ∃ u,mg "BLACK" = some u ∧ RelV (.str "black") u
  tuple : mg "tuple" = none
  sorted : mg "sorted" = none
  len : mg "len" = none
  max : mg "max" = none
  min : mg "min" = none
  range : mg "range" = none
section
variable {P : Program} {w : World} {K : PySem.W.Frag} {mg : Str → Option Value} {base : Heap} {C : Cs}
theorem HallTx.tc (X : HallTx K mg C) : TreeC K C.t:=⟨X.t.cl,X.t.n_opens,X.t.n_parents,X.t.n_letters⟩
theorem HallTx.wc (X : HallTx K mg C) : WtsC K mg C.w:=⟨X.w.cl,X.w.n_kept,X.w.n_on_works,X.w.n_on_way_home,X.nothing,X.whole,X.tuple⟩
theorem HallTx.rc (X : HallTx K mg C) : RingC K mg C.r:=⟨X.r.cl,X.r.n_last,X.r.n_counts,X.r.n_colours,X.r.n_place,X.r.n_gathered,X.r.n_shade,X.r.n_has_gone,X.r.n_telling,X.white,X.black⟩
theorem HallTx.hc (X : HallTx K mg C) : HallC K mg C:=⟨X.h.cl,X.t.cl,X.w.cl,X.r.cl,X.h.n_many,X.h.n_busy,X.h.n_on_way,X.h.n_tree,X.h.n_weights,X.h.n_ring,X.tuple,X.sorted,X.len⟩
theorem HallTx.gs (X : HallTx K mg C) : Gs mg:=⟨X.len,X.range⟩
theorem HallTx.fTwos (X : HallTx K mg C) : Fn P w K mg base "twos_in" 1 ["upper"] spTwos:=Fn.mk' X.twos (fun _ _ F => ok_twos F) (fun _ _ _ _ _ _ us hl => match us,hl with | [_],_ => rfl)
theorem HallTx.fForm (X : HallTx K mg C) : Fn P w K mg base "in_one_form" 2 ["upper","power"] (spForm K):=Fn.mk' X.form (fun _ _ F => ok_form F X.min X.nothing X.fTwos) (fun _ _ _ _ _ _ us hl => match us,hl with | [_,_],_ => rfl)
theorem HallTx.fHalf (X : HallTx K mg C) : Fn P w K mg base "half_of" 3 ["weight"] (spHalf K):=Fn.mk' X.half (fun _ _ F => ok_half F X.fForm) (fun _ _ _ _ _ _ us hl => match us,hl with | [_],_ => rfl)
theorem HallTx.fUpper (X : HallTx K mg C) : Fn P w K mg base "upper_at" 1 ["weight","power"] (spUpper K):=Fn.mk' X.upper (fun _ _ F => ok_upper F) (fun _ _ _ _ _ _ us hl => match us,hl with | [_,_],_ => rfl)
theorem HallTx.fSum (X : HallTx K mg C) : Fn P w K mg base "sum_of" 3 ["one","other"] (spSum K):=Fn.mk' X.sum (fun _ _ F => ok_sum F X.max X.fForm X.fUpper) (fun _ _ _ _ _ _ us hl => match us,hl with | [_,_],_ => rfl)
theorem HallTx.tOpen (X : HallTx K mg C) : Mt P w K mg base C.t "open_of" 1 ["self","hand"] (tqOpen K C.t):=Mt.mk' X.t.m_open_of (fun _ _ F => ok_t_open F X.tc) (fun _ _ _ _ _ _ us hl => match us,hl with | [_,_],_ => rfl)
theorem HallTx.tSlips (X : HallTx K mg C) : Mt P w K mg base C.t "receipts" 1 ["self","one","other"] (tqSlips K C.t):=Mt.mk' X.t.m_receipts (fun _ _ F => ok_t_slips F X.tc) (fun _ _ _ _ _ _ us hl => match us,hl with | [_,_,_],_ => rfl)
theorem HallTx.tSend (X : HallTx K mg C) : Mt P w K mg base C.t "send" 2 ["self","one"] (taSend K C.t):=Mt.mk' X.t.m_send (fun _ _ F => ok_t_send F X.tc X.tOpen) (fun _ _ _ _ _ _ us hl => match us,hl with | [_,_],_ => rfl)
theorem HallTx.tSlip (X : HallTx K mg C) : Mt P w K mg base C.t "send_receipt" 2 ["self","one","other"] (taSlip K C.t):=Mt.mk' X.t.m_send_receipt (fun _ _ F => ok_t_slip F X.tc X.tSlips) (fun _ _ _ _ _ _ us hl => match us,hl with | [_,_,_],_ => rfl)
theorem HallTx.tHolds (X : HallTx K mg C) : Mt P w K mg base C.t "holds" 1 ["self","hand"] (tqHolds K C.t):=Mt.mk' X.t.m_holds (fun _ _ F => ok_t_holds F X.tc) (fun _ _ _ _ _ _ us hl => match us,hl with | [_,_],_ => rfl)
theorem HallTx.tTake (X : HallTx K mg C) : Mt P w K mg base C.t "take" 3 ["self","one","other"] (taTake K C.t):=Mt.mk' X.t.m_take (fun _ _ F => ok_t_take F X.tc X.tHolds X.tSlip) (fun _ _ _ _ _ _ us hl => match us,hl with | [_,_,_],_ => rfl)
theorem HallTx.tBack (X : HallTx K mg C) : Mt P w K mg base C.t "back" 2 ["self","one","other"] (taBack K C.t):=Mt.mk' X.t.m_back (fun _ _ F => ok_t_back F X.tc X.tOpen X.tSlips) (fun _ _ _ _ _ _ us hl => match us,hl with | [_,_,_],_ => rfl)
theorem HallTx.tLeave (X : HallTx K mg C) : Mt P w K mg base C.t "leave_if_done" 3 ["self","hand"] (taLeave K C.t):=Mt.mk' X.t.m_leave_if_done (fun _ _ F => ok_t_leave F X.tc X.tOpen X.tSlip) (fun _ _ _ _ _ _ us hl => match us,hl with | [_,_],_ => rfl)
theorem HallTx.tMk (X : HallTx K mg C) : Mkr P w K mg base "Tree" C.t 1 ["self"] (tInit K C.t):=Mkr.mk' X.t.mgC X.t.init (fun _ _ F => ok_t_init F X.tc) (fun _ _ _ _ _ _ us hl => match us,hl with | [_],_ => rfl)
theorem HallTx.wOf (X : HallTx K mg C) : Mt P w K mg base C.w "weight_of" 1 ["self","hand"] (wqOf K C.w):=Mt.mk' X.w.m_weight_of (fun _ _ F => ok_w_of F X.wc) (fun _ _ _ _ _ _ us hl => match us,hl with | [_,_],_ => rfl)
theorem HallTx.wHome (X : HallTx K mg C) : Mt P w K mg base C.w "weights_home" 1 ["self","hand"] (wqHome K C.w):=Mt.mk' X.w.m_weights_home (fun _ _ F => ok_w_home F X.wc) (fun _ _ _ _ _ _ us hl => match us,hl with | [_,_],_ => rfl)
theorem HallTx.wAdd (X : HallTx K mg C) : Mt P w K mg base C.w "add_to" 4 ["self","hand","weight"] (waAdd K C.w):=Mt.mk' X.w.m_add_to (fun _ _ F => ok_w_add F X.wc X.wOf X.fSum) (fun _ _ _ _ _ _ us hl => match us,hl with | [_,_,_],_ => rfl)
theorem HallTx.wSend (X : HallTx K mg C) : Mt P w K mg base C.w "send" 4 ["self","one","other"] (waSend K C.w):=Mt.mk' X.w.m_send (fun _ _ F => ok_w_send F X.wc X.wOf X.fHalf) (fun _ _ _ _ _ _ us hl => match us,hl with | [_,_,_],_ => rfl)
theorem HallTx.wTake (X : HallTx K mg C) : Mt P w K mg base C.w "take" 5 ["self","one","other"] (waTake K C.w):=Mt.mk' X.w.m_take (fun _ _ F => ok_w_take F X.wc X.wAdd) (fun _ _ _ _ _ _ us hl => match us,hl with | [_,_,_],_ => rfl)
theorem HallTx.wRest (X : HallTx K mg C) : Mt P w K mg base C.w "rest" 2 ["self","hand"] (waRest K C.w):=Mt.mk' X.w.m_rest (fun _ _ F => ok_w_rest F X.wc X.wOf) (fun _ _ _ _ _ _ us hl => match us,hl with | [_,_],_ => rfl)
theorem HallTx.wGo (X : HallTx K mg C) : Mt P w K mg base C.w "home" 5 ["self","hand"] (waHome K C.w):=Mt.mk' X.w.m_home (fun _ _ F => ok_w_hm F X.wc X.wAdd) (fun _ _ _ _ _ _ us hl => match us,hl with | [_,_],_ => rfl)
theorem HallTx.wMk (X : HallTx K mg C) : Mkr P w K mg base "Weights" C.w 1 ["self"] (wInit K C.w):=Mkr.mk' X.w.mgC X.w.init (fun _ _ F => ok_w_init F X.wc) (fun _ _ _ _ _ _ us hl => match us,hl with | [_],_ => rfl)
theorem HallTx.rToken (X : HallTx K mg C) : Mt P w K mg base C.r "token" 1 ["self"] (rqToken K C.r):=Mt.mk' X.r.m_token (fun _ _ F => ok_r_token F X.rc) (fun _ _ _ _ _ _ us hl => match us,hl with | [_],_ => rfl)
theorem HallTx.rCount (X : HallTx K mg C) : Mt P w K mg base C.r "count_of" 1 ["self","hand"] (rqCount K C.r):=Mt.mk' X.r.m_count_of (fun _ _ F => ok_r_count F X.rc) (fun _ _ _ _ _ _ us hl => match us,hl with | [_,_],_ => rfl)
theorem HallTx.rColour (X : HallTx K mg C) : Mt P w K mg base C.r "colour_of" 1 ["self","hand"] (rqColour K C.r):=Mt.mk' X.r.m_colour_of (fun _ _ F => ok_r_colour F X.rc) (fun _ _ _ _ _ _ us hl => match us,hl with | [_,_],_ => rfl)
theorem HallTx.rSend (X : HallTx K mg C) : Mt P w K mg base C.r "send" 2 ["self","one"] (raSend K C.r):=Mt.mk' X.r.m_send (fun _ _ F => ok_r_send F X.rc X.rCount) (fun _ _ _ _ _ _ us hl => match us,hl with | [_,_],_ => rfl)
theorem HallTx.rTake (X : HallTx K mg C) : Mt P w K mg base C.r "take" 2 ["self","other"] (raTake K C.r):=Mt.mk' X.r.m_take (fun _ _ F => ok_r_take F X.rc X.rCount) (fun _ _ _ _ _ _ us hl => match us,hl with | [_,_],_ => rfl)
theorem HallTx.rEnd (X : HallTx K mg C) : Mt P w K mg base C.r "end_round" 2 ["self"] (raEnd K C.r):=Mt.mk' X.r.m_end_round (fun _ _ F => ok_r_end F X.rc X.rCount X.rColour) (fun _ _ _ _ _ _ us hl => match us,hl with | [_],_ => rfl)
theorem HallTx.rBegin (X : HallTx K mg C) : Mt P w K mg base C.r "begin_round" 1 ["self"] (raBegin K C.r):=Mt.mk' X.r.m_begin_round (fun _ _ F => ok_r_begin F X.rc) (fun _ _ _ _ _ _ us hl => match us,hl with | [_],_ => rfl)
theorem HallTx.rStep (X : HallTx K mg C) : Mt P w K mg base C.r "step_down" 2 ["self"] (raStep K C.r):=Mt.mk' X.r.m_step_down (fun _ _ F => ok_r_step F X.rc X.rCount X.rColour) (fun _ _ _ _ _ _ us hl => match us,hl with | [_],_ => rfl)
theorem HallTx.rPass (X : HallTx K mg C) : Mt P w K mg base C.r "pass_on" 3 ["self"] (raPass K C.r):=Mt.mk' X.r.m_pass_on (fun _ _ F => ok_r_pass F X.rc X.rEnd X.rBegin X.rStep) (fun _ _ _ _ _ _ us hl => match us,hl with | [_],_ => rfl)
theorem HallTx.rMk (X : HallTx K mg C) : Mkr P w K mg base "Ring" C.r 1 ["self","last"] (rInit K C.r):=Mkr.mk' X.r.mgC X.r.init (fun _ _ F => ok_r_init F X.rc) (fun _ _ _ _ _ _ us hl => match us,hl with | [_,_],_ => rfl)
theorem HallTx.hHand (X : HallTx K mg C) : Mt P w K mg base C.h "need_hand" 1 ["self","hand"] (hqHand C):=Mt.mk' X.h.m_need_hand (fun _ _ F => ok_h_hand F X.hc) (fun _ _ _ _ _ _ us hl => match us,hl with | [_,_],_ => rfl)
theorem HallTx.hTwo (X : HallTx K mg C) : Mt P w K mg base C.h "need_two" 2 ["self","one","other"] (hqTwo C):=Mt.mk' X.h.m_need_two (fun _ _ F => ok_h_two F X.hc X.hHand) (fun _ _ _ _ _ _ us hl => match us,hl with | [_,_,_],_ => rfl)
theorem HallTx.hBusy (X : HallTx K mg C) : Mt P w K mg base C.h "need_working" 1 ["self","hand"] (hqBusy C):=Mt.mk' X.h.m_need_working (fun _ _ F => ok_h_busy F X.hc) (fun _ _ _ _ _ _ us hl => match us,hl with | [_,_],_ => rfl)
theorem HallTx.hWorks (X : HallTx K mg C) : Mt P w K mg base C.h "works" 3 ["self","one","other"] (spQ2 (hallI K C) qWorks):=Mt.mk' X.h.m_works (fun _ _ F => ok_h_works F X.hc X.hTwo) (fun _ _ _ _ _ _ us hl => match us,hl with | [_,_,_],_ => rfl)
theorem HallTx.hOpen (X : HallTx K mg C) : Mt P w K mg base C.h "open_of" 10 ["self","hand"] (spQ1 (hallI K C) qOpen):=(Mt.mk' X.h.m_open_of (fun _ _ F => ok_h_open F X.hc X.hHand X.tOpen) (fun _ _ _ _ _ _ us hl => match us,hl with | [_,_],_ => rfl)).mono (by decide)
theorem HallTx.hWeight (X : HallTx K mg C) : Mt P w K mg base C.h "weight_of" 10 ["self","hand"] (spQ1 (hallI K C) (qWeight (K:=K))):=(Mt.mk' X.h.m_weight_of (fun _ _ F => ok_h_weight F X.hc X.hHand X.wOf) (fun _ _ _ _ _ _ us hl => match us,hl with | [_,_],_ => rfl)).mono (by decide)
theorem HallTx.hCount (X : HallTx K mg C) : Mt P w K mg base C.h "count_of" 10 ["self","hand"] (spQ1 (hallI K C) qCount):=(Mt.mk' X.h.m_count_of (fun _ _ F => ok_h_count F X.hc X.hHand X.rCount) (fun _ _ _ _ _ _ us hl => match us,hl with | [_,_],_ => rfl)).mono (by decide)
theorem HallTx.hColour (X : HallTx K mg C) : Mt P w K mg base C.h "colour_of" 10 ["self","hand"] (spQ1 (hallI K C) qColour):=(Mt.mk' X.h.m_colour_of (fun _ _ F => ok_h_colour F X.hc X.hHand X.rColour) (fun _ _ _ _ _ _ us hl => match us,hl with | [_,_],_ => rfl)).mono (by decide)
theorem HallTx.asks (X : HallTx K mg C) : Asks P w K mg base C.h (hallI K C) where
  cl:=X.h.cl
  working:=(Mt.mk' X.h.m_working (fun _ _ F => ok_h_working F X.hc) (fun _ _ _ _ _ _ us hl => match us,hl with | [_],_ => rfl)).mono (by decide)
  works:=X.hWorks.mono (by decide)
  receipts:=(Mt.mk' X.h.m_receipts (fun _ _ F => ok_h_slips F X.hc X.hTwo X.tSlips) (fun _ _ _ _ _ _ us hl => match us,hl with | [_,_,_],_ => rfl)).mono (by decide)
  home:=(Mt.mk' X.h.m_weights_home (fun _ _ F => ok_h_home F X.hc X.hHand X.wHome) (fun _ _ _ _ _ _ us hl => match us,hl with | [_,_],_ => rfl)).mono (by decide)
  token:=(Mt.mk' X.h.m_token (fun _ _ F => ok_h_token F X.hc X.rToken) (fun _ _ _ _ _ _ us hl => match us,hl with | [_],_ => rfl)).mono (by decide)
theorem HallTx.acts (X : HallTx K mg C) : Acts P w K mg base C.h (hallI K C) where
  cl:=X.h.cl
  send:=(Mt.mk' X.h.m_send (fun _ _ F => ok_h_send F X.hc X.hTwo X.hBusy X.hWorks X.tSend X.wSend X.rSend) (fun _ _ _ _ _ _ us hl => match us,hl with | [_,_,_],_ => rfl)).mono (by decide)
  take:=(Mt.mk' X.h.m_take (fun _ _ F => ok_h_take F X.hc X.hTwo X.hWorks X.tTake X.wTake X.rTake) (fun _ _ _ _ _ _ us hl => match us,hl with | [_,_,_],_ => rfl)).mono (by decide)
  rest:=(Mt.mk' X.h.m_rest (fun _ _ F => ok_h_rest F X.hc X.hHand X.hBusy X.tLeave X.wRest) (fun _ _ _ _ _ _ us hl => match us,hl with | [_,_],_ => rfl)).mono (by decide)
  back:=(Mt.mk' X.h.m_back (fun _ _ F => ok_h_back F X.hc X.hTwo X.tSlips X.tBack X.tLeave) (fun _ _ _ _ _ _ us hl => match us,hl with | [_,_,_],_ => rfl)).mono (by decide)
  home:=(Mt.mk' X.h.m_home (fun _ _ F => ok_h_goHome F X.hc X.hHand X.wHome X.wGo) (fun _ _ _ _ _ _ us hl => match us,hl with | [_,_],_ => rfl)).mono (by decide)
  pass:=(Mt.mk' X.h.m_pass_on (fun _ _ F => ok_h_pass F X.hc X.rc X.rPass) (fun _ _ _ _ _ _ us hl => match us,hl with | [_],_ => rfl)).mono (by decide)
theorem HallTx.mkr (X : HallTx K mg C) : Mkr P w K mg base "Hall" C.h 10 ["self","many"] (spInit (hallI K C)):=(Mkr.mk' X.h.mgC X.h.init (fun _ _ F => ok_h_init F X.hc X.tMk X.wMk X.rMk) (fun _ _ _ _ _ _ us hl => match us,hl with | [_,_],_ => rfl)).mono (by decide)
structure LawTx (K : PySem.W.Frag) (mg : Str → Option Value) : Prop where
  cell : ∃ f fd,mg "_law_cell" = some (.ref f) ∧ PySem.W.keepIn K (.ref f) = true ∧ Fun K "_law_cell" "_law_cell" s__law_cell f fd
  mix : ∃ f fd,mg "_law_mix" = some (.ref f) ∧ PySem.W.keepIn K (.ref f) = true ∧ Fun K "_law_mix" "_law_mix" s__law_mix f fd
  many : ∃ f fd,mg "_law_many" = some (.ref f) ∧ PySem.W.keepIn K (.ref f) = true ∧ Fun K "_law_many" "_law_many" s__law_many f fd
  roads : ∃ f fd,mg "_law_roads" = some (.ref f) ∧ PySem.W.keepIn K (.ref f) = true ∧ Fun K "_law_roads" "_law_roads" s__law_roads f fd
  choices : ∃ f fd,mg "_law_choices" = some (.ref f) ∧ PySem.W.keepIn K (.ref f) = true ∧ Fun K "_law_choices" "_law_choices" s__law_choices f fd
  act : ∃ f fd,mg "_law_act" = some (.ref f) ∧ PySem.W.keepIn K (.ref f) = true ∧ Fun K "_law_act" "_law_act" s__law_act f fd
  do_ : ∃ f fd,mg "_law_do" = some (.ref f) ∧ PySem.W.keepIn K (.ref f) = true ∧ Fun K "_law_do" "_law_do" s__law_do f fd
theorem LawTx.fCell (L : LawTx K mg) (G : Gs mg) : Fn P w K mg base "_law_cell" 1 ["_law_script","_law_k"] (spCell K):=Fn.mk' L.cell (fun _ _ F => ok_cell F G) (fun _ _ _ _ _ _ us hl => match us,hl with | [_,_],_ => rfl)
theorem LawTx.fMix (L : LawTx K mg) : Fn P w K mg base "_law_mix" 1 ["_law_cell_here","_law_prime","_law_many_here"] spMix:=Fn.mk' L.mix (fun _ _ F => ok_mix F) (fun _ _ _ _ _ _ us hl => match us,hl with | [_,_,_],_ => rfl)
theorem LawTx.fMany (L : LawTx K mg) (G : Gs mg) : Fn P w K mg base "_law_many" 2 ["_law_script"] (spMany K):=Fn.mk' L.many (fun _ _ F => ok_many F (L.fCell G) L.fMix) (fun _ _ _ _ _ _ us hl => match us,hl with | [_],_ => rfl)
theorem LawTx.fRoads (L : LawTx K mg) (G : Gs mg) : Fn P w K mg base "_law_roads" 1 ["_law_many_here"] spRoads:=Fn.mk' L.roads (fun _ _ F => ok_roads F G) (fun _ _ _ _ _ _ us hl => match us,hl with | [_],_ => rfl)
theorem LawTx.fChoices (L : LawTx K mg) (X : HallTx K mg C) : Fn P w K mg base "_law_choices" 11 ["_law_hall","_law_many_here","_law_kind"] (spChoices (hallI K C)):=Fn.mk' L.choices (fun _ _ F => ok_choices F X.gs X.asks (L.fRoads X.gs)) (fun _ _ _ _ _ _ us hl => match us,hl with | [_,_,_],_ => rfl)
theorem LawTx.fAct (L : LawTx K mg) (X : HallTx K mg C) : Fn P w K mg base "_law_act" 12 ["_law_hall","_law_many_here","_law_cell_here"] (spActL (hallI K C)):=Fn.mk' L.act (fun _ _ F => ok_act F X.gs L.fMix (L.fChoices X)) (fun _ _ _ _ _ _ us hl => match us,hl with | [_,_,_],_ => rfl)
theorem LawTx.fDo (L : LawTx K mg) (X : HallTx K mg C) : Fn P w K mg base "_law_do" 11 ["_law_hall","_law_act_here"] (spDo (hallI K C)):=Fn.mk' L.do_ (fun _ _ F => ok_do F X.acts) (fun _ _ _ _ _ _ us hl => match us,hl with | [_,_],_ => rfl)
end
end Qh
set_option Elab.async false
set_option linter.all false
set_option maxRecDepth 100000
namespace Qh
open PySem L2 Tx
section
variable {P : Program} {w : World} {K : PySem.W.Frag} {mg : Str → Option Value} {base : Heap} {C : Cs}
theorem whole_eqv {x u p : Nat} (h : WR x u p) : PyData.eqv (.tuple ([(u : Int),(p : Int)].map PyData.int)) (.tuple ([1,0].map PyData.int)) = decide (x = 2 ^ 90):=by
  show PyData.eqvAll _ _ = _
  rw [eqv_ints]
  have w1 : WR (2 ^ 90) 1 0:=⟨.inr ⟨by decide,by decide,by decide⟩⟩
  by_cases z : x = 2 ^ 90
  · subst z
    obtain ⟨e1,e2⟩:=h.unique w1
    subst e1 e2
    simp
  · rw [decide_eq_false z,decide_eq_false]
    intro e
    injection e with e1 e2
    injection e2 with e2 _
    have e1 : u = 1:=by omega
    have e2 : p = 0:=by omega
    subst e1 e2
    rcases h.is with ⟨_,q,_⟩ | ⟨_,_,q⟩
    · omega
    · exact z q
theorem sc_told : FnScope ["self","resting","by_tree","by_weights"] ["self"] (defScope s_Hall_told):=⟨rfl,rfl,rfl,by decide +kernel,rfl,by decide +kernel,by decide +kernel⟩
theorem ok_h_told {f : Addr} {fd : FuncData} (F : Fun K "told" "Hall.told" s_Hall_told f fd) (T : HallC K mg C) (TW : WtsC K mg C.w) (TR : RingC K mg C.r) (Mo : Mt P w K mg base C.t "open_of" 1 ["self","hand"] (tqOpen K C.t)) (Mw : Mt P w K mg base C.w "weight_of" 1 ["self","hand"] (wqOf K C.w)) :
    FnOk P w K mg base CX0 2 f fd ["self"] (spQ0 (hallI K C) (qTold (K:=K))):=by
  refine F.ok sc_told (fun vs H Q E h => ?_) (fun cdv A outer s H vs Q E hr h => ?_)
  · obtain ⟨_,_,_,_,rfl,_⟩:=h; rfl
  obtain ⟨n,p,s,F,rfl,⟨dx,bd,wy,t,w,r,kvb,kvy,GT,GW,GR,D,rfl⟩,q⟩:=h
  obtain ⟨z,hz,tz⟩:=TW.whole.ex
  refine ⟨_,pss_cons (ps_set (i:=1) sc_told.nd rfl (Or.inl rfl) (pe_cmp (pc_dnotin (hu_of hr) pe_int (pe_fld (pv 0) rfl)) rfl))
    (pss_cons (ps_set (i:=2) sc_told.nd rfl (Or.inl rfl) (pe_and (pv 1) (pe_one (pe_cmpR op_eq (pe_mt Mo T.ct hr (by decide) (pe_fld (pv 0) rfl) (pa_cons pe_int pa_nil)) pe_int (nomark _)))))
    (pss_cons (ps_set (i:=3) sc_told.nd rfl (Or.inl rfl) (pe_and (pv 1) (pe_one (pe_cmpR (op_eqD K rfl hr) (pe_mt Mw T.cw hr (by decide) (pe_fld (pv 0) rfl) (pa_cons pe_int pa_nil)) (pe_glob (v:=.ref z) (by rfl) hz rfl) (nomark _)))))
    (pss_one (ps_ret (pe_tup (pa_cons (pv 2) (pa_cons (pv 3) (pa_cons (pe_fld (pe_fld (pv 0) rfl) rfl) pa_nil)))))))),?_⟩
  refine ⟨_,rfl,p,C.h,dx,_,_,rfl,D.hp,T.cl,T.busy,rfl,bd,_,rfl,DGet.k (k:=kI 0) D.hb,?_⟩
  have eb : (!(valV kvb (kI 0)).isSome) = !s.busy 0:=by rw [D.tb.val]; cases s.busy 0 <;> rfl
  rw [eb]
  dsimp only [gName]
  refine seq_mid (fun σ H1 => σ = [some (.ref p),some (.bl (!s.busy 0)),some (.bl (treeTells s)),none] ∧ H1 = H) (fun U hU => ?_) ?_
  · refine ⟨_,rfl,_,rfl,?_⟩
    cases b0 : s.busy 0 with
    | true => exact iteF (hU _ _ ⟨by unfold treeTells; rw [b0]; rfl,rfl⟩)
    | false =>
      obtain ⟨tdx,tfs,htp,htl⟩:=D.T.ins
      refine iteT ⟨_,rfl,p,C.h,dx,_,_,rfl,D.hp,T.cl,T.tree,rfl,t,tdx,tfs,rfl,htp,htl "open_of" (by decide +kernel) (by decide +kernel) (by decide +kernel),n,t,s,_,0,rfl,D.T,rfl,?_⟩
      refine hU _ _ ⟨?_,rfl⟩
      have e : decide (V.int ((s.due 0 : Nat) : Int) = V.int 0) = treeTells s:=by
        unfold treeTells
        rw [b0,Bool.not_false,Bool.true_and]
        congr 1
        rw [V.int.injEq]
        simp
      rw [← e,b0]; rfl
  rintro σ H1 ⟨rfl,rfl⟩
  refine seq_mid (fun σ H2 => σ = [some (.ref p),some (.bl (!s.busy 0)),some (.bl (treeTells s)),some (.bl (weightsTell s))] ∧ H2 = H1) (fun U hU => ?_) ?_
  · refine ⟨_,rfl,_,rfl,?_⟩
    cases b0 : s.busy 0 with
    | true => exact iteF (hU _ _ ⟨by unfold weightsTell; rw [b0]; rfl,rfl⟩)
    | false =>
      obtain ⟨wdx,wfs,hwp,hwl⟩:=D.W.ins
      refine iteT ⟨_,rfl,p,C.h,dx,_,_,rfl,D.hp,T.cl,T.weights,rfl,w,wdx,wfs,rfl,hwp,hwl "weight_of" (by decide +kernel) (by decide +kernel) (by decide +kernel),n,w,s,_,0,rfl,D.W,fun v hv => ?_⟩
      obtain ⟨a,u,pw,rfl,ht,wr⟩:=hv
      refine ⟨_,_,DV.tup ht.sq (dvs_ints [(u : Int),(pw : Int)]),DV.tup (.inr tz) (dvs_ints [1,0]),shaped_ints _,shaped_ints _,?_⟩
      rw [if_neg (by decide),whole_eqv wr]
      refine hU _ _ ⟨?_,rfl⟩
      have e : decide (s.held 0 = 2 ^ 90) = weightsTell s:=by unfold weightsTell; rw [b0,Bool.not_false,Bool.true_and]
      rw [e,b0]; rfl
  rintro σ H2 ⟨rfl,rfl⟩
  obtain ⟨rdx,rfs,hrp,_,_,hrt⟩:=D.R.ins
  refine ⟨_,rfl,_,rfl,_,rfl,p,C.h,dx,_,_,rfl,D.hp,T.cl,T.ring,rfl,r,C.r,rdx,rfs,_,rfl,hrp,T.cr,TR.telling,hrt,le1000 (by show 3 ≤ 1000; decide),fun t' ht => ?_⟩
  exact q _ _ (same_tup ht) ⟨t',rfl,SqT.of upd_same⟩
end
end Qh
set_option Elab.async false
set_option linter.all false
set_option maxRecDepth 100000
namespace Qh
open PySem L2 Tx
theorem HallTx.hTold {P : Program} {w : World} {K : PySem.W.Frag} {mg : Str → Option Value} {base : Heap} {C : Cs} (X : HallTx K mg C) : Mt P w K mg base C.h "told" 10 ["self"] (spQ0 (hallI K C) (qTold (K:=K))) :=
  (Mt.mk' X.h.m_told (fun _ _ F => ok_h_told F X.hc X.wc X.rc X.tOpen X.wOf) (fun _ _ _ _ _ _ us hl => match us,hl with | [_],_ => rfl)).mono (by decide)
end Qh
set_option Elab.async false
set_option linter.all false
set_option maxRecDepth 100000
namespace Qh
open PySem L2 Tx
section
variable {P : Program} {w : World} {K : PySem.W.Frag} {mg : Str → Option Value} {base : Heap} {C : Cs}
theorem sc_t10 : FnScope ["self","hand"] ["self","hand"] (defScope s_Tree_above):=⟨rfl,rfl,rfl,by decide +kernel,rfl,by decide +kernel,by decide +kernel⟩
theorem ok_t_above {C : Addr} {f : Addr} {fd : FuncData} (F : Fun K "above" "Tree.above" s_Tree_above f fd) (T : TreeC K C) : FnOk P w K mg base CX0 1 f fd ["self","hand"] (tqAbove K C):=by
  refine F.ok sc_t10 (fun vs H Q E h => ?_) (fun cdv A outer s H vs Q E hr h => ?_)
  · obtain ⟨_,_,_,_,_,rfl,_⟩:=h; rfl
  obtain ⟨n,p,s,F,k,rfl,⟨dx,o,pa,le,kvo,kvp,kvl,D,rfl⟩,q⟩:=h
  refine ⟨_,pss_one (ps_ret (pe_dget1 (hu_of hr) (pe_fld (pv 0) rfl) (pv 1) ⟨rfl,rfl,rfl,rfl⟩)),?_⟩
  refine ⟨_,rfl,p,C,dx,_,_,rfl,D.hp,T.cl,T.n2,rfl,pa,rfl,.inl ⟨_,.inl D.hq⟩,_,rfl,_,DGet.k (k:=kI k) D.hq,?_⟩
  rw [D.dp.val]
  cases e : s.over k with
  | none => rw [e] at q; exact q
  | some x => rw [e] at q; exact q
theorem sc_h13 : FnScope ["self","hand"] ["self","hand"] (defScope s_Hall_above):=⟨rfl,rfl,rfl,by decide +kernel,rfl,by decide +kernel,by decide +kernel⟩
theorem ok_h_above {f : Addr} {fd : FuncData} (F : Fun K "above" "Hall.above" s_Hall_above f fd) (T : HallC K mg C) (Mh : Mt P w K mg base C.h "need_hand" 1 ["self","hand"] (hqHand C)) (Mo : Mt P w K mg base C.t "above" 1 ["self","hand"] (tqAbove K C.t)) :
    FnOk P w K mg base CX0 2 f fd ["self","hand"] (spQ1 (hallI K C) qAbove):=by
  refine F.ok sc_h13 (fun vs H Q E h => ?_) (fun cdv A outer s H vs Q E hr h => ?_)
  · obtain ⟨_,_,_,_,_,rfl,_⟩:=h; rfl
  obtain ⟨n,p,s,F,a,rfl,⟨dx,bd,wy,t,w,r,kvb,kvy,GT,GW,GR,D,rfl⟩,ha,q⟩:=h
  refine ⟨_,pss_cons (ps_expr (pe_mt Mh T.cl hr (by decide) (pv 0) (pa_cons (pv 1) pa_nil))) (pss_one (ps_ret (pe_mt Mo T.ct hr (by decide) (pe_fld (pv 0) rfl) (pa_cons (pv 1) pa_nil)))),?_⟩
  refine ⟨_,rfl,p,dx,_,rfl,D.hp,hall_lookup (by decide +kernel),_,rfl,n,p,dx,bd,wy,t,w,r,a,rfl,D.hp,ha,?_⟩
  obtain ⟨tdx,tfs,htp,htl⟩:=D.T.ins
  exact ⟨_,rfl,p,C.h,dx,_,_,rfl,D.hp,T.cl,T.tree,rfl,t,tdx,tfs,rfl,htp,htl "above" (by decide +kernel) (by decide +kernel) (by decide +kernel),_,rfl,n,t,s,_,a,rfl,D.T,q _ H (Same.refl _) rfl⟩
theorem HallTx.tAbove (X : HallTx K mg C) : Mt P w K mg base C.t "above" 1 ["self","hand"] (tqAbove K C.t):=Mt.mk' X.t.m_above (fun _ _ F => ok_t_above F X.tc) (fun _ _ _ _ _ _ us hl => match us,hl with | [_,_],_ => rfl)
theorem HallTx.hAbove (X : HallTx K mg C) : Mt P w K mg base C.h "above" 10 ["self","hand"] (spQ1 (hallI K C) qAbove):=(Mt.mk' X.h.m_above (fun _ _ F => ok_h_above F X.hc X.hHand X.tAbove) (fun _ _ _ _ _ _ us hl => match us,hl with | [_,_],_ => rfl)).mono (by decide)
end
end Qh
set_option Elab.async false
set_option linter.all false
set_option maxRecDepth 100000
namespace Qh
open PySem L2 Tx
section
variable {P : Program} {w : World} {K : PySem.W.Frag} {mg : Str → Option Value} {base : Heap} {C : Cs}
theorem sc_w3 : FnScope ["self","one","other"] ["self","one","other"] (defScope s_Weights_weights_on):=⟨rfl,rfl,rfl,by decide +kernel,rfl,by decide +kernel,by decide +kernel⟩
theorem ok_w_on {C : Addr} {f : Addr} {fd : FuncData} (F : Fun K "weights_on" "Weights.weights_on" s_Weights_weights_on f fd) (T : WtsC K mg C) : FnOk P w K mg base CX0 1 f fd ["self","one","other"] (wqOn K C):=by
  refine F.ok sc_w3 (fun vs H Q E h => ?_) (fun cdv A outer s H vs Q E hr h => ?_)
  · obtain ⟨_,_,_,_,_,_,rfl,_⟩:=h; rfl
  obtain ⟨n,p,s,F,a,b,rfl,⟨dx,kd,wd,hd,kvk,kvw,kvh,la,lh,D,rfl⟩,q⟩:=h
  refine ⟨_,pss_one (ps_ret (pe_callTy call_tuple_of (by rfl) T.tuple (by decide +kernel) (pa_cons (pe_dget2 (hu_of hr) (pe_fld (pv 0) rfl) (pe_tup (pa_cons (pv 1) (pa_cons (pv 2) pa_nil))) (pe_tup pa_nil) ⟨rfl,rfl,rfl,rfl⟩) pa_nil))),?_⟩
  refine ⟨_,rfl,p,C,dx,_,_,rfl,D.hp,T.cl,T.n2,rfl,wd,rfl,.inr ⟨_,.inl D.hw⟩,_,rfl,_,rfl,le1000 (by show 2 ≤ 1000; decide),fun k hk => ⟨Nat.zero_le _,fun t ht => ?_⟩⟩
  have s0:=same_tup (x:=.tup [V.int (a : Nat),V.int (b : Nat)]) hk
  have s1:=same_tup (x:=.tup []) ht
  have D1:=D.same (s0.trans s1)
  refine ⟨_,DGet.t (k:=kII a b) D1.hw (s1 _ _ upd_same),?_⟩
  rw [D.tw.val]
  have row:=D1.lw a b
  cases e : la a b with
  | none =>
    rw [e] at row
    have row : s.rows a b = []:=row
    refine ⟨t,[],rfl,.inr ⟨SqT.of upd_same,?_⟩⟩
    exact q _ _ _ (s0.trans s1) (SqT.of upd_same) (by rw [row]; exact .nil)
  | some l =>
    rw [e] at row
    obtain ⟨vs,h1,h2⟩:=row
    refine ⟨l,vs,rfl,.inl ⟨SqL.of h1,fun t' ht' => ?_⟩⟩
    have s2:=same_tup (x:=.tup vs) ht'
    exact q _ _ _ ((s0.trans s1).trans s2) (SqT.of upd_same) (WL.same s2 h2)
theorem sc_h14 : FnScope ["self","one","other"] ["self","one","other"] (defScope s_Hall_weights_on):=⟨rfl,rfl,rfl,by decide +kernel,rfl,by decide +kernel,by decide +kernel⟩
theorem ok_h_on {f : Addr} {fd : FuncData} (F : Fun K "weights_on" "Hall.weights_on" s_Hall_weights_on f fd) (T : HallC K mg C) (Mt2 : Mt P w K mg base C.h "need_two" 2 ["self","one","other"] (hqTwo C)) (Mr : Mt P w K mg base C.w "weights_on" 1 ["self","one","other"] (wqOn K C.w)) :
    FnOk P w K mg base CX0 3 f fd ["self","one","other"] (spQ2 (hallI K C) (qOn (K:=K))):=by
  refine F.ok sc_h14 (fun vs H Q E h => ?_) (fun cdv A outer s H vs Q E hr h => ?_)
  · obtain ⟨_,_,_,_,_,_,rfl,_⟩:=h; rfl
  obtain ⟨n,p,s,F,a,b,rfl,⟨dx,bd,wy,t,w,r,kvb,kvy,GT,GW,GR,D,rfl⟩,ha,hb,hab,q⟩:=h
  refine ⟨_,pss_cons (ps_expr (pe_mt Mt2 T.cl hr (by decide) (pv 0) (pa_cons (pv 1) (pa_cons (pv 2) pa_nil)))) (pss_one (ps_ret (pe_mt Mr T.cw hr (by decide) (pe_fld (pv 0) rfl) (pa_cons (pv 1) (pa_cons (pv 2) pa_nil))))),?_⟩
  refine ⟨_,rfl,p,dx,_,rfl,D.hp,hall_lookup (by decide +kernel),_,rfl,_,rfl,n,p,dx,bd,wy,t,w,r,a,b,rfl,D.hp,ha,hb,hab,?_⟩
  obtain ⟨tdx,tfs,htp,htl⟩:=D.W.ins
  exact ⟨_,rfl,p,C.h,dx,_,_,rfl,D.hp,T.cl,T.weights,rfl,w,tdx,tfs,rfl,htp,htl "weights_on" (by decide +kernel) (by decide +kernel) (by decide +kernel),_,rfl,_,rfl,n,w,s,_,a,b,rfl,D.W,fun t' xs H' s' h1 h2 => q _ H' s' ⟨t',xs,rfl,h1,h2⟩⟩
theorem HallTx.wOn (X : HallTx K mg C) : Mt P w K mg base C.w "weights_on" 1 ["self","one","other"] (wqOn K C.w):=Mt.mk' X.w.m_weights_on (fun _ _ F => ok_w_on F X.wc) (fun _ _ _ _ _ _ us hl => match us,hl with | [_,_,_],_ => rfl)
theorem HallTx.hOn (X : HallTx K mg C) : Mt P w K mg base C.h "weights_on" 10 ["self","one","other"] (spQ2 (hallI K C) (qOn (K:=K))):=(Mt.mk' X.h.m_weights_on (fun _ _ F => ok_h_on F X.hc X.hTwo X.wOn) (fun _ _ _ _ _ _ us hl => match us,hl with | [_,_,_],_ => rfl)).mono (by decide)
end
end Qh
set_option Elab.async false
set_option linter.all false
set_option maxRecDepth 100000
namespace Qh
open PySem L2 Tx
section
variable {P : Program} {w : World} {K : PySem.W.Frag} {mg : Str → Option Value} {base : Heap} {C : Cs}
theorem valV_of_mem {κ : Type} [DecidableEq κ] : ∀ {kvs : List (κ × V)} {p : κ × V},(kvs.map (·.1)).Nodup → p ∈ kvs → valV kvs p.1 = some p.2
  | x :: r,p,nd,h => by
    rw [List.map_cons,List.nodup_cons] at nd
    rcases List.mem_cons.mp h with rfl | h
    · exact valV_pos rfl
    · rw [valV_neg (fun e => nd.1 (by rw [e]; exact List.mem_map.mpr ⟨p,h,rfl⟩))]
      exact valV_of_mem nd.2 h
theorem mem_of_valV {κ : Type} [DecidableEq κ] : ∀ {kvs : List (κ × V)} {k : κ} {v : V},valV kvs k = some v → (k,v) ∈ kvs
  | [],k,v,h => by cases h
  | x :: r,k,v,h => by
    by_cases e : x.1 = k
    · rw [valV_pos e] at h
      cases h
      rw [← e]; exact List.mem_cons_self
    · rw [valV_neg e] at h
      exact List.mem_cons_of_mem _ (mem_of_valV h)
def intOf : V → Int
  | .int i => i
  | _ => 0
theorem sum_zero : ∀ {l : List Int},(∀ x ∈ l,0 ≤ x) → (l.sum = 0 ↔ ∀ x ∈ l,x = 0)
  | [],_ => by simp
  | a :: r,h => by
    have ih:=sum_zero (l:=r) fun x hx => h x (List.mem_cons_of_mem _ hx)
    have ha:=h a List.mem_cons_self
    have hr : 0 ≤ r.sum:=by
      have key : ∀ l : List Int,(∀ x ∈ l,0 ≤ x) → 0 ≤ l.sum:=by
        intro l
        induction l with
        | nil => intro _; simp
        | cons b t ih => intro h; rw [List.sum_cons]; have:=h b List.mem_cons_self; have:=ih fun x hx => h x (List.mem_cons_of_mem _ hx); omega
      exact key r fun x hx => h x (List.mem_cons_of_mem _ hx)
    rw [List.sum_cons]
    constructor
    · intro e x hx
      rcases List.mem_cons.mp hx with z | z
      · omega
      · exact ih.mp (by omega) x z
    · intro e
      have:=e a List.mem_cons_self
      have:=ih.mpr fun x hx => e x (List.mem_cons_of_mem _ hx)
      omega
theorem Num2.vals {n : Nat} {kvs : List (List Key × V)} {g : Nat → Nat → Nat} (h : Num2 n kvs g) : ∃ ns : List Int,kvs.map (·.2) = ns.map V.int ∧ (ns.sum = 0 ↔ ∀ a b,a < n → b < n → g a b = 0):=by
  obtain ⟨f,d,q⟩:=h
  have at_ : ∀ p ∈ kvs,∃ a b,a < n ∧ b < n ∧ p.1 = kII a b ∧ p.2 = .int (g a b : Nat):=fun p hp => by
    obtain ⟨a,b,ha,hb,e⟩:=d.rng p.1 (List.mem_map.mpr ⟨p,hp,rfl⟩)
    have v:=valV_of_mem d.nd hp
    rw [e,d.val] at v
    have:=q a b
    rw [v] at this
    exact ⟨a,b,ha,hb,e,this⟩
  refine ⟨kvs.map fun p => intOf p.2,?_,?_⟩
  · rw [List.map_map]
    apply List.map_congr_left
    intro p hp
    obtain ⟨a,b,_,_,_,e⟩:=at_ p hp
    rw [Function.comp_apply,e]; rfl
  · rw [sum_zero]
    · constructor
      · intro h a b ha hb
        have:=q a b
        cases e : f a b with
        | none =>
          rw [e] at this
          have : (0 : Int) = ((g a b : Nat) : Int):=V.int.inj this
          omega
        | some v =>
          rw [e] at this
          have hv : valV kvs (kII a b) = some v:=by rw [d.val]; exact e
          have:=h (intOf v) (List.mem_map.mpr ⟨_,mem_of_valV hv,rfl⟩)
          rename_i w
          have w : v = .int (g a b : Nat):=w
          rw [w] at this
          have : ((g a b : Nat) : Int) = 0:=this
          omega
      · intro h x hx
        obtain ⟨p,hp,rfl⟩:=List.mem_map.mp hx
        obtain ⟨a,b,ha,hb,_,e⟩:=at_ p hp
        show intOf p.2 = 0
        rw [e,h a b ha hb]; rfl
    · intro x hx
      obtain ⟨p,hp,rfl⟩:=List.mem_map.mp hx
      obtain ⟨a,b,ha,hb,_,e⟩:=at_ p hp
      show 0 ≤ intOf p.2
      rw [e]
      show (0 : Int) ≤ ((g a b : Nat) : Int)
      omega
theorem none_busy {n : Nat} {s : S} {kvb : List (Key × V)} (h : DK n kvb (fun k => if s.busy k = true then some (.bl true) else none)) : (kvb.length = 0 ↔ ∀ k,k < n → s.busy k = false):=by
  obtain ⟨ks,e,nd,lt,ii⟩:=h.keys
  have el : kvb.length = ks.length:=by have:=congrArg List.length e; rw [List.length_map,List.length_map] at this; exact this
  rw [el]
  constructor
  · intro z k hk
    cases b : s.busy k with
    | false => rfl
    | true =>
      have : k ∈ ks:=(ii k).mpr (by rw [b]; simp)
      rw [List.length_eq_zero_iff.mp z] at this
      cases this
  · intro z
    rw [List.length_eq_zero_iff]
    cases ks with
    | nil => rfl
    | cons k r =>
      have:=(ii k).mp List.mem_cons_self
      rw [z k (lt k List.mem_cons_self)] at this
      exact absurd rfl this
def spQuiet {C : Addr} (I : HallI K C) : Sp:=fun vs H Q _ => ∃ n p s F,vs = [.ref p] ∧ I.At n H p s F ∧ (∀ a,s.rows a a = []) ∧ ∀ v H',Same H H' → qQuiet n s H' v → Q v H'
theorem sc_h20 : FnScope ["self"] ["self"] (defScope s_Hall_is_quiet):=⟨rfl,rfl,rfl,by decide +kernel,rfl,by decide +kernel,by decide +kernel⟩
theorem ok_h_quiet {f : Addr} {fd : FuncData} (F : Fun K "is_quiet" "Hall.is_quiet" s_Hall_is_quiet f fd) (T : HallC K mg C) (gsum : mg "sum" = none) : FnOk P w K mg base CX0 1 f fd ["self"] (spQuiet (hallI K C)):=by
  refine F.ok sc_h20 (fun vs H Q E h => ?_) (fun cdv A outer s H vs Q E hr h => ?_)
  · obtain ⟨_,_,_,_,rfl,_⟩:=h; rfl
  obtain ⟨n,p,s,F,rfl,⟨dx,bd,wy,t,w,r,kvb,kvy,GT,GW,GR,D,rfl⟩,self,q⟩:=h
  refine ⟨_,pss_one (ps_ret (pe_and (pe_cmpR op_eq (pe_callB call_lenD (by rfl) T.len PySem.boot_len (pa_cons (pe_fld (pv 0) rfl) pa_nil)) pe_int (nomark _))
    (pe_one (pe_cmpR op_eq (pe_callB (call_sumV rfl) (by rfl) gsum (by decide +kernel) (pa_cons (pe_bm0 PySem.F.plainAttrs_dict PySem.F.slot_dict_values PySem.F.type_dict_values mt_vals (pe_fld (pv 0) rfl)) pa_nil)) pe_int (nomark _))))),?_⟩
  refine ⟨_,rfl,p,C.h,dx,_,_,rfl,D.hp,T.cl,T.busy,rfl,bd,kvb,rfl,D.hb,?_⟩
  have nb:=none_busy D.tb
  obtain ⟨ns,ens,zns⟩:=D.ty.vals
  by_cases z : kvb.length = 0
  · refine ⟨rfl,_,rfl,?_⟩
    rw [decide_eq_true (by rw [z]; rfl)]
    refine iteT ⟨_,rfl,p,C.h,dx,_,_,rfl,D.hp,T.cl,T.way,rfl,.inr (.inr (.inl ⟨rfl,.inr ⟨_,D.hy⟩⟩)),wy,kvy,rfl,rfl,D.hy,fun l hl => ?_⟩
    have s1 : Same H (upd H l (ViewO l wy)):=same_tup hl
    refine ⟨l,wy,kvy,ns,rfl,upd_same,s1 _ _ D.hy,ens,rfl,?_⟩
    refine q _ _ s1 ⟨_,rfl,?_⟩
    rw [decide_eq_true_iff,V.int.injEq,zns]
    constructor
    · intro h
      exact ⟨nb.mp z,fun a b ha hb _ => List.length_eq_zero_iff.mp (h a b ha hb)⟩
    · intro h a b ha hb
      by_cases e : a = b
      · rw [e,self]; rfl
      · rw [h.2 a b ha hb e]; rfl
  · refine ⟨rfl,_,rfl,?_⟩
    have : decide (V.int (kvb.length : Nat) = V.int 0) = false:=decide_eq_false (by rw [V.int.injEq]; omega)
    rw [this]
    refine iteF (q _ _ (Same.refl _) ⟨false,rfl,?_⟩)
    constructor
    · intro h; cases h
    · intro h; exact absurd (nb.mpr h.1) z
theorem HallTx.hQuiet (X : HallTx K mg C) (gsum : mg "sum" = none) : Mt P w K mg base C.h "is_quiet" 10 ["self"] (spQuiet (hallI K C)) :=
  (Mt.mk' X.h.m_is_quiet (fun _ _ F => ok_h_quiet F X.hc gsum) (fun _ _ _ _ _ _ us hl => match us,hl with | [_],_ => rfl)).mono (by decide)
end
end Qh
set_option Elab.async false
set_option linter.all false
set_option maxRecDepth 100000
namespace Qh
open PySem L2 Tx
def badH (n : Nat) (a : Int) : Prop:=a < 0 ∨ (n : Int) ≤ a
def badT (n : Nat) (a b : Int) : Prop:=badH n a ∨ badH n b ∨ a = b
theorem good_nat {n : Nat} {a : Int} (h : ¬ badH n a) : ∃ k : Nat,a = k ∧ k < n:=⟨a.toNat,by unfold badH at h; omega,by unfold badH at h; omega⟩
section
variable {P : Program} {w : World} {K : PySem.W.Frag} {mg : Str → Option Value} {base : Heap} {C : Cs} {CN CW : Addr}
def hrHand (C : Cs) (CN : Addr) : Sp:=fun vs H Q E => ∃ n p dx bd wy t w r a,vs = [.ref p,.int a] ∧ H p = some (.ins C.h dx (hallF n bd wy t w r)) ∧ (badH n a → E (.ref CN) none H) ∧ (¬ badH n a → Q .non H)
theorem er_hand {f : Addr} {fd : FuncData} (F : Fun K "need_hand" "Hall.need_hand" s_Hall_need_hand f fd) (T : HallC K mg C) (N : XCls K mg "NoHand" CN) : FnOk P w K mg base (CXE P w) 1 f fd ["self","hand"] (hrHand C CN):=by
  refine F.okE sc_h1 (fun vs H Q E h => ?_) (fun cdv A outer s H vs Q E hr h => ?_)
  · obtain ⟨_,_,_,_,_,_,_,_,_,rfl,_⟩:=h; rfl
  obtain ⟨n,p,dx,bd,wy,t,w,r,a,rfl,hp,h1,h2⟩:=h
  refine ⟨_,pss_one (ps_if (PW.pt (pw_or (pt_cmpR op_lt (pv 1) pe_int (nomark _)) (pw_or1 (pt_cmpR op_ge (pv 1) (pe_fld (pv 0) rfl) (nomark _))))) (pss_one (ps_raise N rfl (pa_cons pe_str pa_nil))) pss_nil),?_⟩
  refine ⟨_,rfl,_,_,rfl,rfl,_,rfl,?_⟩
  refine ite2 (fun z => ?_) (fun z => ?_)
  · exact iteT ⟨le1000 (by show 1 ≤ 1000; decide),h1 (.inl (of_decide_eq_true z))⟩
  · have z:=fun y => z (decide_eq_true y)
    refine ⟨_,rfl,_,rfl,p,C.h,dx,_,_,rfl,hp,T.cl,T.many,rfl,_,_,rfl,rfl,_,rfl,?_⟩
    refine ite2 (fun y => ?_) (fun y => ?_)
    · exact ⟨le1000 (by show 1 ≤ 1000; decide),h1 (.inr (of_decide_eq_true y))⟩
    · have y:=fun x => y (decide_eq_true x)
      exact h2 (fun x => x.elim z y)
def hrTwo (C : Cs) (CN : Addr) : Sp:=fun vs H Q E => ∃ n p dx bd wy t w r a b,vs = [.ref p,.int a,.int b] ∧ H p = some (.ins C.h dx (hallF n bd wy t w r)) ∧ (badT n a b → E (.ref CN) none H) ∧ (¬ badT n a b → Q .non H)
theorem er_two {f : Addr} {fd : FuncData} (F : Fun K "need_two" "Hall.need_two" s_Hall_need_two f fd) (T : HallC K mg C) (N : XCls K mg "NoHand" CN) (Mh : MtE P w K mg base C.h "need_hand" 1 ["self","hand"] (hrHand C CN)) : FnOk P w K mg base (CXE P w) 2 f fd ["self","one","other"] (hrTwo C CN):=by
  refine F.okE sc_h2 (fun vs H Q E h => ?_) (fun cdv A outer s H vs Q E hr h => ?_)
  · obtain ⟨_,_,_,_,_,_,_,_,_,_,rfl,_⟩:=h; rfl
  obtain ⟨n,p,dx,bd,wy,t,w,r,a,b,rfl,hp,h1,h2⟩:=h
  refine ⟨_,pss_cons (ps_expr (pe_mtE passE Mh T.cl hr (by decide) (pv 0) (pa_cons (pv 1) pa_nil))) (pss_cons (ps_expr (pe_mtE passE Mh T.cl hr (by decide) (pv 0) (pa_cons (pv 2) pa_nil))) (pss_one (ps_if (pt_cmpR op_eq (pv 1) (pv 2) (nomark _)) (pss_one (ps_raise N rfl (pa_cons pe_str pa_nil))) pss_nil))),?_⟩
  refine ⟨_,rfl,p,dx,_,rfl,hp,hall_lookup (by decide +kernel),_,rfl,n,p,dx,bd,wy,t,w,r,a,rfl,hp,fun z => h1 (.inl z),fun za => ?_⟩
  refine ⟨_,rfl,p,dx,_,rfl,hp,hall_lookup (by decide +kernel),_,rfl,n,p,dx,bd,wy,t,w,r,b,rfl,hp,fun z => h1 (.inr (.inl z)),fun zb => ?_⟩
  refine ⟨_,rfl,_,rfl,rfl,_,rfl,?_⟩
  refine ite2 (fun z => ?_) (fun z => ?_)
  · exact ⟨le1000 (by show 1 ≤ 1000; decide),h1 (.inr (.inr (V.int.inj (of_decide_eq_true z))))⟩
  · have z:=fun y => z (decide_eq_true y)
    exact h2 fun y => y.elim za (fun y => y.elim zb fun y => z (by rw [y]))
def hrBusy (C : Cs) (CW : Addr) : Sp:=fun vs H Q E => ∃ n p dx bd wy t w r k kvb,vs = [.ref p,.int (k : Nat)] ∧ H p = some (.ins C.h dx (hallF n bd wy t w r)) ∧ H bd = some (.dK kvb) ∧ valV kvb (kI k) = none ∧ E (.ref CW) none H
theorem er_busy {f : Addr} {fd : FuncData} (F : Fun K "need_working" "Hall.need_working" s_Hall_need_working f fd) (T : HallC K mg C) (N : XCls K mg "NotNow" CW) : FnOk P w K mg base (CXE P w) 1 f fd ["self","hand"] (hrBusy C CW):=by
  refine F.okE sc_h3 (fun vs H Q E h => ?_) (fun cdv A outer s H vs Q E hr h => ?_)
  · obtain ⟨_,_,_,_,_,_,_,_,_,_,rfl,_⟩:=h; rfl
  obtain ⟨n,p,dx,bd,wy,t,w,r,k,kvb,rfl,hp,hb,hv,q⟩:=h
  refine ⟨_,pss_one (ps_if (pt_cmp (pc_dnotin (hu_of hr) (pv 1) (pe_fld (pv 0) rfl)) rfl) (pss_one (ps_raise N rfl (pa_cons pe_str pa_nil))) pss_nil),?_⟩
  refine ⟨_,rfl,_,rfl,p,C.h,dx,_,_,rfl,hp,T.cl,T.busy,rfl,bd,_,rfl,DGet.k (k:=kI k) hb,_,rfl,?_⟩
  rw [hv]
  exact iteT ⟨le1000 (by show 1 ≤ 1000; decide),q⟩
def spRef {C : Addr} (I : HallI K C) (R : Nat → S → List Int → Addr → Prop) : Sp:=fun vs H _ E => ∃ n p s F as c,vs = .ref p :: as.map V.int ∧ I.At n H p s F ∧ R n s as c ∧ ∀ H',Same H H' → E (.ref c) none H'
def r1 (CN : Addr) : Nat → S → List Int → Addr → Prop:=fun n _ as c => ∃ a,as = [a] ∧ badH n a ∧ c = CN
def r2 (CN : Addr) : Nat → S → List Int → Addr → Prop:=fun n _ as c => ∃ a b,as = [a,b] ∧ badT n a b ∧ c = CN
theorem er_open_of {f : Addr} {fd : FuncData} (F : Fun K "open_of" "Hall.open_of" s_Hall_open_of f fd) (T : HallC K mg C) (Mh : MtE P w K mg base C.h "need_hand" 1 ["self","hand"] (hrHand C CN)) : FnOk P w K mg base (CXE P w) 2 f fd ["self","hand"] (spRef (hallI K C) (r1 CN)):=by
  refine F.okE (N:=["self","hand"]) ⟨rfl,rfl,rfl,by decide +kernel,rfl,by decide +kernel,by decide +kernel⟩ (fun vs H Q E h => ?_) (fun cdv A outer s H vs Q E hr h => ?_)
  · obtain ⟨_,_,_,_,_,_,rfl,_,⟨_,rfl,_⟩,_⟩:=h; rfl
  obtain ⟨n,p,s,F,as,c,rfl,⟨dx,bd,wy,t,w,r,kvb,kvy,GT,GW,GR,D,rfl⟩,⟨a,rfl,ha,rfl⟩,q⟩:=h
  exact ⟨_,pss_halt (ps_expr (pe_mtE passE Mh T.cl hr (by decide) (pv 0) (pa_cons (pv 1) pa_nil))),⟨_,rfl,p,dx,_,rfl,D.hp,hall_lookup (by decide +kernel),_,rfl,n,p,dx,bd,wy,t,w,r,a,rfl,D.hp,fun _ => q H (Same.refl _),fun z => absurd ha z⟩⟩
theorem er_above {f : Addr} {fd : FuncData} (F : Fun K "above" "Hall.above" s_Hall_above f fd) (T : HallC K mg C) (Mh : MtE P w K mg base C.h "need_hand" 1 ["self","hand"] (hrHand C CN)) : FnOk P w K mg base (CXE P w) 2 f fd ["self","hand"] (spRef (hallI K C) (r1 CN)):=by
  refine F.okE (N:=["self","hand"]) ⟨rfl,rfl,rfl,by decide +kernel,rfl,by decide +kernel,by decide +kernel⟩ (fun vs H Q E h => ?_) (fun cdv A outer s H vs Q E hr h => ?_)
  · obtain ⟨_,_,_,_,_,_,rfl,_,⟨_,rfl,_⟩,_⟩:=h; rfl
  obtain ⟨n,p,s,F,as,c,rfl,⟨dx,bd,wy,t,w,r,kvb,kvy,GT,GW,GR,D,rfl⟩,⟨a,rfl,ha,rfl⟩,q⟩:=h
  exact ⟨_,pss_halt (ps_expr (pe_mtE passE Mh T.cl hr (by decide) (pv 0) (pa_cons (pv 1) pa_nil))),⟨_,rfl,p,dx,_,rfl,D.hp,hall_lookup (by decide +kernel),_,rfl,n,p,dx,bd,wy,t,w,r,a,rfl,D.hp,fun _ => q H (Same.refl _),fun z => absurd ha z⟩⟩
theorem er_weight_of {f : Addr} {fd : FuncData} (F : Fun K "weight_of" "Hall.weight_of" s_Hall_weight_of f fd) (T : HallC K mg C) (Mh : MtE P w K mg base C.h "need_hand" 1 ["self","hand"] (hrHand C CN)) : FnOk P w K mg base (CXE P w) 2 f fd ["self","hand"] (spRef (hallI K C) (r1 CN)):=by
  refine F.okE (N:=["self","hand"]) ⟨rfl,rfl,rfl,by decide +kernel,rfl,by decide +kernel,by decide +kernel⟩ (fun vs H Q E h => ?_) (fun cdv A outer s H vs Q E hr h => ?_)
  · obtain ⟨_,_,_,_,_,_,rfl,_,⟨_,rfl,_⟩,_⟩:=h; rfl
  obtain ⟨n,p,s,F,as,c,rfl,⟨dx,bd,wy,t,w,r,kvb,kvy,GT,GW,GR,D,rfl⟩,⟨a,rfl,ha,rfl⟩,q⟩:=h
  exact ⟨_,pss_halt (ps_expr (pe_mtE passE Mh T.cl hr (by decide) (pv 0) (pa_cons (pv 1) pa_nil))),⟨_,rfl,p,dx,_,rfl,D.hp,hall_lookup (by decide +kernel),_,rfl,n,p,dx,bd,wy,t,w,r,a,rfl,D.hp,fun _ => q H (Same.refl _),fun z => absurd ha z⟩⟩
theorem er_weights_home {f : Addr} {fd : FuncData} (F : Fun K "weights_home" "Hall.weights_home" s_Hall_weights_home f fd) (T : HallC K mg C) (Mh : MtE P w K mg base C.h "need_hand" 1 ["self","hand"] (hrHand C CN)) : FnOk P w K mg base (CXE P w) 2 f fd ["self","hand"] (spRef (hallI K C) (r1 CN)):=by
  refine F.okE (N:=["self","hand"]) ⟨rfl,rfl,rfl,by decide +kernel,rfl,by decide +kernel,by decide +kernel⟩ (fun vs H Q E h => ?_) (fun cdv A outer s H vs Q E hr h => ?_)
  · obtain ⟨_,_,_,_,_,_,rfl,_,⟨_,rfl,_⟩,_⟩:=h; rfl
  obtain ⟨n,p,s,F,as,c,rfl,⟨dx,bd,wy,t,w,r,kvb,kvy,GT,GW,GR,D,rfl⟩,⟨a,rfl,ha,rfl⟩,q⟩:=h
  exact ⟨_,pss_halt (ps_expr (pe_mtE passE Mh T.cl hr (by decide) (pv 0) (pa_cons (pv 1) pa_nil))),⟨_,rfl,p,dx,_,rfl,D.hp,hall_lookup (by decide +kernel),_,rfl,n,p,dx,bd,wy,t,w,r,a,rfl,D.hp,fun _ => q H (Same.refl _),fun z => absurd ha z⟩⟩
theorem er_count_of {f : Addr} {fd : FuncData} (F : Fun K "count_of" "Hall.count_of" s_Hall_count_of f fd) (T : HallC K mg C) (Mh : MtE P w K mg base C.h "need_hand" 1 ["self","hand"] (hrHand C CN)) : FnOk P w K mg base (CXE P w) 2 f fd ["self","hand"] (spRef (hallI K C) (r1 CN)):=by
  refine F.okE (N:=["self","hand"]) ⟨rfl,rfl,rfl,by decide +kernel,rfl,by decide +kernel,by decide +kernel⟩ (fun vs H Q E h => ?_) (fun cdv A outer s H vs Q E hr h => ?_)
  · obtain ⟨_,_,_,_,_,_,rfl,_,⟨_,rfl,_⟩,_⟩:=h; rfl
  obtain ⟨n,p,s,F,as,c,rfl,⟨dx,bd,wy,t,w,r,kvb,kvy,GT,GW,GR,D,rfl⟩,⟨a,rfl,ha,rfl⟩,q⟩:=h
  exact ⟨_,pss_halt (ps_expr (pe_mtE passE Mh T.cl hr (by decide) (pv 0) (pa_cons (pv 1) pa_nil))),⟨_,rfl,p,dx,_,rfl,D.hp,hall_lookup (by decide +kernel),_,rfl,n,p,dx,bd,wy,t,w,r,a,rfl,D.hp,fun _ => q H (Same.refl _),fun z => absurd ha z⟩⟩
theorem er_colour_of {f : Addr} {fd : FuncData} (F : Fun K "colour_of" "Hall.colour_of" s_Hall_colour_of f fd) (T : HallC K mg C) (Mh : MtE P w K mg base C.h "need_hand" 1 ["self","hand"] (hrHand C CN)) : FnOk P w K mg base (CXE P w) 2 f fd ["self","hand"] (spRef (hallI K C) (r1 CN)):=by
  refine F.okE (N:=["self","hand"]) ⟨rfl,rfl,rfl,by decide +kernel,rfl,by decide +kernel,by decide +kernel⟩ (fun vs H Q E h => ?_) (fun cdv A outer s H vs Q E hr h => ?_)
  · obtain ⟨_,_,_,_,_,_,rfl,_,⟨_,rfl,_⟩,_⟩:=h; rfl
  obtain ⟨n,p,s,F,as,c,rfl,⟨dx,bd,wy,t,w,r,kvb,kvy,GT,GW,GR,D,rfl⟩,⟨a,rfl,ha,rfl⟩,q⟩:=h
  exact ⟨_,pss_halt (ps_expr (pe_mtE passE Mh T.cl hr (by decide) (pv 0) (pa_cons (pv 1) pa_nil))),⟨_,rfl,p,dx,_,rfl,D.hp,hall_lookup (by decide +kernel),_,rfl,n,p,dx,bd,wy,t,w,r,a,rfl,D.hp,fun _ => q H (Same.refl _),fun z => absurd ha z⟩⟩
theorem er_works {f : Addr} {fd : FuncData} (F : Fun K "works" "Hall.works" s_Hall_works f fd) (T : HallC K mg C) (M2 : MtE P w K mg base C.h "need_two" 2 ["self","one","other"] (hrTwo C CN)) : FnOk P w K mg base (CXE P w) 3 f fd ["self","one","other"] (spRef (hallI K C) (r2 CN)):=by
  refine F.okE (N:=["self","one","other"]) ⟨rfl,rfl,rfl,by decide +kernel,rfl,by decide +kernel,by decide +kernel⟩ (fun vs H Q E h => ?_) (fun cdv A outer s H vs Q E hr h => ?_)
  · obtain ⟨_,_,_,_,_,_,rfl,_,⟨_,_,rfl,_⟩,_⟩:=h; rfl
  obtain ⟨n,p,s,F,as,c,rfl,⟨dx,bd,wy,t,w,r,kvb,kvy,GT,GW,GR,D,rfl⟩,⟨a,b,rfl,ha,rfl⟩,q⟩:=h
  exact ⟨_,pss_halt (ps_expr (pe_mtE passE M2 T.cl hr (by decide) (pv 0) (pa_cons (pv 1) (pa_cons (pv 2) pa_nil)))),⟨_,rfl,p,dx,_,rfl,D.hp,hall_lookup (by decide +kernel),_,rfl,_,rfl,n,p,dx,bd,wy,t,w,r,a,b,rfl,D.hp,fun _ => q H (Same.refl _),fun z => absurd ha z⟩⟩
theorem er_receipts {f : Addr} {fd : FuncData} (F : Fun K "receipts" "Hall.receipts" s_Hall_receipts f fd) (T : HallC K mg C) (M2 : MtE P w K mg base C.h "need_two" 2 ["self","one","other"] (hrTwo C CN)) : FnOk P w K mg base (CXE P w) 3 f fd ["self","one","other"] (spRef (hallI K C) (r2 CN)):=by
  refine F.okE (N:=["self","one","other"]) ⟨rfl,rfl,rfl,by decide +kernel,rfl,by decide +kernel,by decide +kernel⟩ (fun vs H Q E h => ?_) (fun cdv A outer s H vs Q E hr h => ?_)
  · obtain ⟨_,_,_,_,_,_,rfl,_,⟨_,_,rfl,_⟩,_⟩:=h; rfl
  obtain ⟨n,p,s,F,as,c,rfl,⟨dx,bd,wy,t,w,r,kvb,kvy,GT,GW,GR,D,rfl⟩,⟨a,b,rfl,ha,rfl⟩,q⟩:=h
  exact ⟨_,pss_halt (ps_expr (pe_mtE passE M2 T.cl hr (by decide) (pv 0) (pa_cons (pv 1) (pa_cons (pv 2) pa_nil)))),⟨_,rfl,p,dx,_,rfl,D.hp,hall_lookup (by decide +kernel),_,rfl,_,rfl,n,p,dx,bd,wy,t,w,r,a,b,rfl,D.hp,fun _ => q H (Same.refl _),fun z => absurd ha z⟩⟩
theorem er_weights_on {f : Addr} {fd : FuncData} (F : Fun K "weights_on" "Hall.weights_on" s_Hall_weights_on f fd) (T : HallC K mg C) (M2 : MtE P w K mg base C.h "need_two" 2 ["self","one","other"] (hrTwo C CN)) : FnOk P w K mg base (CXE P w) 3 f fd ["self","one","other"] (spRef (hallI K C) (r2 CN)):=by
  refine F.okE (N:=["self","one","other"]) ⟨rfl,rfl,rfl,by decide +kernel,rfl,by decide +kernel,by decide +kernel⟩ (fun vs H Q E h => ?_) (fun cdv A outer s H vs Q E hr h => ?_)
  · obtain ⟨_,_,_,_,_,_,rfl,_,⟨_,_,rfl,_⟩,_⟩:=h; rfl
  obtain ⟨n,p,s,F,as,c,rfl,⟨dx,bd,wy,t,w,r,kvb,kvy,GT,GW,GR,D,rfl⟩,⟨a,b,rfl,ha,rfl⟩,q⟩:=h
  exact ⟨_,pss_halt (ps_expr (pe_mtE passE M2 T.cl hr (by decide) (pv 0) (pa_cons (pv 1) (pa_cons (pv 2) pa_nil)))),⟨_,rfl,p,dx,_,rfl,D.hp,hall_lookup (by decide +kernel),_,rfl,_,rfl,n,p,dx,bd,wy,t,w,r,a,b,rfl,D.hp,fun _ => q H (Same.refl _),fun z => absurd ha z⟩⟩
def rSend (CN CW : Addr) : Nat → S → List Int → Addr → Prop:=fun n s as c => ∃ a b,as = [a,b] ∧ ((badT n a b ∧ c = CN) ∨ (¬ badT n a b ∧ (∃ k : Nat,a = k ∧ s.busy k = false) ∧ c = CW))
theorem er_send {f : Addr} {fd : FuncData} (F : Fun K "send" "Hall.send" s_Hall_send f fd) (T : HallC K mg C) (M2 : MtE P w K mg base C.h "need_two" 2 ["self","one","other"] (hrTwo C CN)) (Mb : MtE P w K mg base C.h "need_working" 1 ["self","hand"] (hrBusy C CW)) : FnOk P w K mg base (CXE P w) 3 f fd ["self","one","other"] (spRef (hallI K C) (rSend CN CW)):=by
  refine F.okE (N:=["self","one","other"]) ⟨rfl,rfl,rfl,by decide +kernel,rfl,by decide +kernel,by decide +kernel⟩ (fun vs H Q E h => ?_) (fun cdv A outer s H vs Q E hr h => ?_)
  · obtain ⟨_,_,_,_,_,_,rfl,_,⟨_,_,rfl,_⟩,_⟩:=h; rfl
  obtain ⟨n,p,s,F,as,c,rfl,⟨dx,bd,wy,t,w,r,kvb,kvy,GT,GW,GR,D,rfl⟩,⟨a,b,rfl,hc⟩,q⟩:=h
  refine ⟨_,pss_cons (ps_expr (pe_mtE passE M2 T.cl hr (by decide) (pv 0) (pa_cons (pv 1) (pa_cons (pv 2) pa_nil)))) (pss_halt (ps_expr (pe_mtE passE Mb T.cl hr (by decide) (pv 0) (pa_cons (pv 1) pa_nil)))),?_⟩
  refine ⟨_,rfl,p,dx,_,rfl,D.hp,hall_lookup (by decide +kernel),_,rfl,_,rfl,n,p,dx,bd,wy,t,w,r,a,b,rfl,D.hp,fun z => ?_,fun z => ?_⟩
  · rcases hc with ⟨_,rfl⟩ | ⟨y,_⟩
    · exact q H (Same.refl _)
    · exact absurd z y
  · rcases hc with ⟨y,_⟩ | ⟨_,⟨k,rfl,hk⟩,rfl⟩
    · exact absurd y z
    · exact ⟨_,rfl,p,dx,_,rfl,D.hp,hall_lookup (by decide +kernel),_,rfl,n,p,dx,bd,wy,t,w,r,k,kvb,rfl,D.hp,D.hb,(by rw [D.tb.val,hk]; rfl),q H (Same.refl _)⟩
def rRest (CN CW : Addr) : Nat → S → List Int → Addr → Prop:=fun n s as c => ∃ a,as = [a] ∧ ((badH n a ∧ c = CN) ∨ (¬ badH n a ∧ (∃ k : Nat,a = k ∧ s.busy k = false) ∧ c = CW))
theorem er_rest {f : Addr} {fd : FuncData} (F : Fun K "rest" "Hall.rest" s_Hall_rest f fd) (T : HallC K mg C) (Mh : MtE P w K mg base C.h "need_hand" 1 ["self","hand"] (hrHand C CN)) (Mb : MtE P w K mg base C.h "need_working" 1 ["self","hand"] (hrBusy C CW)) : FnOk P w K mg base (CXE P w) 2 f fd ["self","hand"] (spRef (hallI K C) (rRest CN CW)):=by
  refine F.okE (N:=["self","hand"]) ⟨rfl,rfl,rfl,by decide +kernel,rfl,by decide +kernel,by decide +kernel⟩ (fun vs H Q E h => ?_) (fun cdv A outer s H vs Q E hr h => ?_)
  · obtain ⟨_,_,_,_,_,_,rfl,_,⟨_,rfl,_⟩,_⟩:=h; rfl
  obtain ⟨n,p,s,F,as,c,rfl,⟨dx,bd,wy,t,w,r,kvb,kvy,GT,GW,GR,D,rfl⟩,⟨a,rfl,hc⟩,q⟩:=h
  refine ⟨_,pss_cons (ps_expr (pe_mtE passE Mh T.cl hr (by decide) (pv 0) (pa_cons (pv 1) pa_nil))) (pss_halt (ps_expr (pe_mtE passE Mb T.cl hr (by decide) (pv 0) (pa_cons (pv 1) pa_nil)))),?_⟩
  refine ⟨_,rfl,p,dx,_,rfl,D.hp,hall_lookup (by decide +kernel),_,rfl,n,p,dx,bd,wy,t,w,r,a,rfl,D.hp,fun z => ?_,fun z => ?_⟩
  · rcases hc with ⟨_,rfl⟩ | ⟨y,_⟩
    · exact q H (Same.refl _)
    · exact absurd z y
  · rcases hc with ⟨y,_⟩ | ⟨_,⟨k,rfl,hk⟩,rfl⟩
    · exact absurd y z
    · exact ⟨_,rfl,p,dx,_,rfl,D.hp,hall_lookup (by decide +kernel),_,rfl,n,p,dx,bd,wy,t,w,r,k,kvb,rfl,D.hp,D.hb,(by rw [D.tb.val,hk]; rfl),q H (Same.refl _)⟩
theorem badT_nat {n : Nat} {a b : Int} (h : ¬ badT n a b) : ∃ x y : Nat,a = x ∧ b = y ∧ x < n ∧ y < n ∧ x ≠ y:=by
  obtain ⟨x,rfl,hx⟩:=good_nat fun z => h (.inl z)
  obtain ⟨y,rfl,hy⟩:=good_nat fun z => h (.inr (.inl z))
  exact ⟨x,y,rfl,rfl,hx,hy,fun z => h (.inr (.inr (by rw [z])))⟩
def rTake (CN CW : Addr) : Nat → S → List Int → Addr → Prop:=fun n s as c => ∃ a b,as = [a,b] ∧ ((badT n a b ∧ c = CN) ∨ (¬ badT n a b ∧ s.rows a.toNat b.toNat = [] ∧ c = CW))
theorem er_take {f : Addr} {fd : FuncData} (F : Fun K "take" "Hall.take" s_Hall_take f fd) (T : HallC K mg C) (N : XCls K mg "NotNow" CW) (M2 : MtE P w K mg base C.h "need_two" 2 ["self","one","other"] (hrTwo C CN)) (Mw : Mt P w K mg base C.h "works" 3 ["self","one","other"] (spQ2 (hallI K C) qWorks)) : FnOk P w K mg base (CXE P w) 4 f fd ["self","one","other"] (spRef (hallI K C) (rTake CN CW)):=by
  refine F.okE (N:=["self","one","other"]) ⟨rfl,rfl,rfl,by decide +kernel,rfl,by decide +kernel,by decide +kernel⟩ (fun vs H Q E h => ?_) (fun cdv A outer s H vs Q E hr h => ?_)
  · obtain ⟨_,_,_,_,_,_,rfl,_,⟨_,_,rfl,_⟩,_⟩:=h; rfl
  obtain ⟨n,p,s,F,as,c,rfl,At,⟨a,b,rfl,hc⟩,q⟩:=h
  obtain ⟨dx,bd,wy,t,w,r,kvb,kvy,GT,GW,GR,D,eF⟩:=id At
  refine ⟨_,pss_cons (ps_expr (pe_mtE passE M2 T.cl hr (by decide) (pv 0) (pa_cons (pv 1) (pa_cons (pv 2) pa_nil)))) (pss_halt (ps_if (pt_cmpR op_eq (pe_mt Mw T.cl hr (by decide) (pv 0) (pa_cons (pv 1) (pa_cons (pv 2) pa_nil))) pe_int (nomark _)) (pss_one (ps_raise N rfl (pa_cons pe_str pa_nil))) pss_nil)),?_⟩
  refine ⟨_,rfl,p,dx,_,rfl,D.hp,hall_lookup (by decide +kernel),_,rfl,_,rfl,n,p,dx,bd,wy,t,w,r,a,b,rfl,D.hp,fun z => ?_,fun z => ?_⟩
  · rcases hc with ⟨_,rfl⟩ | ⟨y,_⟩
    · exact q H (Same.refl _)
    · exact absurd z y
  · rcases hc with ⟨y,_⟩ | ⟨_,hk,rfl⟩
    · exact absurd y z
    · obtain ⟨x,y,rfl,rfl,hx,hy,hxy⟩:=badT_nat z
      refine ⟨_,rfl,p,dx,_,rfl,D.hp,hall_lookup (by decide +kernel),_,rfl,_,rfl,n,p,s,F,x,y,rfl,At,hx,hy,hxy,fun v H1 s1 e => ?_⟩
      have e : v = .int ((s.rows x y).length : Nat):=e
      have hk : s.rows x y = []:=hk
      rw [hk] at e
      subst e
      refine ⟨rfl,_,rfl,?_⟩
      exact iteT ⟨le1000 (by show 1 ≤ 1000; decide),q H1 s1⟩
def rBack (CN CW : Addr) : Nat → S → List Int → Addr → Prop:=fun n s as c => ∃ a b,as = [a,b] ∧ ((badT n a b ∧ c = CN) ∨ (¬ badT n a b ∧ s.slips a.toNat b.toNat = 0 ∧ c = CW))
theorem er_back {f : Addr} {fd : FuncData} (F : Fun K "back" "Hall.back" s_Hall_back f fd) (T : HallC K mg C) (N : XCls K mg "NotNow" CW) (M2 : MtE P w K mg base C.h "need_two" 2 ["self","one","other"] (hrTwo C CN)) (Mr : Mt P w K mg base C.t "receipts" 1 ["self","one","other"] (tqSlips K C.t)) : FnOk P w K mg base (CXE P w) 3 f fd ["self","one","other"] (spRef (hallI K C) (rBack CN CW)):=by
  refine F.okE (N:=["self","one","other"]) ⟨rfl,rfl,rfl,by decide +kernel,rfl,by decide +kernel,by decide +kernel⟩ (fun vs H Q E h => ?_) (fun cdv A outer s H vs Q E hr h => ?_)
  · obtain ⟨_,_,_,_,_,_,rfl,_,⟨_,_,rfl,_⟩,_⟩:=h; rfl
  obtain ⟨n,p,s,F,as,c,rfl,At,⟨a,b,rfl,hc⟩,q⟩:=h
  obtain ⟨dx,bd,wy,t,w,r,kvb,kvy,GT,GW,GR,D,eF⟩:=id At
  refine ⟨_,pss_cons (ps_expr (pe_mtE passE M2 T.cl hr (by decide) (pv 0) (pa_cons (pv 1) (pa_cons (pv 2) pa_nil)))) (pss_halt (ps_if (pt_cmpR op_eq (pe_mt Mr T.ct hr (by decide) (pe_fld (pv 0) rfl) (pa_cons (pv 1) (pa_cons (pv 2) pa_nil))) pe_int (nomark _)) (pss_one (ps_raise N rfl (pa_cons pe_str pa_nil))) pss_nil)),?_⟩
  refine ⟨_,rfl,p,dx,_,rfl,D.hp,hall_lookup (by decide +kernel),_,rfl,_,rfl,n,p,dx,bd,wy,t,w,r,a,b,rfl,D.hp,fun z => ?_,fun z => ?_⟩
  · rcases hc with ⟨_,rfl⟩ | ⟨y,_⟩
    · exact q H (Same.refl _)
    · exact absurd z y
  · rcases hc with ⟨y,_⟩ | ⟨_,hk,rfl⟩
    · exact absurd y z
    · obtain ⟨x,y,rfl,rfl,hx,hy,hxy⟩:=badT_nat z
      obtain ⟨tdx,tfs,htp,htl⟩:=D.T.ins
      refine ⟨_,rfl,p,C.h,dx,_,_,rfl,D.hp,T.cl,T.tree,rfl,t,tdx,tfs,rfl,htp,htl "receipts" (by decide +kernel) (by decide +kernel) (by decide +kernel),_,rfl,_,rfl,n,t,s,_,x,y,rfl,D.T,fun H1 s1 => ?_⟩
      have hk : s.slips x y = 0:=hk
      rw [hk]
      refine ⟨rfl,_,rfl,?_⟩
      exact iteT ⟨le1000 (by show 1 ≤ 1000; decide),q H1 s1⟩
def rHome (CN CW : Addr) : Nat → S → List Int → Addr → Prop:=fun n s as c => ∃ a,as = [a] ∧ ((badH n a ∧ c = CN) ∨ (¬ badH n a ∧ a = 0 ∧ c = CN) ∨ (¬ badH n a ∧ a ≠ 0 ∧ s.hw a.toNat = [] ∧ c = CW))
theorem er_home {f : Addr} {fd : FuncData} (F : Fun K "home" "Hall.home" s_Hall_home f fd) (T : HallC K mg C) (N0 : XCls K mg "NoHand" CN) (N : XCls K mg "NotNow" CW) (Mh : MtE P w K mg base C.h "need_hand" 1 ["self","hand"] (hrHand C CN)) (Mq : Mt P w K mg base C.w "weights_home" 1 ["self","hand"] (wqHome K C.w)) : FnOk P w K mg base (CXE P w) 2 f fd ["self","hand"] (spRef (hallI K C) (rHome CN CW)):=by
  refine F.okE (N:=["self","hand"]) ⟨rfl,rfl,rfl,by decide +kernel,rfl,by decide +kernel,by decide +kernel⟩ (fun vs H Q E h => ?_) (fun cdv A outer s H vs Q E hr h => ?_)
  · obtain ⟨_,_,_,_,_,_,rfl,_,⟨_,rfl,_⟩,_⟩:=h; rfl
  obtain ⟨n,p,s,F,as,c,rfl,At,⟨a,rfl,hc⟩,q⟩:=h
  obtain ⟨dx,bd,wy,t,w,r,kvb,kvy,GT,GW,GR,D,eF⟩:=id At
  refine ⟨_,pss_cons (ps_expr (pe_mtE passE Mh T.cl hr (by decide) (pv 0) (pa_cons (pv 1) pa_nil))) (pss_cons (ps_if (pt_cmpR op_eq (pv 1) pe_int (nomark _)) (pss_one (ps_raise N0 rfl (pa_cons pe_str pa_nil))) pss_nil)
    (pss_halt (ps_if (pt_cmpR op_eq (pe_callB call_len_seq (by rfl) T.len PySem.boot_len (pa_cons (pe_mt Mq T.cw hr (by decide) (pe_fld (pv 0) rfl) (pa_cons (pv 1) pa_nil)) pa_nil)) pe_int (nomark _)) (pss_one (ps_raise N rfl (pa_cons pe_str pa_nil))) pss_nil))),?_⟩
  refine ⟨_,rfl,p,dx,_,rfl,D.hp,hall_lookup (by decide +kernel),_,rfl,n,p,dx,bd,wy,t,w,r,a,rfl,D.hp,fun z => ?_,fun z => ?_⟩
  · rcases hc with ⟨_,rfl⟩ | ⟨y,_⟩ | ⟨y,_⟩
    · exact q H (Same.refl _)
    · exact absurd z y
    · exact absurd z y
  · refine ⟨_,rfl,rfl,_,rfl,?_⟩
    rcases hc with ⟨y,_⟩ | ⟨_,rfl,rfl⟩ | ⟨_,h0,hk,rfl⟩
    · exact absurd y z
    · rw [decide_eq_true rfl]
      exact iteT ⟨le1000 (by show 1 ≤ 1000; decide),q H (Same.refl _)⟩
    · rw [decide_eq_false (fun y => h0 (V.int.inj y))]
      obtain ⟨x,rfl,hx⟩:=good_nat z
      obtain ⟨tdx,tfs,htp,htl⟩:=D.W.ins
      refine iteF ⟨_,rfl,p,C.h,dx,_,_,rfl,D.hp,T.cl,T.weights,rfl,w,tdx,tfs,rfl,htp,htl "weights_home" (by decide +kernel) (by decide +kernel) (by decide +kernel),_,rfl,n,w,s,_,x,rfl,D.W,fun t' xs H1 s1 h1 h2 => ?_⟩
      have hk : s.hw x = []:=hk
      rw [hk] at h2
      cases h2
      refine ⟨t',_,rfl,.inr h1,rfl,_,rfl,?_⟩
      exact iteT ⟨le1000 (by show 1 ≤ 1000; decide),q H1 s1⟩
def rPass (CW : Addr) : Nat → S → List Int → Addr → Prop:=fun _ s as c => as = [] ∧ s.busy s.place = true ∧ c = CW
theorem er_pass {f : Addr} {fd : FuncData} (F : Fun K "pass_on" "Hall.pass_on" s_Hall_pass_on f fd) (T : HallC K mg C) (TR : RingC K mg C.r) (N : XCls K mg "NotNow" CW) : FnOk P w K mg base (CXE P w) 1 f fd ["self"] (spRef (hallI K C) (rPass CW)):=by
  refine F.okE (N:=["self"]) ⟨rfl,rfl,rfl,by decide +kernel,rfl,by decide +kernel,by decide +kernel⟩ (fun vs H Q E h => ?_) (fun cdv A outer s H vs Q E hr h => ?_)
  · obtain ⟨_,_,_,_,_,_,rfl,_,⟨rfl,_⟩,_⟩:=h; rfl
  obtain ⟨n,p,s,F,as,c,rfl,At,⟨rfl,hk,rfl⟩,q⟩:=h
  obtain ⟨dx,bd,wy,t,w,r,kvb,kvy,GT,GW,GR,D,eF⟩:=id At
  refine ⟨_,pss_halt (ps_if (pt_cmp (pc_din (hu_of hr) (pe_fld (pe_fld (pv 0) rfl) rfl) (pe_fld (pv 0) rfl)) rfl) (pss_one (ps_raise N rfl (pa_cons pe_str pa_nil))) pss_nil),?_⟩
  obtain ⟨rdx,rfs,hrp,hrl,hpl,_⟩:=D.R.ins
  refine ⟨_,rfl,p,C.h,dx,_,_,rfl,D.hp,T.cl,T.ring,rfl,r,C.r,rdx,rfs,_,rfl,hrp,T.cr,TR.place,hpl,_,rfl,p,C.h,dx,_,_,rfl,D.hp,T.cl,T.busy,rfl,bd,_,rfl,DGet.k (k:=kI s.place) D.hb,_,rfl,?_⟩
  rw [D.tb.val,hk]
  exact iteT ⟨le1000 (by show 1 ≤ 1000; decide),q H (Same.refl _)⟩
end
end Qh
set_option Elab.async false
set_option linter.all false
set_option maxRecDepth 100000
namespace Qh
open PySem L2 PySem.SeqAt
inductive De where
  | int (i : Int) | bl (b : Bool) | str (s : Str) | non | wt (x : Nat) | tup (l : List De) | lst (l : List De)
mutual
inductive Dn (K : PySem.W.Frag) (H : Hp) : Nat → De → V → Prop
  | int (k : Nat) (i : Int) : Dn K H k (.int i) (.int i)
  | bl (k : Nat) (b : Bool) : Dn K H k (.bl b) (.bl b)
  | str (k : Nat) (s : Str) : Dn K H k (.str s) (.str s)
  | non (k : Nat) : Dn K H k .non .non
  | wt {k : Nat} {x : Nat} {v : V} : WV K H v x → Dn K H (k + 1) (.wt x) v
  | tup {k : Nat} {l : List De} {a : Addr} {xs : List V} : SqT K H a xs → Dns K H k l xs → Dn K H (k + 1) (.tup l) (.ref a)
  | lst {k : Nat} {l : List De} {a : Addr} {xs : List V} : SqL K H a xs → Dns K H k l xs → Dn K H (k + 1) (.lst l) (.ref a)
inductive Dns (K : PySem.W.Frag) (H : Hp) : Nat → List De → List V → Prop
  | nil (k : Nat) : Dns K H k [] []
  | cons {k : Nat} {d : De} {v : V} {l : List De} {xs : List V} : Dn K H k d v → Dns K H k l xs → Dns K H k (d :: l) (v :: xs)
end
mutual
theorem Dn.same {K : PySem.W.Frag} {H H' : Hp} (e : Same H H') : ∀ {k : Nat} {d : De} {v : V},Dn K H k d v → Dn K H' k d v
  | _,_,_,.int k i => .int k i
  | _,_,_,.bl k i => .bl k i
  | _,_,_,.str k i => .str k i
  | _,_,_,.non k => .non k
  | _,_,_,.wt h => .wt (h.same e)
  | _,_,_,.tup h t => .tup (Same.tup e h) (Dns.same e t)
  | _,_,_,.lst h t => .lst (e.seq h) (Dns.same e t)
theorem Dns.same {K : PySem.W.Frag} {H H' : Hp} (e : Same H H') : ∀ {k : Nat} {l : List De} {xs : List V},Dns K H k l xs → Dns K H' k l xs
  | _,_,_,.nil k => .nil k
  | _,_,_,.cons h t => .cons (Dn.same e h) (Dns.same e t)
end
theorem Dns.length {K : PySem.W.Frag} {H : Hp} : ∀ {k : Nat} {l : List De} {xs : List V},Dns K H k l xs → l.length = xs.length
  | _,_,_,.nil _ => rfl
  | _,_,_,.cons _ t => by rw [List.length_cons,List.length_cons,t.length]
theorem Dns.snoc {K : PySem.W.Frag} {H : Hp} {d : De} {v : V} : ∀ {k : Nat} {l : List De} {xs : List V},Dns K H k l xs → Dn K H k d v → Dns K H k (l ++ [d]) (xs ++ [v])
  | _,_,_,.nil _,h => .cons h (.nil _)
  | _,_,_,.cons h t,h' => .cons h (t.snoc h')
theorem Dns.of_paired {α : Type} {K : PySem.W.Frag} {H : Hp} {k : Nat} {f : α → De} : ∀ {l : List α} {xs : List V},Paired (fun a v => Dn K H k (f a) v) l xs → Dns K H k (l.map f) xs
  | _,_,.nil => .nil _
  | _,_,.cons h t => .cons h (Dns.of_paired t)
theorem Dns.get {K : PySem.W.Frag} {H : Hp} : ∀ {k : Nat} {l : List De} {xs : List V} {i : Nat} {d : De} {v : V},Dns K H k l xs → l[i]? = some d → xs[i]? = some v → Dn K H k d v
  | _,_,_,_,_,_,.nil _,e,_ => by simp at e
  | _,_,_,0,_,_,.cons h _,e,e' => by simp at e e'; subst e e'; exact h
  | _,_,_,i + 1,_,_,.cons _ t,e,e' => Dns.get (i:=i) t (by simpa using e) (by simpa using e')
theorem Vals.get? : ∀ {xs : List V} {us : List Value} {i : Nat} {u : Value},Vals xs us → us[i]? = some u → ∃ x,xs[i]? = some x ∧ RelV x u
  | _,_,_,_,.nil,e => by simp at e
  | _,_,0,_,.cons r _,e => by simp at e; subst e; exact ⟨_,rfl,r⟩
  | _,_,i + 1,_,.cons _ t,e => by
    obtain ⟨x,q,r⟩:=Vals.get? (i:=i) t (by simpa using e)
    exact ⟨x,by simpa using q,r⟩
section
variable {X : Cx} {pins : List (Addr × Obj)} {σ : St} {H : Hp} {s : Shared}
theorem all_true (n : Nat) : (List.range n).all (fun _ => true) = true:=List.all_eq_true.mpr fun _ _ => rfl
theorem dn_items {A : Around} {xs ys : List V} {us vs : List Value} (hx : Vals xs us) (hy : Vals ys vs) (hl : xs.length = ys.length)
    (h : ∀ (i : Nat) (x y : V) (u v : Value),xs[i]? = some x → ys[i]? = some y → RelV x u → RelV y v → EqAt A s u v true) : ∀ j (h1 : j < us.toArray.size) (h2 : j < vs.toArray.size),EqAt A s us.toArray[j] vs.toArray[j] true:=fun j h1 h2 => by
  rw [List.size_toArray] at h1 h2
  obtain ⟨x,ex,rx⟩:=Vals.get? hx (List.getElem?_eq_getElem h1)
  obtain ⟨y,ey,ry⟩:=Vals.get? hy (List.getElem?_eq_getElem h2)
  rw [List.getElem_toArray,List.getElem_toArray]
  exact h j x y _ _ ex ey rx ry
theorem tup_rc {A : Around} {a b : Addr} {xs ys : List V} (I : Inv X pins σ H s) (ha : SqT X.K H a xs) (hb : SqT X.K H b ys) (hl : xs.length = ys.length) (hu : A.units < cLine)
    (h : ∀ (i : Nat) (x y : V) (u v : Value),xs[i]? = some x → ys[i]? = some y → RelV x u → RelV y v → EqAt A.in1 s u v true) : RcAt A s (.ref a) (.ref b) true ∧ RcNeAt A s (.ref a) (.ref b) false:=by
  obtain ⟨us,ru,pu,_⟩:=I.tuple ha
  obtain ⟨vs,rv,pv,_⟩:=I.tuple hb
  have e : us.toArray.size = vs.toArray.size:=by rw [List.size_toArray,List.size_toArray,← ru.length,← rv.length,hl]
  have it:=dn_items (s:=s) ru rv hl h
  have z1:=RcAt.tuples (e:=fun _ => true) pu pv hu it
  have z2:=RcNeAt.tuples (e:=fun _ => true) pu pv hu it
  rw [all_true,e,beq_self_eq_true] at z1 z2
  exact ⟨z1,z2⟩
theorem lst_rc {A : Around} {a b : Addr} {xs ys : List V} (I : Inv X pins σ H s) (ha : SqL X.K H a xs) (hb : SqL X.K H b ys) (hl : xs.length = ys.length) (hu : A.units < cLine)
    (h : ∀ (i : Nat) (x y : V) (u v : Value),xs[i]? = some x → ys[i]? = some y → RelV x u → RelV y v → EqAt A.in1 s u v true) : RcAt A s (.ref a) (.ref b) true ∧ RcNeAt A s (.ref a) (.ref b) false:=by
  obtain ⟨us,ru,pu,_⟩:=I.list ha
  obtain ⟨vs,rv,pv,_⟩:=I.list hb
  have e : us.toArray.size = vs.toArray.size:=by rw [List.size_toArray,List.size_toArray,← ru.length,← rv.length,hl]
  have it:=dn_items (s:=s) ru rv hl h
  have z1:=RcAt.lists (e:=fun _ => true) pu.isList pv.isList e hu it
  have z2:=RcNeAt.lists (e:=fun _ => true) pu.isList pv.isList e hu it
  rw [all_true] at z1 z2
  exact ⟨z1,z2⟩
theorem eq_refs {A : Around} {a b : Addr} (h : RcAt A s (.ref a) (.ref b) true) : EqAt A s (.ref a) (.ref b) true:=by
  by_cases z : a = b
  · subst z; exact EqAt.same _
  · exact EqAt.of_refs z h
theorem eq_int {A : Around} {i : Int} {u v : Value} (r : RelV (.int i) u) (q : RelV (.int i) v) : EqAt A s u v true:=by
  obtain ⟨t,rfl⟩:=r
  obtain ⟨t',rfl⟩:=q
  have:=EqAt.int_int (A:=A) (s:=s) i t i t'
  rw [beq_self_eq_true] at this; exact this
theorem eq_str {A : Around} {i : Str} {u v : Value} (r : RelV (.str i) u) (q : RelV (.str i) v) : EqAt A s u v true:=by
  obtain ⟨t,rfl⟩:=r
  obtain ⟨t',rfl⟩:=q
  have:=EqAt.str_str (A:=A) (s:=s) i t i t'
  rw [beq_self_eq_true] at this; exact this
theorem wt_rc {A : Around} {x : Nat} {v w : V} {p q : Value} (I : Inv X pins σ H s) (h1 : WV X.K H v x) (h2 : WV X.K H w x) (r1 : RelV v p) (r2 : RelV w q) (hu : A.units < cLine) : ∃ a b,p = .ref a ∧ q = .ref b ∧ RcAt A s (.ref a) (.ref b) true ∧ RcNeAt A s (.ref a) (.ref b) false:=by
  obtain ⟨a,u1,p1,rfl,t1,w1⟩:=h1
  obtain ⟨b,u2,p2,rfl,t2,w2⟩:=h2
  obtain ⟨rfl,rfl⟩:=w1.unique w2
  refine ⟨a,b,r1,r2,tup_rc I t1.sq t2.sq rfl hu fun i x y u v ex ey rx ry => ?_⟩
  match i,ex,ey with
  | 0,ex,ey => cases ex; cases ey; exact eq_int rx ry
  | 1,ex,ey => cases ex; cases ey; exact eq_int rx ry
theorem dn_eq : ∀ (k : Nat) {A : Around} {d : De} {x y : V} {u v : Value},Inv X pins σ H s → A.units + k ≤ cLine → Dn X.K H k d x → Dn X.K H k d y → RelV x u → RelV y v → EqAt A s u v true:=by
  intro k
  induction k with
  | zero =>
    intro A d x y u v I hu hx hy rx ry
    cases hx with
    | int => cases hy; exact eq_int rx ry
    | bl => cases hy; cases rx; cases ry; exact EqAt.same _
    | str => cases hy; exact eq_str rx ry
    | non => cases hy; cases rx; cases ry; exact EqAt.same _
  | succ k ih =>
    intro A d x y u v I hu hx hy rx ry
    have hu1 : A.units < cLine:=by omega
    have hu2 : A.in1.units + k ≤ cLine:=by show A.units + 1 + k ≤ cLine; omega
    cases hx with
    | int => cases hy; exact eq_int rx ry
    | bl => cases hy; cases rx; cases ry; exact EqAt.same _
    | str => cases hy; exact eq_str rx ry
    | non => cases hy; cases rx; cases ry; exact EqAt.same _
    | wt h1 =>
      cases hy with
      | wt h2 =>
        obtain ⟨a,b,rfl,rfl,h,_⟩:=wt_rc I h1 h2 rx ry hu1
        exact eq_refs h
    | tup h1 t1 =>
      cases hy with
      | tup h2 t2 =>
        cases rx; cases ry
        refine eq_refs (tup_rc I h1 h2 (by rw [← t1.length,t2.length]) hu1 fun i x y u v ex ey rx ry => ?_).1
        have hi:=(List.getElem?_eq_some_iff.mp ex).1
        rw [← t1.length] at hi
        have ed:=List.getElem?_eq_getElem hi
        exact ih I hu2 (t1.get ed ex) (t2.get ed ey) rx ry
    | lst h1 t1 =>
      cases hy with
      | lst h2 t2 =>
        cases rx; cases ry
        refine eq_refs (lst_rc I h1 h2 (by rw [← t1.length,t2.length]) hu1 fun i x y u v ex ey rx ry => ?_).1
        have hi:=(List.getElem?_eq_some_iff.mp ex).1
        rw [← t1.length] at hi
        have ed:=List.getElem?_eq_getElem hi
        exact ih I hu2 (t1.get ed ex) (t2.get ed ey) rx ry
def De.big : De → Bool
  | .wt _ | .tup _ | .lst _ => true
  | _ => false
theorem dn_rc {k : Nat} {A : Around} {d : De} {x y : V} {u v : Value} (hd : d.big = true) (I : Inv X pins σ H s) (hu : A.units + k ≤ cLine) (hx : Dn X.K H k d x) (hy : Dn X.K H k d y) (rx : RelV x u) (ry : RelV y v) : RcAt A s u v true ∧ RcNeAt A s u v false:=by
  cases k with
  | zero => cases hx <;> cases hd
  | succ k =>
    have hu1 : A.units < cLine:=by omega
    have hu2 : A.in1.units + k ≤ cLine:=by show A.units + 1 + k ≤ cLine; omega
    cases hx with
    | wt h1 =>
      cases hy with
      | wt h2 =>
        obtain ⟨a,b,rfl,rfl,h⟩:=wt_rc I h1 h2 rx ry hu1
        exact h
    | tup h1 t1 =>
      cases hy with
      | tup h2 t2 =>
        cases rx; cases ry
        refine tup_rc I h1 h2 (by rw [← t1.length,t2.length]) hu1 fun i x y u v ex ey rx ry => ?_
        have hi:=(List.getElem?_eq_some_iff.mp ex).1
        rw [← t1.length] at hi
        have ed:=List.getElem?_eq_getElem hi
        exact dn_eq k I hu2 (t1.get ed ex) (t2.get ed ey) rx ry
    | lst h1 t1 =>
      cases hy with
      | lst h2 t2 =>
        cases rx; cases ry
        refine lst_rc I h1 h2 (by rw [← t1.length,t2.length]) hu1 fun i x y u v ex ey rx ry => ?_
        have hi:=(List.getElem?_eq_some_iff.mp ex).1
        rw [← t1.length] at hi
        have ed:=List.getElem?_eq_getElem hi
        exact dn_eq k I hu2 (t1.get ed ex) (t2.get ed ey) rx ry
    | _ => cases hd
def rAl (K : PySem.W.Frag) (k : Nat) (b : Bool) : R2:=fun x y H Q => ∃ d : De,d.big = true ∧ Dn K H k d x ∧ Dn K H k d y ∧ Q (.bl b) H
theorem op_eqAl (K : PySem.W.Frag) (hK : X.K = K) {k : Nat} (hu : X.A.units + k ≤ cLine) : OpR X (compareOp .Eq) (rAl K k true):=by
  subst hK
  intro pins s σ H x y v u Q I rx ry h
  obtain ⟨d,hd,hx,hy,q⟩:=h
  exact (dn_rc hd I hu hx hy rx ry).1 _ _ _ _ ⟨.bl true,H,I,rfl,q⟩
theorem huD {A : Around} {k : Nat} (hr : Room k A) : A.units + 9 ≤ cLine:=by have:=hr.un; omega
theorem wl_dns {K : PySem.W.Frag} {H : Hp} {k : Nat} : ∀ {vs : List V} {xs : List Nat},WL K H vs xs → Dns K H (k + 1) (xs.map De.wt) vs
  | _,_,.nil => .nil _
  | _,_,.cons h t => .cons (.wt h) (wl_dns t)
end
end Qh
set_option Elab.async false
set_option linter.all false
set_option maxRecDepth 100000
namespace Qh
open PySem L2 Tx
section
variable {P : Program} {w : World} {K : PySem.W.Frag} {mg : Str → Option Value} {base : Heap} {C : Addr}
theorem k_tup {X : Cx} {pos : Pos} (K : PySem.W.Frag) (h : X.K = K) {es : List Expr} {k : Nat} {t : TGs} {n : Nat} (hc : X.calm = true) (hg : PGs X es t) (hn : (assignEach es X.env).length = n:=by rfl) (hst : (assignEach es X.env).findIdx? (·.1) = none:=by rfl) : PG X (.Tuple es k pos) (gTup K n t):=h ▸ pg_tup hc hg hn hst
theorem comp_all {α : Type} {J : It} {g : TG} {te : TE} {D : Addr} {H : Hp} {Q : VK} {xs : List V} {σ0 : St} (items : List α) (Rel : Hp → α → V → Prop) (mono : ∀ H H' it v,Rel H it v → NonL H H' → Rel H' it v) (S0 : St → Prop) (W : Wk J H xs) (hD : H D = none) (hl : items.length = xs.length) (hn : xs.length ≤ 10000) (h0 : S0 σ0)
    (he : ∀ (i : Nat) it x σ H3 (R : St → V → Hp → Prop),items[i]? = some it → xs[i]? = some x → Same H H3 → S0 σ → (∀ σ' v H4,S0 σ' → Same H3 H4 → Rel H4 it v → R σ' v H4) → g x σ H3 fun σ3 H4 => te σ3 H4 fun v H5 => R σ3 v H5)
    (hq : ∀ ys H',Same H H' → H' D = some (.lst ys) → Paired (Rel H') items ys → Q (.ref D) H') : CLoop J g tAll te D σ0 (upd H D (.lst [])) Q:=by
  have s0 : Same H (upd H D (.lst [])):=fun b o e => by rw [upd_ne (ne_of_none e hD)]; exact e
  refine ⟨fun i m ys σ H3 => m = xs.length - i ∧ i ≤ xs.length ∧ S0 σ ∧ Same H H3 ∧ H3 D = some (.lst ys) ∧ Paired (Rel H3) (items.take i) ys,⟨xs.length,by simp,Nat.zero_le _,h0,s0,upd_same,.nil⟩,?_⟩
  rintro i m ys σ H3 ⟨rfl,hi,hσ,s3,h3,p3⟩
  by_cases hlt : i < xs.length
  · obtain ⟨go,yld⟩:=W.go i H3 s3 hlt
    have hyl : ys.length ≤ i:=by
      have a:=Paired.length p3
      rw [List.length_take] at a
      omega
    refine .inr ⟨go,Nat.lt_of_le_of_lt (show ys.length ≤ 10000 by omega) (by decide),fun ys σ H3 => i + 1 ≤ xs.length ∧ S0 σ ∧ Same H H3 ∧ H3 D = some (.lst ys) ∧ Paired (Rel H3) (items.take (i + 1)) ys,fun ys σ H z => ⟨xs.length - (i + 1),by omega,rfl,z⟩,fun x H2 y => ?_⟩
    obtain ⟨e2,ex⟩:=yld x H2 y
    subst e2
    have hil : i < items.length:=by omega
    have ei : items[i]? = some items[i]:=List.getElem?_eq_getElem hil
    have et : items.take (i + 1) = items.take i ++ [items[i]]:=by rw [List.take_add_one,ei]; rfl
    rw [et]
    have key:=he i items[i] x σ H2 (fun σ3 v H5 => H5 D = some (.lst ys) ∧ i + 1 ≤ xs.length ∧ S0 σ3 ∧ Same H (upd H5 D (.lst (ys ++ [v]))) ∧ upd H5 D (.lst (ys ++ [v])) D = some (.lst (ys ++ [v])) ∧ Paired (Rel (upd H5 D (.lst (ys ++ [v])))) (items.take i ++ [items[i]]) (ys ++ [v])) ei ex s3 hσ fun σ' v H5 hσ' s5 h5 => ?_
    · unfold CTurn tAll
      simp only [if_true]
      exact key
    · have d5:=s5 D _ h3
      have kp : NonL H5 (upd H5 D (.lst (ys ++ [v]))):=fun b o q z => by rw [upd_ne (ne_of q d5 (z _))]; exact q
      refine ⟨d5,by omega,hσ',fun b o q => ?_,upd_same,Paired.snoc (Paired.mapP p3 fun it u r => mono _ _ it u (mono _ _ it u r (.of s5)) kp) (mono _ _ _ _ h5 kp)⟩
      rw [upd_ne (ne_of_none q hD)]; exact s5 b o (s3 b o q)
  · have e : i = xs.length:=by omega
    subst e
    refine .inl ⟨W.stop H3 s3,hq ys H3 s3 h3 ?_⟩
    rw [← hl,List.take_length] at p3
    exact p3
theorem rows_get {n : Nat} {i : Nat} {r : Nat × Nat} (e : (roads n)[i]? = some r) : ((roads n).map rv)[i]? = some (rv r):=by rw [List.getElem?_map,e]; rfl
end
end Qh
set_option Elab.async false
set_option linter.all false
set_option maxRecDepth 100000
namespace Qh
open PySem L2 Tx
inductive Reach (n : Nat) : S → Nat → S → Nat → Prop
  | refl (s : S) (m : Nat) : Reach n s m s m
  | step {s s' : S} {m m' : Nat} {c : Act} : Reach n s m s' m' → Can n s' c → Reach n s m (Qh.step n s' c) (bump m' c)
end Qh
set_option Elab.async false
set_option linter.all false
set_option maxRecDepth 100000
namespace Qh
open PySem L2 Tx
section
variable {P : Program} {w : World} {K : PySem.W.Frag} {mg : Str → Option Value} {base : Heap} {C : Addr}
def spPlay (I : HallI K C) : Sp:=fun vs H Q _ => ∃ (n : Nat) (p l : Addr) (s : S) (F : Addr → Prop) (m : Nat) (cs : List Int),vs = [.ref p,.int n,.ref l] ∧ H l = some (.lst (cs.map V.int)) ∧ ¬ F l ∧ I.At n H p s F ∧ 1 ≤ n ∧ n ≤ 6 ∧ Good n s m ∧ m + cs.length ≤ 60 ∧
  ∀ H' F' s' m',I.At n H' p s' F' → Kept H H' F F' → Good n s' m' → m' ≤ m + cs.length → Reach n s m s' m' → Q .non H'
abbrev N_play : List Str:=["_law_hall","_law_many_here","_law_cells","_law_cell_here","_law_act_here"]
theorem sc_play : FnScope N_play ["_law_hall","_law_many_here","_law_cells"] (defScope s__law_play):=⟨rfl,rfl,rfl,by decide +kernel,rfl,by decide +kernel,by decide +kernel⟩
theorem ok_play {f : Addr} {fd : FuncData} {I : HallI K C} (F : Fun K "_law_play" "_law_play" s__law_play f fd) (Fact : Fn P w K mg base "_law_act" 12 ["_law_hall","_law_many_here","_law_cell_here"] (spActL I)) (Fdo : Fn P w K mg base "_law_do" 11 ["_law_hall","_law_act_here"] (spDo I)) :
    FnOk P w K mg base CX0 13 f fd ["_law_hall","_law_many_here","_law_cells"] (spPlay I):=by
  refine F.ok sc_play (fun vs H Q E h => ?_) (fun cdv A outer s0 H vs Qq E hr h => ?_)
  · obtain ⟨_,_,_,_,_,_,_,rfl,_⟩:=h; rfl
  obtain ⟨n,p,l,s,Ft,m,cs,rfl,hl,nf,at0,hn1,hn6,good,hm,q⟩:=h
  refine ⟨_,pss_cons (ps_for PassesOwn.never rfl (pi_list (pv 2)) (pg_name (i:=3) sc_play.nd rfl (Or.inl rfl))
      (pss_cons (ps_set (i:=4) sc_play.nd rfl (Or.inl rfl) (pe_fn Fact hr (by decide) (pa_cons (pv 0) (pa_cons (pv 1) (pa_cons (pv 3) pa_nil)))))
      (pss_one (ps_if (pt_cmp (pc_notN (pv 4))) (pss_one (ps_expr (pe_fn Fdo hr (by decide) (pa_cons (pv 0) (pa_cons (pv 4) pa_nil))))) pss_nil))))
    (pss_one (ps_ret pe_non)),?_⟩
  refine ⟨_,rfl,l,rfl,⟨_,SqL.of hl⟩,?_⟩
  refine for_list (xs:=cs.map V.int) (fun i σ H2 => ∃ (s' : S) (m' : Nat) (F' : Addr → Prop) (v3 v4 : Option V),σ = [some (.ref p),some (.int n),some (.ref l),v3,v4] ∧ I.At n H2 p s' F' ∧ Kept H H2 Ft F' ∧ Good n s' m' ∧ m' ≤ m + i ∧ Reach n s m s' m') ?_ ?_ ?_ ?_
  · exact ⟨s,m,Ft,none,none,rfl,at0,Kept.refl _ _,good,Nat.le_refl _,.refl _ _⟩
  · rintro i σ H2 _ ⟨s',m',F',v3,v4,rfl,_,k,_⟩
    exact SqL.of (k.keep l _ hl nf)
  · rintro i y σ H2 ey ⟨s',m',F',v3,v4,rfl,at2,k2,good2,hm2,r2⟩
    have hi : i < cs.length:=by have:=(List.getElem?_eq_some_iff.mp ey).1; rw [List.length_map] at this; exact this
    rw [List.getElem?_map,List.getElem?_eq_getElem hi] at ey
    cases ey
    dsimp only [gName]
    generalize cs[i] = cell
    refine seq_mid (fun σ H3 => ∃ v : V,σ = [some (.ref p),some (.int n),some (.ref l),some (.int cell),some v] ∧ Same H2 H3 ∧ (v = .non ∨ ∃ t c,v = .ref t ∧ H3 t = some (.tup (actV c)) ∧ Can n s' c)) (fun U hU => ?_) ?_
    · refine ⟨_,rfl,_,rfl,_,rfl,n,p,s',F',cell,rfl,at2,hn1,hn6,good2.ring.plc,fun H3 s3 => ?_,fun t c H3 s3 h3 hc => ?_⟩
      · exact hU _ _ ⟨.non,rfl,s3,.inl rfl⟩
      · exact hU _ _ ⟨.ref t,rfl,s3,.inr ⟨t,c,rfl,h3,hc⟩⟩
    rintro σ H3 ⟨v,rfl,s3,hv⟩
    refine ⟨_,rfl,_,rfl,?_⟩
    rcases hv with rfl | ⟨t,c,rfl,ht,hc⟩
    · exact iteF ⟨s',m',F',_,_,rfl,I.same at2 s3,Kept.trans k2 (Kept.same s3 _),good2,by omega,r2⟩
    · refine iteT ?_
      have hb:=bump_up m' c
      refine ⟨_,rfl,_,rfl,n,p,t,s',F',c,m',rfl,SqT.of ht,I.same at2 s3,hc,good2,by omega,fun H5 F5 at5 k5 => ?_⟩
      exact ⟨step n s' c,bump m' c,F5,_,_,rfl,at5,Kept.trans k2 (Kept.trans (Kept.same s3 _) k5),step_good good2 (by omega) hc,by omega,.step r2 hc⟩
  · rintro σ H2 ⟨s',m',F',v3,v4,rfl,at2,k2,good2,hm2,r2⟩
    rw [List.length_map] at hm2
    exact q H2 F' s' m' at2 k2 good2 hm2 r2
end
end Qh
set_option Elab.async false
set_option linter.all false
set_option maxRecDepth 100000
namespace Qh
open PySem L2 Tx
def mns (H : Hp) (L : Addr) : Hp:=fun b => if b = L then none else H b
theorem mns_ne {H : Hp} {L b : Addr} (h : b ≠ L) : mns H L b = H b:=by unfold mns; rw [if_neg h]
theorem mns_same (H : Hp) (L : Addr) : Same (mns H L) H:=fun b o e => by
  unfold mns at e
  split at e
  · cases e
  · exact e
theorem mns_mono {H H' : Hp} (L : Addr) (e : Same H H') : Same (mns H L) (mns H' L):=fun b o z => by
  unfold mns at z ⊢
  split at z
  · cases z
  · rename_i n; rw [if_neg n]; exact e b o z
theorem mns_upd (H : Hp) (L : Addr) (x : HO) : mns (upd H L x) L = mns H L:=by
  funext b
  unfold mns
  by_cases z : b = L
  · rw [if_pos z,if_pos z]
  · rw [if_neg z,if_neg z,upd_ne z]
theorem sqT_mns {K : PySem.W.Frag} {H : Hp} {L t : Addr} {ys xs : List V} (hL : H L = some (.lst ys)) (h : SqT K H t xs) : SqT K (mns H L) t xs:=by
  rcases h with (h | ⟨o,h⟩) | h
  · exact .inl (.inl (by rw [mns_ne (ne_of h hL (by intro z; cases z))]; exact h))
  · exact .inl (.inr ⟨o,by rw [mns_ne (ne_of h hL (by intro z; cases z))]; exact h⟩)
  · exact .inr h
theorem wl_mns {K : PySem.W.Frag} {H : Hp} {L : Addr} {ys vs : List V} {xs : List Nat} (hL : H L = some (.lst ys)) (h : WL K H vs xs) : WL K (mns H L) vs xs:=h.keep fun b zs e => by rw [mns_ne (ne_of e hL (by intro z; cases z))]; exact e
theorem wv_mns {K : PySem.W.Frag} {H : Hp} {L : Addr} {ys : List V} {v : V} {x : Nat} (hL : H L = some (.lst ys)) (h : WV K H v x) : WV K (mns H L) v x:=h.keep fun b zs e => by rw [mns_ne (ne_of e hL (by intro z; cases z))]; exact e
theorem sqT_nonL {K : PySem.W.Frag} {H H' : Hp} {t : Addr} {xs : List V} (e : NonL H H') (h : SqT K H t xs) : SqT K H' t xs:=by
  rcases h with (h | ⟨o,h⟩) | h
  · exact .inl (.inl (e _ _ h (fun _ z => by cases z)))
  · exact .inl (.inr ⟨o,e _ _ h (fun _ z => by cases z)⟩)
  · exact .inr h
theorem wl_nonL {K : PySem.W.Frag} {H H' : Hp} {vs : List V} {xs : List Nat} (e : NonL H H') (h : WL K H vs xs) : WL K H' vs xs:=h.keep fun b zs z => e _ _ z (fun _ y => by cases y)
def optD : Option Nat → De
  | none => .non
  | some p => .int p
theorem opt_dn {K : PySem.W.Frag} {H : Hp} (k : Nat) (o : Option Nat) : Dn K H k (optD o) (optV o):=by
  cases o with
  | none => exact .non k
  | some p => exact .int k _
open Classical in
noncomputable def quietB (n : Nat) (s : S) : Bool:=decide (Quiet n s)
theorem quietB_of {n : Nat} {s : S} {b : Bool} (h : b = true ↔ Quiet n s) : b = quietB n s:=by
  unfold quietB
  classical
  by_cases q : Quiet n s
  · rw [decide_eq_true q]; exact h.mpr q
  · rw [decide_eq_false q]
    cases b with
    | false => rfl
    | true => exact absurd (h.mp rfl) q
def dHand (s : S) (k : Nat) : List De:=[.tup [.int (s.due k : Nat),optD (s.over k),.wt (s.held k),.tup ((s.hw k).map De.wt)],.tup [.int (s.cnt k),.str (colour (s.black k))]]
noncomputable def dTop (n : Nat) (s : S) : List De:=[.tup ((workers n s).map fun k => De.int (k : Nat)),.bl (quietB n s),.tup [.int (s.place : Nat),.int s.tcnt,.str (colour s.tblack)],.tup [.bl (treeTells s),.bl (weightsTell s),.bl s.found],
  .lst ((roads n).map fun r => De.int ((s.rows r.1 r.2).length : Nat)),.lst ((roads n).map fun r => De.int (s.slips r.1 r.2 : Nat)),.lst ((roads n).map fun r => De.tup ((s.rows r.1 r.2).map De.wt))]
noncomputable def dShown (n : Nat) (s : S) : De:=.lst (dTop n s ++ (List.range n).flatMap (dHand s))
theorem ints_dns2 {α : Type} {K : PySem.W.Frag} {H : Hp} {k : Nat} (f : α → Int) : ∀ (l : List α),Dns K H k (l.map fun x => De.int (f x)) (l.map fun x => V.int (f x))
  | [] => .nil _
  | x :: l => .cons (.int _ _) (ints_dns2 f l)
section
variable {P : Program} {w : World} {K : PySem.W.Frag} {mg : Str → Option Value} {base : Heap} {C : Addr}
structure Sho (K : PySem.W.Frag) (H0 H : Hp) (L : Addr) (ds : List De) (m : Nat) : Prop where
  new : H0 L = none
  ex : ∃ xs,H L = some (.lst xs) ∧ Dns K (mns H L) 8 ds xs
  same : Same H0 H
  few : ds.length = m
theorem Sho.grow {H0 H H' : Hp} {L : Addr} {ds : List De} {m : Nat} (h : Sho K H0 H L ds m) (e : Same H H') : Sho K H0 H' L ds m :=
  let ⟨xs,a,b⟩:=h.ex; ⟨h.new,⟨xs,e _ _ a,b.same (mns_mono L e)⟩,h.same.trans e,h.few⟩
theorem Sho.add {H0 H : Hp} {L : Addr} {ds : List De} {m : Nat} {xs : List V} {d : De} {v : V} (h : Sho K H0 H L ds m) (a : H L = some (.lst xs)) (hd : Dn K (mns H L) 8 d v) : Sho K H0 (upd H L (.lst (xs ++ [v]))) L (ds ++ [d]) (m + 1):=by
  obtain ⟨ys,a',b⟩:=h.ex
  rw [a] at a'
  cases a'
  refine ⟨h.new,⟨_,upd_same,by rw [mns_upd]; exact b.snoc hd⟩,fun c o e => ?_,by rw [List.length_append,h.few]; rfl⟩
  rw [upd_ne (ne_of_none e h.new)]; exact h.same c o e
theorem Sho.len {H0 H : Hp} {L : Addr} {ds : List De} {m : Nat} {xs : List V} (h : Sho K H0 H L ds m) (a : H L = some (.lst xs)) (hm : m ≤ 900) : xs.length < sizeLine:=by
  obtain ⟨ys,a',b⟩:=h.ex
  rw [a] at a'
  cases a'
  have:=b.length
  have:=h.few
  exact small1000 (by omega)
def spShown (I : HallI K C) : Sp:=fun vs H Q _ => ∃ (n : Nat) (p : Addr) (s : S) (F : Addr → Prop) (m : Nat),vs = [.ref p,.int n] ∧ I.At n H p s F ∧ 2 ≤ n ∧ n ≤ 6 ∧ Good n s m ∧ m ≤ 60 ∧ ∀ (l : Addr) (H' : Hp),H l = none → Same H H' → Dn K H' 9 (dShown n s) (.ref l) → Q (.ref l) H'
abbrev N_sh : List Str:=["_law_hall","_law_many_here","_law_roads_here","_law_found","_law_hand"]
theorem sc_sh : FnScope N_sh ["_law_hall","_law_many_here"] (defScope s__law_shown):=⟨rfl,rfl,rfl,by decide +kernel,rfl,by decide +kernel,by decide +kernel⟩
theorem sh_comp {I : HallI K C} {n : Nat} {p lr L : Addr} {s : S} {F : Addr → Prop} {rs : List V} {H0 H : Hp} {ds : List De} {m : Nat} {v4 : Option V} {D : Ends} {te : TE} (f : Nat × Nat → De) (Rel : Hp → Nat × Nat → V → Prop) (mono : ∀ H H' it v,Rel H it v → NonL H H' → Rel H' it v)
    (dn : ∀ H ys r v,H L = some (.lst ys) → Rel H r v → Dn K (mns H L) 7 (f r) v) (at0 : I.At n H0 p s F) (hn6 : n ≤ 6) (hr0 : H0 lr = some (.lst rs)) (pr0 : TL H0 ((roads n).map rv) rs) (hS : Sho K H0 H L ds m) (hm : m ≤ 900)
    (he : ∀ (r : Nat × Nat) (H3 : Hp) (R : VK),r ∈ roads n → I.At n H3 p s F → (∀ v H4,Same H3 H4 → Rel H4 r v → R v H4) → te [some (.int (r.1 : Nat)),some (.int (r.2 : Nat)),some (.ref p)] H3 R)
    (hq : ∀ H',Sho K H0 H' L (ds ++ [.lst ((roads n).map f)]) (m + 1) → D.nx [some (.ref p),some (.int n),some (.ref lr),some (.ref L),v4] H') :
    tDrop (tBM K "list" rAppend (tVar 3) (tCons (tComp (iList K (tVar 2)) [none,none,some 0] (gTup K 2 (gCons (gName 0) (gCons (gName 1) gNil))) tAll te) tNil)) D [some (.ref p),some (.int n),some (.ref lr),some (.ref L),v4] H:=by
  obtain ⟨xs,hx,_⟩:=hS.ex
  have hr:=hS.same _ _ hr0
  have pr:=TL.keep pr0 fun b xs e => hS.same b _ e
  have at_:=I.same at0 hS.same
  refine ⟨_,rfl,.inl ⟨rfl,_,SqL.of hx⟩,?_⟩
  refine ⟨_,rfl,lr,rfl,⟨_,SqL.of hr⟩,fun E hE => ?_⟩
  have rlen : (roads n).length = rs.length:=by have:=Paired.length pr; rw [List.length_map] at this; exact this
  have rle : rs.length ≤ 1000:=by
    have a:=roadsTo_len n n
    have b : n * n ≤ 6 * 6:=Nat.mul_le_mul hn6 hn6
    unfold roads at rlen
    omega
  refine comp_all (σ0:=[none,none,some (.ref p)]) (roads n) Rel mono (fun σ => ∃ a b,σ = [a,b,some (.ref p)]) (wk_list (SqL.of hr)) hE rlen (by omega) ⟨_,_,rfl⟩ ?_ ?_
  · rintro i r x σ H3 R er ex s3 ⟨a,b,rfl⟩ hR
    obtain ⟨t,rfl,ht⟩:=Paired.get pr (rows_get er) ex
    refine ⟨t,rv r,rfl,SqT.of (s3 _ _ ht),rfl,_,_,rfl,_,_,rfl,rfl,?_⟩
    exact he r H3 _ (List.mem_of_getElem? er) (I.same at_ s3) fun v H4 s4 h4 => hR _ v H4 ⟨_,_,rfl⟩ s4 h4
  · intro ys H3 s3 h3 p3
    have nLE : L ≠ E:=ne_of_none hx hE
    have hx3:=s3 _ _ hx
    refine ⟨L,xs,.ref E,rfl,rfl,hx3,hS.len hx hm,?_⟩
    have hd : Dn K (mns H3 L) 8 (.lst ((roads n).map f)) (.ref E):=.lst (k:=7) (SqL.of (by rw [mns_ne nLE.symm]; exact h3)) (Dns.of_paired (Paired.mapP p3 fun r v h => dn H3 xs r v hx3 h))
    exact hq _ ((hS.grow s3).add hx3 hd)
theorem ok_shown {f : Addr} {fd : FuncData} {I : HallI K C} (F : Fun K "_law_shown" "_law_shown" s__law_shown f fd) (T : Gs mg) (Q : Asks P w K mg base C I) (Fr : Fn P w K mg base "_law_roads" 1 ["_law_many_here"] spRoads) (Mq : Mt P w K mg base C "is_quiet" 10 ["self"] (spQuiet I))
    (Mon : Mt P w K mg base C "weights_on" 10 ["self","one","other"] (spQ2 I (qOn (K:=K)))) (Mw : Mt P w K mg base C "weight_of" 10 ["self","hand"] (spQ1 I (qWeight (K:=K)))) (Mtold : Mt P w K mg base C "told" 10 ["self"] (spQ0 I (qTold (K:=K)))) (Mab : Mt P w K mg base C "above" 10 ["self","hand"] (spQ1 I qAbove)) (Mop : Mt P w K mg base C "open_of" 10 ["self","hand"] (spQ1 I qOpen))
    (Mcn : Mt P w K mg base C "count_of" 10 ["self","hand"] (spQ1 I qCount)) (Mco : Mt P w K mg base C "colour_of" 10 ["self","hand"] (spQ1 I qColour)) :
    FnOk P w K mg base CX0 11 f fd ["_law_hall","_law_many_here"] (spShown I):=by
  refine F.ok sc_sh (fun vs H Q E h => ?_) (fun cdv A outer s0 H vs Qq E hr h => ?_)
  · obtain ⟨_,_,_,_,_,rfl,_⟩:=h; rfl
  obtain ⟨n,p,s,Ft,m,rfl,ap,hn2,hn6,good,hm60,q⟩:=h
  have hu:=hu_of hr
  refine ⟨_,pss_cons (ps_set (i:=2) sc_sh.nd rfl (Or.inl rfl) (pe_fn Fr hr (by decide) (pa_cons (pv 1) pa_nil)))
    (pss_cons (ps_set (i:=3) sc_sh.nd rfl (Or.inl rfl) (pe_lst (pa_cons (pe_mt0 Q.working Q.cl hr (by decide) (pv 0)) (pa_cons (pe_mt0 Mq Q.cl hr (by decide) (pv 0)) (pa_cons (pe_mt0 Q.token Q.cl hr (by decide) (pv 0)) (pa_cons (pe_mt0 Mtold Q.cl hr (by decide) (pv 0)) pa_nil))))))
    (pss_cons (ps_expr (pe_bm PySem.F.plainAttrs_list PySem.F.slot_list_append PySem.F.type_list_append mt_append (pv 3) (pa_cons
      (pe_comp (N:=["_law_one","_law_other","_law_hall"]) (ix:=[none,none,some 0]) N_sh (defScope s__law_shown) rfl rfl rfl ⟨by decide +kernel,rfl,by decide +kernel,by decide +kernel,rfl,by decide +kernel,by decide +kernel⟩ (pi_list (pv 2)) (fun _ _ _ _ nd => k_tup (n:=2) K rfl rfl (pgs_cons (pg_name (i:=0) nd rfl (Or.inl rfl)) (pgs_cons (pg_name (i:=1) nd rfl (Or.inl rfl)) pgs_nil)))
        (fun _ _ _ _ => pts_nil) (fun _ _ _ _ => pe_mt Q.works Q.cl hr (by decide) (pv 2) (pa_cons (pv 0) (pa_cons (pv 1) pa_nil)))) pa_nil)))
    (pss_cons (ps_expr (pe_bm PySem.F.plainAttrs_list PySem.F.slot_list_append PySem.F.type_list_append mt_append (pv 3) (pa_cons
      (pe_comp (N:=["_law_one","_law_other","_law_hall"]) (ix:=[none,none,some 0]) N_sh (defScope s__law_shown) rfl rfl rfl ⟨by decide +kernel,rfl,by decide +kernel,by decide +kernel,rfl,by decide +kernel,by decide +kernel⟩ (pi_list (pv 2)) (fun _ _ _ _ nd => k_tup (n:=2) K rfl rfl (pgs_cons (pg_name (i:=0) nd rfl (Or.inl rfl)) (pgs_cons (pg_name (i:=1) nd rfl (Or.inl rfl)) pgs_nil)))
        (fun _ _ _ _ => pts_nil) (fun _ _ _ _ => pe_mt Q.receipts Q.cl hr (by decide) (pv 2) (pa_cons (pv 0) (pa_cons (pv 1) pa_nil)))) pa_nil)))
    (pss_cons (ps_expr (pe_bm PySem.F.plainAttrs_list PySem.F.slot_list_append PySem.F.type_list_append mt_append (pv 3) (pa_cons
      (pe_comp (N:=["_law_one","_law_other","_law_hall"]) (ix:=[none,none,some 0]) N_sh (defScope s__law_shown) rfl rfl rfl ⟨by decide +kernel,rfl,by decide +kernel,by decide +kernel,rfl,by decide +kernel,by decide +kernel⟩ (pi_list (pv 2)) (fun _ _ _ _ nd => k_tup (n:=2) K rfl rfl (pgs_cons (pg_name (i:=0) nd rfl (Or.inl rfl)) (pgs_cons (pg_name (i:=1) nd rfl (Or.inl rfl)) pgs_nil)))
        (fun _ _ _ _ => pts_nil) (fun _ _ _ _ => pe_mt Mon Q.cl hr (by decide) (pv 2) (pa_cons (pv 0) (pa_cons (pv 1) pa_nil)))) pa_nil)))
    (pss_cons (ps_for PassesOwn.never rfl (pi_range1 rfl T.range (pa_cons (pv 1) pa_nil)) (pg_name (i:=4) sc_sh.nd rfl (Or.inl rfl))
      (pss_cons (ps_expr (pe_bm PySem.F.plainAttrs_list PySem.F.slot_list_append PySem.F.type_list_append mt_append (pv 3) (pa_cons (pe_tup (pa_cons (pe_mt Mop Q.cl hr (by decide) (pv 0) (pa_cons (pv 4) pa_nil)) (pa_cons (pe_mt Mab Q.cl hr (by decide) (pv 0) (pa_cons (pv 4) pa_nil)) (pa_cons (pe_mt Mw Q.cl hr (by decide) (pv 0) (pa_cons (pv 4) pa_nil)) (pa_cons (pe_mt Q.home Q.cl hr (by decide) (pv 0) (pa_cons (pv 4) pa_nil)) pa_nil))))) pa_nil)))
      (pss_one (ps_expr (pe_bm PySem.F.plainAttrs_list PySem.F.slot_list_append PySem.F.type_list_append mt_append (pv 3) (pa_cons (pe_tup (pa_cons (pe_mt Mcn Q.cl hr (by decide) (pv 0) (pa_cons (pv 4) pa_nil)) (pa_cons (pe_mt Mco Q.cl hr (by decide) (pv 0) (pa_cons (pv 4) pa_nil)) pa_nil))) pa_nil))))))
    (pss_one (ps_ret (pv 3)))))))),?_⟩
  refine ⟨_,rfl,n,rfl,hn6,fun lr rs H0 hlr sr0 hr0 pr0 => ?_⟩
  have at0:=I.same ap sr0
  obtain ⟨dx,fs,hp,hm⟩:=I.ins at0
  refine ⟨_,rfl,p,dx,fs,rfl,hp,meths_has hm "working",n,p,s,Ft,rfl,at0,fun v H1 s1 ⟨u1,e,hu1⟩ => ?_⟩
  subst e
  have at1:=I.same at0 s1
  obtain ⟨dx1,fs1,hp1,hm1⟩:=I.ins at1
  refine ⟨_,rfl,p,dx1,fs1,rfl,hp1,meths_has hm1 "is_quiet",n,p,s,Ft,rfl,at1,fun a => (good.tree.self a).1,fun v H2 s2 ⟨b2,e,hb2⟩ => ?_⟩
  subst e
  have eb:=quietB_of hb2
  subst eb
  have at2:=I.same at1 s2
  obtain ⟨dx2,fs2,hp2,hm2⟩:=I.ins at2
  refine ⟨_,rfl,p,dx2,fs2,rfl,hp2,meths_has hm2 "token",n,p,s,Ft,rfl,at2,fun v H3 s3 ⟨u3,e,hu3⟩ => ?_⟩
  subst e
  have at3:=I.same at2 s3
  obtain ⟨dx3,fs3,hp3,hm3⟩:=I.ins at3
  refine ⟨_,rfl,p,dx3,fs3,rfl,hp3,meths_has hm3 "told",n,p,s,Ft,rfl,at3,fun v H4 s4 ⟨u4,e,hu4⟩ => ?_⟩
  subst e
  refine ⟨Nat.le_of_lt (small1000 (by show 4 ≤ 1000; decide)),fun L hL => ?_⟩
  have s04:=s1.trans (s2.trans (s3.trans s4))
  have S4 : Sho K H0 (upd H4 L (.lst [.ref u1,.bl (quietB n s),.ref u3,.ref u4])) L (dTop n s |>.take 4) 4:=by
    refine ⟨s04.free hL,⟨_,upd_same,?_⟩,s04.trans (fun b o e => by rw [upd_ne (ne_of_none e hL)]; exact e),rfl⟩
    have k : ∀ b o,H4 b = some o → mns (upd H4 L (.lst [.ref u1,.bl (quietB n s),.ref u3,.ref u4])) L b = some o:=fun b o e => by rw [mns_ne (ne_of_none e hL),upd_ne (ne_of_none e hL)]; exact e
    refine .cons (.tup (k:=7) (Same.tup k (Same.tup (s2.trans (s3.trans s4)) hu1)) (ints_dns2 (fun k => ((k : Nat) : Int)) _)) (.cons (.bl _ _) (.cons (.tup (k:=7) (Same.tup k (Same.tup s4 hu3)) (.cons (.int _ _) (.cons (.int _ _) (.cons (.str _ _) (.nil _))))) (.cons (.tup (k:=7) (Same.tup k hu4) (.cons (.bl _ _) (.cons (.bl _ _) (.cons (.bl _ _) (.nil _))))) (.nil _))))
  refine sh_comp (fun r => De.int ((s.rows r.1 r.2).length : Nat)) (fun _ r v => v = .int ((s.rows r.1 r.2).length : Nat)) (fun _ _ _ _ h _ => h) (fun H ys r v _ e => by subst e; exact .int _ _) at0 hn6 hr0 pr0 S4 (by decide) (fun r H3 R hr3 a3 hR => ?_) fun H5 S5 => ?_
  · obtain ⟨r1,r2,r3⟩:=mem_roads.mp hr3
    obtain ⟨dxa,fsa,hpa,hma⟩:=I.ins a3
    exact ⟨_,rfl,p,dxa,fsa,rfl,hpa,meths_has hma "works",_,rfl,_,rfl,n,p,s,Ft,r.1,r.2,rfl,a3,r1,r2,r3,fun v H4 s4 e => hR v H4 s4 e⟩
  refine sh_comp (fun r => De.int (s.slips r.1 r.2 : Nat)) (fun _ r v => v = .int (s.slips r.1 r.2 : Nat)) (fun _ _ _ _ h _ => h) (fun H ys r v _ e => by subst e; exact .int _ _) at0 hn6 hr0 pr0 S5 (by decide) (fun r H3 R hr3 a3 hR => ?_) fun H6 S6 => ?_
  · obtain ⟨r1,r2,r3⟩:=mem_roads.mp hr3
    obtain ⟨dxa,fsa,hpa,hma⟩:=I.ins a3
    exact ⟨_,rfl,p,dxa,fsa,rfl,hpa,meths_has hma "receipts",_,rfl,_,rfl,n,p,s,Ft,r.1,r.2,rfl,a3,r1,r2,r3,fun v H4 s4 e => hR v H4 s4 e⟩
  refine sh_comp (fun r => De.tup ((s.rows r.1 r.2).map De.wt)) (fun H r v => ∃ t xs,v = .ref t ∧ SqT K H t xs ∧ WL K H xs (s.rows r.1 r.2)) (fun _ _ _ _ ⟨t,xs,e,a,b⟩ k => ⟨t,xs,e,sqT_nonL k a,wl_nonL k b⟩) (fun H ys r v hL ⟨t,xs,e,a,b⟩ => by subst e; exact .tup (k:=6) (sqT_mns hL a) (wl_dns (k:=5) (wl_mns hL b))) at0 hn6 hr0 pr0 S6 (by decide) (fun r H3 R hr3 a3 hR => ?_) fun H7 S7 => ?_
  · obtain ⟨r1,r2,r3⟩:=mem_roads.mp hr3
    obtain ⟨dxa,fsa,hpa,hma⟩:=I.ins a3
    exact ⟨_,rfl,p,dxa,fsa,rfl,hpa,meths_has hma "weights_on",_,rfl,_,rfl,n,p,s,Ft,r.1,r.2,rfl,a3,r1,r2,r3,fun v H4 s4 e => hR v H4 s4 e⟩
  have S7 : Sho K H0 H7 L (dTop n s ++ (List.range 0).flatMap (dHand s)) (7 + 2 * 0):=by
    have e : (dTop n s ++ (List.range 0).flatMap (dHand s)) = (dTop n s |>.take 4) ++ [.lst ((roads n).map fun r => De.int ((s.rows r.1 r.2).length : Nat))] ++ [.lst ((roads n).map fun r => De.int (s.slips r.1 r.2 : Nat))] ++ [.lst ((roads n).map fun r => De.tup ((s.rows r.1 r.2).map De.wt))]:=rfl
    rw [e]; exact S7
  refine ⟨_,rfl,(n : Int),rfl,by omega,by omega,?_⟩
  rw [Int.toNat_natCast]
  refine for_range (n:=n) (fun i σ H8 => ∃ v4 : Option V,σ = [some (.ref p),some (.int n),some (.ref lr),some (.ref L),v4] ∧ Sho K H0 H8 L (dTop n s ++ (List.range i).flatMap (dHand s)) (7 + 2 * i)) ?_ ?_ ?_
  · exact ⟨none,rfl,S7⟩
  · rintro i σ H8 hi ⟨v4,rfl,S8⟩
    rw [Int.zero_add]
    dsimp only [gName]
    obtain ⟨xs,hx,_⟩:=S8.ex
    have a8:=I.same at0 S8.same
    obtain ⟨dxa,fsa,hpa,hma⟩:=I.ins a8
    refine ⟨_,rfl,.inl ⟨rfl,_,SqL.of hx⟩,?_⟩
    refine ⟨_,rfl,p,dxa,fsa,rfl,hpa,meths_has hma "open_of",_,rfl,n,p,s,Ft,i,rfl,a8,hi,fun v H9 s9 e => ?_⟩
    subst e
    have a9:=I.same a8 s9
    obtain ⟨dxb,fsb,hpb,hmb⟩:=I.ins a9
    refine ⟨_,rfl,p,dxb,fsb,rfl,hpb,meths_has hmb "above",_,rfl,n,p,s,Ft,i,rfl,a9,hi,fun v H10 s10 e => ?_⟩
    subst e
    have a10:=I.same a9 s10
    obtain ⟨dxc,fsc,hpc,hmc⟩:=I.ins a10
    refine ⟨_,rfl,p,dxc,fsc,rfl,hpc,meths_has hmc "weight_of",_,rfl,n,p,s,Ft,i,rfl,a10,hi,fun wv H11 s11 hwv => ?_⟩
    have a11:=I.same a10 s11
    obtain ⟨dxd,fsd,hpd,hmd⟩:=I.ins a11
    refine ⟨_,rfl,p,dxd,fsd,rfl,hpd,meths_has hmd "weights_home",_,rfl,n,p,s,Ft,i,rfl,a11,hi,fun v H12 s12 ⟨t12,ws12,e,ht12,hw12⟩ => ?_⟩
    subst e
    refine ⟨Nat.le_of_lt (small1000 (by show 4 ≤ 1000; decide)),fun t13 h13 => ?_⟩
    have s13 : Same H12 (upd H12 t13 (.tup [.int (s.due i : Nat),optV (s.over i),wv,.ref t12])):=fun b o e => by rw [upd_ne (ne_of_none e h13)]; exact e
    have s813:=s9.trans (s10.trans (s11.trans (s12.trans s13)))
    have S13:=S8.grow s813
    have hx13:=s813 _ _ hx
    refine ⟨L,xs,_,rfl,rfl,hx13,S13.len hx13 (by omega),?_⟩
    have S14:=S13.add (d:=.tup [.int (s.due i : Nat),optD (s.over i),.wt (s.held i),.tup ((s.hw i).map De.wt)]) hx13 (.tup (k:=7) (sqT_mns hx13 (SqT.of upd_same)) (.cons (.int _ _) (.cons (opt_dn _ _) (.cons (.wt (k:=6) (wv_mns hx13 (hwv.same (s12.trans s13)))) (.cons (.tup (k:=6) (sqT_mns hx13 (Same.tup s13 ht12)) (wl_dns (k:=5) (wl_mns hx13 (WL.same s13 hw12)))) (.nil _))))))
    obtain ⟨xs14,hx14,_⟩:=S14.ex
    have a14:=I.same at0 S14.same
    obtain ⟨dxe,fse,hpe,hme⟩:=I.ins a14
    refine ⟨_,rfl,.inl ⟨rfl,_,SqL.of hx14⟩,?_⟩
    refine ⟨_,rfl,p,dxe,fse,rfl,hpe,meths_has hme "count_of",_,rfl,n,p,s,Ft,i,rfl,a14,hi,fun v H15 s15 e => ?_⟩
    subst e
    have a15:=I.same a14 s15
    obtain ⟨dxf,fsf,hpf,hmf⟩:=I.ins a15
    refine ⟨_,rfl,p,dxf,fsf,rfl,hpf,meths_has hmf "colour_of",_,rfl,n,p,s,Ft,i,rfl,a15,hi,fun v H16 s16 e => ?_⟩
    subst e
    refine ⟨Nat.le_of_lt (small1000 (by show 2 ≤ 1000; decide)),fun t17 h17 => ?_⟩
    have s17 : Same H16 (upd H16 t17 (.tup [.int (s.cnt i),.str (colour (s.black i))])):=fun b o e => by rw [upd_ne (ne_of_none e h17)]; exact e
    have s1417:=s15.trans (s16.trans s17)
    have S17:=S14.grow s1417
    have hx17:=s1417 _ _ hx14
    refine ⟨L,_,_,rfl,rfl,hx17,S17.len hx17 (by omega),?_⟩
    have S18:=S17.add (d:=.tup [.int (s.cnt i),.str (colour (s.black i))]) hx17 (.tup (k:=7) (sqT_mns hx17 (SqT.of upd_same)) (.cons (.int _ _) (.cons (.str _ _) (.nil _))))
    refine ⟨_,rfl,?_⟩
    have el : dTop n s ++ (List.range (i + 1)).flatMap (dHand s) = dTop n s ++ (List.range i).flatMap (dHand s) ++ [.tup [.int (s.due i : Nat),optD (s.over i),.wt (s.held i),.tup ((s.hw i).map De.wt)]] ++ [.tup [.int (s.cnt i),.str (colour (s.black i))]]:=by
      rw [List.range_succ,List.flatMap_append,List.append_assoc,List.append_assoc]
      simp [dHand]
    rw [el]
    exact S18
  · rintro σ H8 ⟨v4,rfl,S8⟩
    obtain ⟨xs,hx,hd⟩:=S8.ex
    exact ⟨_,rfl,q L H8 (sr0.free S8.new) (sr0.trans S8.same) (.lst (k:=8) (SqL.of hx) (hd.same (mns_same _ _)))⟩
end
end Qh
set_option Elab.async false
set_option linter.all false
set_option maxRecDepth 100000
namespace Qh
open PySem L2 Tx
theorem MtE.mono {P : Program} {w : World} {K : PySem.W.Frag} {mg : Str → Option Value} {base : Heap} {C : Addr} {m : Str} {j k : Nat} {ps : List Str} {sp : Sp} (M : MtE P w K mg base C m j ps sp) (h : j ≤ k) : MtE P w K mg base C m k ps sp:=let ⟨f,fd,a,b,c⟩:=M.ex; ⟨f,fd,a,b.mono h,c⟩
section
variable {P : Program} {w : World} {K : PySem.W.Frag} {mg : Str → Option Value} {base : Heap} {C CN CW : Addr}
structure Refs (P : Program) (w : World) (K : PySem.W.Frag) (mg : Str → Option Value) (base : Heap) (C CN CW : Addr) (I : HallI K C) : Prop where
  cl : Cls K C
  send : MtE P w K mg base C "send" 10 ["self","one","other"] (spRef I (rSend CN CW))
  take : MtE P w K mg base C "take" 10 ["self","one","other"] (spRef I (rTake CN CW))
  back : MtE P w K mg base C "back" 10 ["self","one","other"] (spRef I (rBack CN CW))
  works : MtE P w K mg base C "works" 10 ["self","one","other"] (spRef I (r2 CN))
  receipts : MtE P w K mg base C "receipts" 10 ["self","one","other"] (spRef I (r2 CN))
  weights_on : MtE P w K mg base C "weights_on" 10 ["self","one","other"] (spRef I (r2 CN))
  rest : MtE P w K mg base C "rest" 10 ["self","hand"] (spRef I (rRest CN CW))
  home : MtE P w K mg base C "home" 10 ["self","hand"] (spRef I (rHome CN CW))
  open_of : MtE P w K mg base C "open_of" 10 ["self","hand"] (spRef I (r1 CN))
  above : MtE P w K mg base C "above" 10 ["self","hand"] (spRef I (r1 CN))
  weight_of : MtE P w K mg base C "weight_of" 10 ["self","hand"] (spRef I (r1 CN))
  weights_home : MtE P w K mg base C "weights_home" 10 ["self","hand"] (spRef I (r1 CN))
  count_of : MtE P w K mg base C "count_of" 10 ["self","hand"] (spRef I (r1 CN))
  colour_of : MtE P w K mg base C "colour_of" 10 ["self","hand"] (spRef I (r1 CN))
  pass_on : MtE P w K mg base C "pass_on" 10 ["self"] (spRef I (rPass CW))
def RA (CN CW : Addr) (n : Nat) (s : S) (way : Nat) (a b : Int) (c : Addr) : Prop:=match way with
  | 0 => rSend CN CW n s [a,b] c
  | 1 => rTake CN CW n s [a,b] c
  | 2 => rBack CN CW n s [a,b] c
  | 3 => r2 CN n s [a,b] c
  | 4 => r2 CN n s [a,b] c
  | 5 => r2 CN n s [a,b] c
  | 6 => rRest CN CW n s [a] c
  | 7 => rHome CN CW n s [a] c
  | 8 => r1 CN n s [a] c
  | 9 => r1 CN n s [a] c
  | 10 => r1 CN n s [a] c
  | 11 => r1 CN n s [a] c
  | 12 => r1 CN n s [a] c
  | 13 => r1 CN n s [a] c
  | _ => rPass CW n s [] c
def spAsk1 (I : HallI K C) (CN CW : Addr) : Sp:=fun vs H _ E => ∃ (n : Nat) (p : Addr) (s : S) (F : Addr → Prop) (way : Nat) (a b : Int) (c : Addr),vs = [.ref p,.int way,.int a] ∧ 6 ≤ way ∧ way < 14 ∧ I.At n H p s F ∧ RA CN CW n s way a b c ∧ ∀ H',Same H H' → E (.ref c) none H'
def spAsk (I : HallI K C) (CN CW : Addr) : Sp:=fun vs H _ E => ∃ (n : Nat) (p : Addr) (s : S) (F : Addr → Prop) (way : Nat) (a b : Int) (c : Addr),vs = [.ref p,.int way,.int a,.int b] ∧ way < 14 ∧ I.At n H p s F ∧ RA CN CW n s way a b c ∧ ∀ H',Same H H' → E (.ref c) none H'
theorem yesI {x : Int} {A B : Prop} (h : A) : (if decide (V.int x = V.int x) = true then A else B):=by rw [decide_eq_true rfl]; exact iteT h
theorem noI {x y : Int} {A B : Prop} (e : x ≠ y) (h : B) : (if decide (V.int x = V.int y) = true then A else B):=by rw [decide_eq_false (fun z => e (V.int.inj z))]; exact iteF h
theorem way_if {i : Nat} {σ : St} {H : Hp} {D : Ends} {x k : Int} {T R : TS} (hσ : σ[i]? = some (some (.int x))) (yes : x = k → T { D with nx:=R D } σ H) (no : x ≠ k → R D σ H) : tSeq (tIfS (tTest (tOp rEq (tVar i) (tC (.int k)))) T tNext) R D σ H:=by
  refine ⟨_,hσ,rfl,_,rfl,?_⟩
  by_cases e : x = k
  · subst e
    exact yesI (yes rfl)
  · exact noI e (no e)
theorem refd {C : Addr} {m : Str} {I : HallI K C} {R : Nat → S → List Int → Addr → Prop} {i : Nat} {t : TA} {D : Ends} {E : XK} {σ : St} {H : Hp} {n : Nat} {p dx : Addr} {fs : List (Str × V)} {s : S} {F : Addr → Prop} {c : Addr} (as : List Int) (h0 : σ[i]? = some (some (.ref p))) (hp : H p = some (.ins C dx fs)) (hm : fs.lookup m = none) (ht : ∀ Q : List V → Hp → Prop,Q (as.map V.int) H → t σ H Q) (hat : I.At n H p s F) (hR : R n s as c) (q : ∀ H',Same H H' → E (.ref c) none H') :
    tRet (tMeth C m (spRef I R) [] E (tVar i) t) D σ H:=⟨_,h0,p,dx,fs,rfl,hp,hm,ht _ ⟨n,p,s,F,as,c,by rw [List.append_nil],hat,hR,q⟩⟩
theorem sc_ask1 : FnScope ["_law_hall","_law_way","_law_one"] ["_law_hall","_law_way","_law_one"] (defScope s__law_ask_one):=⟨rfl,rfl,rfl,by decide +kernel,rfl,by decide +kernel,by decide +kernel⟩
theorem ok_ask1 {f : Addr} {fd : FuncData} {I : HallI K C} (F : Fun K "_law_ask_one" "_law_ask_one" s__law_ask_one f fd) (Q : Refs P w K mg base C CN CW I) : FnOk P w K mg base (CXE P w) 11 f fd ["_law_hall","_law_way","_law_one"] (spAsk1 I CN CW):=by
  refine F.okE sc_ask1 (fun vs H Q E h => ?_) (fun cdv A outer s0 H vs Qq E hr h => ?_)
  · obtain ⟨_,_,_,_,_,_,_,_,rfl,_⟩:=h; rfl
  obtain ⟨n,p,s,Ft,way,a,b,c,rfl,h6,h14,hat,hR,q⟩:=h
  obtain ⟨dx,fs,hp,hms⟩:=I.ins hat
  refine ⟨_,pss_cons (ps_if (pt_cmpR op_eq (pv 1) pe_int (nomark _)) (pss_one (ps_ret (pe_mtE passE Q.rest Q.cl hr (by decide) (pv 0) (pa_cons (pv 2) pa_nil)))) pss_nil)
    (pss_cons (ps_if (pt_cmpR op_eq (pv 1) pe_int (nomark _)) (pss_one (ps_ret (pe_mtE passE Q.home Q.cl hr (by decide) (pv 0) (pa_cons (pv 2) pa_nil)))) pss_nil)
    (pss_cons (ps_if (pt_cmpR op_eq (pv 1) pe_int (nomark _)) (pss_one (ps_ret (pe_mtE passE Q.open_of Q.cl hr (by decide) (pv 0) (pa_cons (pv 2) pa_nil)))) pss_nil)
    (pss_cons (ps_if (pt_cmpR op_eq (pv 1) pe_int (nomark _)) (pss_one (ps_ret (pe_mtE passE Q.above Q.cl hr (by decide) (pv 0) (pa_cons (pv 2) pa_nil)))) pss_nil)
    (pss_cons (ps_if (pt_cmpR op_eq (pv 1) pe_int (nomark _)) (pss_one (ps_ret (pe_mtE passE Q.weight_of Q.cl hr (by decide) (pv 0) (pa_cons (pv 2) pa_nil)))) pss_nil)
    (pss_cons (ps_if (pt_cmpR op_eq (pv 1) pe_int (nomark _)) (pss_one (ps_ret (pe_mtE passE Q.weights_home Q.cl hr (by decide) (pv 0) (pa_cons (pv 2) pa_nil)))) pss_nil)
    (pss_cons (ps_if (pt_cmpR op_eq (pv 1) pe_int (nomark _)) (pss_one (ps_ret (pe_mtE passE Q.count_of Q.cl hr (by decide) (pv 0) (pa_cons (pv 2) pa_nil)))) pss_nil)
    (pss_one (ps_ret (pe_mtE passE Q.colour_of Q.cl hr (by decide) (pv 0) (pa_cons (pv 2) pa_nil)))))))))),?_⟩
  refine way_if rfl (fun e => ?_) (fun e0 => ?_)
  · obtain rfl : way = 6:=Int.ofNat.inj e
    exact refd [a] rfl hp (meths_has hms "rest") (fun _ h => ⟨_,rfl,h⟩) hat hR q
  refine way_if rfl (fun e => ?_) (fun e1 => ?_)
  · obtain rfl : way = 7:=Int.ofNat.inj e
    exact refd [a] rfl hp (meths_has hms "home") (fun _ h => ⟨_,rfl,h⟩) hat hR q
  refine way_if rfl (fun e => ?_) (fun e2 => ?_)
  · obtain rfl : way = 8:=Int.ofNat.inj e
    exact refd [a] rfl hp (meths_has hms "open_of") (fun _ h => ⟨_,rfl,h⟩) hat hR q
  refine way_if rfl (fun e => ?_) (fun e3 => ?_)
  · obtain rfl : way = 9:=Int.ofNat.inj e
    exact refd [a] rfl hp (meths_has hms "above") (fun _ h => ⟨_,rfl,h⟩) hat hR q
  refine way_if rfl (fun e => ?_) (fun e4 => ?_)
  · obtain rfl : way = 10:=Int.ofNat.inj e
    exact refd [a] rfl hp (meths_has hms "weight_of") (fun _ h => ⟨_,rfl,h⟩) hat hR q
  refine way_if rfl (fun e => ?_) (fun e5 => ?_)
  · obtain rfl : way = 11:=Int.ofNat.inj e
    exact refd [a] rfl hp (meths_has hms "weights_home") (fun _ h => ⟨_,rfl,h⟩) hat hR q
  refine way_if rfl (fun e => ?_) (fun e6 => ?_)
  · obtain rfl : way = 12:=Int.ofNat.inj e
    exact refd [a] rfl hp (meths_has hms "count_of") (fun _ h => ⟨_,rfl,h⟩) hat hR q
  obtain rfl : way = 13:=by omega
  exact refd [a] rfl hp (meths_has hms "colour_of") (fun _ h => ⟨_,rfl,h⟩) hat hR q
theorem sc_ask : FnScope ["_law_hall","_law_way","_law_one","_law_other"] ["_law_hall","_law_way","_law_one","_law_other"] (defScope s__law_ask):=⟨rfl,rfl,rfl,by decide +kernel,rfl,by decide +kernel,by decide +kernel⟩
theorem ok_ask {f : Addr} {fd : FuncData} {I : HallI K C} (F : Fun K "_law_ask" "_law_ask" s__law_ask f fd) (Q : Refs P w K mg base C CN CW I) (F1 : FnE P w K mg base "_law_ask_one" 11 ["_law_hall","_law_way","_law_one"] (spAsk1 I CN CW)) : FnOk P w K mg base (CXE P w) 12 f fd ["_law_hall","_law_way","_law_one","_law_other"] (spAsk I CN CW):=by
  refine F.okE sc_ask (fun vs H Q E h => ?_) (fun cdv A outer s0 H vs Qq E hr h => ?_)
  · obtain ⟨_,_,_,_,_,_,_,_,rfl,_⟩:=h; rfl
  obtain ⟨n,p,s,Ft,way,a,b,c,rfl,h14,hat,hR,q⟩:=h
  obtain ⟨dx,fs,hp,hms⟩:=I.ins hat
  refine ⟨_,pss_cons (ps_if (pt_cmpR op_eq (pv 1) pe_int (nomark _)) (pss_one (ps_ret (pe_mtE passE Q.send Q.cl hr (by decide) (pv 0) (pa_cons (pv 2) (pa_cons (pv 3) pa_nil))))) pss_nil)
    (pss_cons (ps_if (pt_cmpR op_eq (pv 1) pe_int (nomark _)) (pss_one (ps_ret (pe_mtE passE Q.take Q.cl hr (by decide) (pv 0) (pa_cons (pv 2) (pa_cons (pv 3) pa_nil))))) pss_nil)
    (pss_cons (ps_if (pt_cmpR op_eq (pv 1) pe_int (nomark _)) (pss_one (ps_ret (pe_mtE passE Q.back Q.cl hr (by decide) (pv 0) (pa_cons (pv 2) (pa_cons (pv 3) pa_nil))))) pss_nil)
    (pss_cons (ps_if (pt_cmpR op_eq (pv 1) pe_int (nomark _)) (pss_one (ps_ret (pe_mtE passE Q.works Q.cl hr (by decide) (pv 0) (pa_cons (pv 2) (pa_cons (pv 3) pa_nil))))) pss_nil)
    (pss_cons (ps_if (pt_cmpR op_eq (pv 1) pe_int (nomark _)) (pss_one (ps_ret (pe_mtE passE Q.receipts Q.cl hr (by decide) (pv 0) (pa_cons (pv 2) (pa_cons (pv 3) pa_nil))))) pss_nil)
    (pss_cons (ps_if (pt_cmpR op_eq (pv 1) pe_int (nomark _)) (pss_one (ps_ret (pe_mtE passE Q.weights_on Q.cl hr (by decide) (pv 0) (pa_cons (pv 2) (pa_cons (pv 3) pa_nil))))) pss_nil)
    (pss_one (ps_ret (pe_fnE passE F1 hr (by decide) (pa_cons (pv 0) (pa_cons (pv 1) (pa_cons (pv 2) pa_nil))))))))))),?_⟩
  refine way_if rfl (fun e => ?_) (fun e0 => ?_)
  · obtain rfl : way = 0:=Int.ofNat.inj e
    exact refd [a,b] rfl hp (meths_has hms "send") (fun _ h => ⟨_,rfl,_,rfl,h⟩) hat hR q
  refine way_if rfl (fun e => ?_) (fun e1 => ?_)
  · obtain rfl : way = 1:=Int.ofNat.inj e
    exact refd [a,b] rfl hp (meths_has hms "take") (fun _ h => ⟨_,rfl,_,rfl,h⟩) hat hR q
  refine way_if rfl (fun e => ?_) (fun e2 => ?_)
  · obtain rfl : way = 2:=Int.ofNat.inj e
    exact refd [a,b] rfl hp (meths_has hms "back") (fun _ h => ⟨_,rfl,_,rfl,h⟩) hat hR q
  refine way_if rfl (fun e => ?_) (fun e3 => ?_)
  · obtain rfl : way = 3:=Int.ofNat.inj e
    exact refd [a,b] rfl hp (meths_has hms "works") (fun _ h => ⟨_,rfl,_,rfl,h⟩) hat hR q
  refine way_if rfl (fun e => ?_) (fun e4 => ?_)
  · obtain rfl : way = 4:=Int.ofNat.inj e
    exact refd [a,b] rfl hp (meths_has hms "receipts") (fun _ h => ⟨_,rfl,_,rfl,h⟩) hat hR q
  refine way_if rfl (fun e => ?_) (fun e5 => ?_)
  · obtain rfl : way = 5:=Int.ofNat.inj e
    exact refd [a,b] rfl hp (meths_has hms "weights_on") (fun _ h => ⟨_,rfl,_,rfl,h⟩) hat hR q
  exact ⟨_,rfl,_,rfl,_,rfl,n,p,s,Ft,way,a,b,c,rfl,by omega,h14,hat,hR,q⟩
end
end Qh
set_option Elab.async false
set_option linter.all false
set_option maxRecDepth 100000
namespace Qh
open PySem L2 Tx
structure Errs (K : PySem.W.Frag) (mg : Str → Option Value) (CE CN CW : Addr) : Prop where
  e : XCls K mg "HallError" CE
  n : XCls K mg "NoHand" CN
  w : XCls K mg "NotNow" CW
  bn : (L2.mroIn K CN).contains (.ref CE) = true
  bw : (L2.mroIn K CW).contains (.ref CE) = true
  xn : XInst K CN
  xw : XInst K CW
  nv : PySem.W.kitOne K (.ref CN) (.type "ValueError") = some true
  wv : PySem.W.kitOne K (.ref CW) (.type "ValueError") = some true
  nn : PySem.W.kitOne K (.ref CN) (.ref CN) = some true
  nw : PySem.W.kitOne K (.ref CN) (.ref CW) = some false
  wn : PySem.W.kitOne K (.ref CW) (.ref CN) = some false
  ww : PySem.W.kitOne K (.ref CW) (.ref CW) = some true
theorem cons_of {σ : St} {n : Nat} (h : σ.length = n + 1) : ∃ x t,σ = x :: t ∧ t.length = n:=by
  cases σ with
  | nil => cases h
  | cons x t => exact ⟨x,t,rfl,Nat.succ.inj h⟩
theorem len6 {σ : St} (h : σ.length = 6) : ∃ x0 x1 x2 x3 x4 x5,σ = [x0,x1,x2,x3,x4,x5]:=by
  obtain ⟨x0,σ1,e0,h⟩:=cons_of h
  obtain ⟨x1,σ2,e1,h⟩:=cons_of h
  obtain ⟨x2,σ3,e2,h⟩:=cons_of h
  obtain ⟨x3,σ4,e3,h⟩:=cons_of h
  obtain ⟨x4,σ5,e4,h⟩:=cons_of h
  obtain ⟨x5,σ6,e5,h⟩:=cons_of h
  have e6:=List.length_eq_zero_iff.mp h
  subst e0 e1 e2 e3 e4 e5 e6
  exact ⟨_,_,_,_,_,_,rfl⟩
def ansOf (x : Bool) : Str:=if x then "no hand" else "not now"
section
variable {P : Program} {w : World} {K : PySem.W.Frag} {mg : Str → Option Value} {base : Heap} {C CE CN CW : Addr}
def spSaid (I : HallI K C) (CN CW : Addr) : Sp:=fun vs H Q _ => ∃ (n : Nat) (p : Addr) (s : S) (F : Addr → Prop) (way : Nat) (a b : Int) (x : Bool),vs = [.ref p,.int way,.int a,.int b] ∧ way ≤ 14 ∧ I.At n H p s F ∧ RA CN CW n s way a b (if x then CN else CW) ∧ ∀ H',Same H H' → Q (.str (ansOf x)) H'
def hTerm (K : PySem.W.Frag) (CN CW ae : Addr) (oe : Obj) : TS:=tSeq (tAsg (tC (.str "other")) (gName 4))
  (tIfS (tAnd (fun σ H Q => tCB (rIsX K ae oe) (tCons (tVar 5) (tCons (tC (.ty "ValueError")) tNil)) σ H fun x H' => ∃ k,TruV K x H' k ∧ Q k H')
      (tTest (tOp rNe (tCB (rIsX K ae oe) (tCons (tVar 5) (tCons (tC (.ref CN)) tNil))) (tCB (rIsX K ae oe) (tCons (tVar 5) (tCons (tC (.ref CW)) tNil))))))
    (tAsg (tOp (rIxL K) (tLst (tCons (tC (.str "not now")) (tCons (tC (.str "no hand")) tNil))) (tCB (fun xs H Q => (∃ i,xs = [V.int i] ∧ Q (V.int i) H) ∨ ∃ k,xs = [V.bl k] ∧ Q (V.int (if k = true then 1 else 0)) H) (tCons (tCB (rIsX K ae oe) (tCons (tVar 5) (tCons (tC (.ref CN)) tNil))) tNil))) (gName 4)) tNext)
theorem handled {c ae : Addr} {oe : Obj} {x : Bool} {H : Hp} {D : Ends} {x0 x1 x2 x3 x4 : Option V} (xi : XInst K c) (xe : PySem.W.excIn K c bmV "ValueError.__new__" = true) (kv : PySem.W.kitOne K (.ref c) (.type "ValueError") = some true) (kn : PySem.W.kitOne K (.ref c) (.ref CN) = some x) (kw : PySem.W.kitOne K (.ref c) (.ref CW) = some (!x)) (hcls : oe.cls = .ref c)
    (q : ∀ H',Same H H' → D.nx [x0,x1,x2,x3,some (.str (ansOf x)),some (.ref ae)] H') : hTerm K CN CW ae oe D [x0,x1,x2,x3,x4,some (.ref ae)] H:=by
  refine ⟨_,rfl,c,true,hcls,xi,xe,.inr ⟨_,rfl,kv⟩,true,rfl,iteT ?_⟩
  refine ⟨_,rfl,c,x,hcls,xi,xe,.inl ⟨_,rfl,kn⟩,_,rfl,c,!x,hcls,xi,xe,.inl ⟨_,rfl,kw⟩,rfl,_,rfl,?_⟩
  rw [show (!decide (V.bl x = V.bl !x)) = true by cases x <;> rfl]
  refine iteT ⟨le1000 (by show 2 ≤ 1000; decide),fun l hl2 => ⟨_,rfl,c,x,hcls,xi,xe,.inl ⟨_,rfl,kn⟩,.inr ⟨_,rfl,?_⟩⟩⟩
  refine ⟨l,_,_,.str (ansOf x),rfl,rfl,SqL.of upd_same,by cases x <;> rfl,?_⟩
  exact q _ (fun z o e => by rw [upd_ne (ne_of_none e hl2)]; exact e)
abbrev N_said : List Str:=["_law_hall","_law_way","_law_one","_law_other","_law_told","e"]
theorem sc_said : FnScope N_said ["_law_hall","_law_way","_law_one","_law_other"] (defScope s__law_said):=⟨rfl,rfl,rfl,by decide +kernel,rfl,by decide +kernel,by decide +kernel⟩
theorem ok_said {f : Addr} {fd : FuncData} {I : HallI K C} (F : Fun K "_law_said" "_law_said" s__law_said f fd) (Er : Errs K mg CE CN CW) (gi : mg "isinstance" = none) (gve : mg "ValueError" = none) (gint : mg "int" = none) (Q : Refs P w K mg base C CN CW I) (Fa : FnE P w K mg base "_law_ask" 12 ["_law_hall","_law_way","_law_one","_law_other"] (spAsk I CN CW)) :
    FnOk P w K mg base CX0 13 f fd ["_law_hall","_law_way","_law_one","_law_other"] (spSaid I CN CW):=by
  refine F.ok sc_said (fun vs H Q E h => ?_) (fun cdv A outer s0 H vs Qq E hr h => ?_)
  · obtain ⟨_,_,_,_,_,_,_,_,rfl,_⟩:=h; rfl
  obtain ⟨n,p,s,Ft,way,a,b,x,rfl,h14,hat,hR,q⟩:=h
  obtain ⟨dx,fs,hp,hms⟩:=I.ins hat
  refine ⟨_,pss_cons (ps_set (i:=4) sc_said.nd rfl (Or.inl rfl) pe_str) (pss_cons (ps_try (i:=5) rfl rfl sc_said.nd rfl rfl Er.e rfl
    (fun Et pn' E' hx => pss_one (ps_if (pt_cmpR op_eq (pv 1) pe_int (nomark _)) (pss_one (ps_expr (pe_mtE0 hx Q.pass_on Q.cl hr (by decide) (pv 0)))) (pss_one (ps_expr (pe_fnE hx Fa hr (by decide) (pa_cons (pv 0) (pa_cons (pv 1) (pa_cons (pv 2) (pa_cons (pv 3) pa_nil)))))))))
    (fun ae oe => pss_cons (ps_set (i:=4) sc_said.nd rfl (Or.inl rfl) pe_str) (pss_one (ps_if (PW.pt (pw_and (k_truth K rfl (pe_callB (call_isX K rfl List.mem_cons_self) (by rfl) gi (by decide +kernel) (pa_cons (pv 5) (pa_cons (pe_bltn (v:=.ty "ValueError") (by rfl) gve (by decide +kernel) rfl) pa_nil))) (fun _ => rfl))
        (pw_and1 (pt_cmpR op_ne (pe_callB (call_isX K rfl List.mem_cons_self) (by rfl) gi (by decide +kernel) (pa_cons (pv 5) (pa_cons (pe_glob (v:=.ref CN) (by rfl) Er.n.mgx rfl) pa_nil))) (pe_callB (call_isX K rfl List.mem_cons_self) (by rfl) gi (by decide +kernel) (pa_cons (pv 5) (pa_cons (pe_glob (v:=.ref CW) (by rfl) Er.w.mgx rfl) pa_nil))) (nomark _)))))
      (pss_one (ps_set (i:=4) sc_said.nd rfl (Or.inl rfl) (pe_ix (k_ixL K rfl) (pe_lst (pa_cons pe_str (pa_cons pe_str pa_nil))) (pe_callTy call_int1 (by rfl) gint (by decide +kernel) (pa_cons (pe_callB (call_isX K rfl List.mem_cons_self) (by rfl) gi (by decide +kernel) (pa_cons (pv 5) (pa_cons (pe_glob (v:=.ref CN) (by rfl) Er.n.mgx rfl) pa_nil))) pa_nil)) (fun _ _ => rfl)))) pss_nil)))) (pss_one (ps_ret (pv 4)))),?_⟩
  have fin : ∀ (ae : Addr) (oe : Obj) (H1 : Hp),Same H H1 → oe.cls = Value.ref (if x = true then CN else CW) → ∀ σ1 : St,σ1.length = 6 → ∀ D : Ends,(∀ σ' H',σ'[4]? = some (some (.str (ansOf x))) → Qq (.str (ansOf x)) H' → D.nx σ' H') → hTerm K CN CW ae oe D (σ1.set 5 (some (.ref ae))) H1:=fun ae oe H1 s1 hcls σ1 hl D hD => by
    obtain ⟨x0,x1,x2,x3,x4,x5,rfl⟩:=len6 hl
    cases x with
    | true => exact handled Er.xn Er.n.exc Er.nv Er.nn Er.nw hcls (fun H' s' => hD _ _ rfl (q _ (s1.trans s')))
    | false => exact handled Er.xw Er.w.exc Er.wv Er.wn Er.ww hcls (fun H' s' => hD _ _ rfl (q _ (s1.trans s')))
  have bel : Below K CE (.ref (if x = true then CN else CW)):=by
    cases x with
    | true => exact ⟨_,rfl,Er.n.exc,Er.bn⟩
    | false => exact ⟨_,rfl,Er.w.exc,Er.bw⟩
  refine ⟨_,rfl,rfl,_,rfl,?_⟩
  rcases Nat.lt_or_ge way 14 with h | h
  · refine noI (by omega) ⟨_,rfl,_,rfl,_,rfl,_,rfl,n,p,s,Ft,way,a,b,_,rfl,h,hat,hR,fun H1 s1 => ⟨bel,fun ae oe hn hcls σ1 hl => fin ae oe H1 s1 hcls σ1 hl _ fun σ' H' e z => ⟨_,?_,z⟩⟩⟩
    rw [List.getElem?_set_ne (by decide)]
    exact e
  · have e14 : way = 14:=by omega
    subst e14
    refine yesI ⟨_,rfl,p,dx,fs,rfl,hp,meths_has hms "pass_on",n,p,s,Ft,[],_,rfl,hat,hR,fun H1 s1 => ⟨bel,fun ae oe hn hcls σ1 hl => fin ae oe H1 s1 hcls σ1 hl _ fun σ' H' e z => ⟨_,?_,z⟩⟩⟩
    rw [List.getElem?_set_ne (by decide)]
    exact e
end
end Qh
set_option Elab.async false
set_option linter.all false
set_option maxRecDepth 100000
namespace L2
open PySem PySem.Spec PyProof.Rows
section
variable {P : Program} {w : World} {K : PySem.W.Frag} {mg : Str → Option Value} {base : Heap} {C : Addr} {x m q : Str} {st : Stmt} {k : Nat} {ps : List Str} {sp : Sp}
theorem FnE.mk' (h : ∃ f fd,mg x = some (.ref f) ∧ PySem.W.keepIn K (.ref f) = true ∧ Fun K x q st f fd) (ok : ∀ f fd,Fun K x q st f fd → FnOk P w K mg base (CXE P w) k f fd ps sp)
    (b : ∀ (kV doc pm : Value) (an : Option Addr) (cdv ct : Value) (us : List Value),us.length = ps.length → bindArgs (PySem.W.fnOf x q (defArgs st) (defBody st) (defScope st) .none kV doc pm an cdv ct) ⟨us,[]⟩ = pure (ps.zip us)) : FnE P w K mg base x k ps sp :=
  let ⟨f,fd,h1,h2,h3⟩:=h; ⟨f,fd,h1,h2,ok f fd h3,h3.binds b⟩
theorem MtE.mk' (h : ∃ f fd,Meth K C m f ∧ Fun K m q st f fd) (ok : ∀ f fd,Fun K m q st f fd → FnOk P w K mg base (CXE P w) k f fd ps sp)
    (b : ∀ (kV doc pm : Value) (an : Option Addr) (cdv ct : Value) (us : List Value),us.length = ps.length → bindArgs (PySem.W.fnOf m q (defArgs st) (defBody st) (defScope st) .none kV doc pm an cdv ct) ⟨us,[]⟩ = pure (ps.zip us)) : MtE P w K mg base C m k ps sp :=
  let ⟨f,fd,h1,h3⟩:=h; ⟨f,fd,h1,ok f fd h3,h3.binds b⟩
theorem tail_has {D : Addr} {bm : List Value} {nw : String} (q : PySem.W.mroIn K C (.ref D) = some true) (x : PySem.W.excIn K C bm nw = true) (ne : C ≠ D) : (mroIn K C).contains (.ref D) = true:=by
  unfold PySem.W.mroIn PySem.W.clsIn at q
  unfold PySem.W.excIn at x
  unfold mroIn
  cases e : K.lookup C with
  | none => rw [e] at x; cases x
  | some o =>
    rw [e] at x q
    obtain ⟨oc,od,pt,sl⟩:=o
    try dsimp only at x
    try dsimp only at q
    split at x
    · rename_i cd sl' z
      cases z
      split at x
      · rename_i C' bm' _ _ _ _ n' _ hm hs
        simp only [Bool.and_eq_true,beq_iff_eq] at x
        obtain ⟨⟨⟨⟨⟨rfl,_⟩,_⟩,_⟩,_⟩,_⟩:=x
        have q : (if cd.mro.isEmpty = true then none else some (cd.mro.contains (Value.ref D))) = some true:=q
        show cd.mro.tail.contains (Value.ref D) = true
        rw [hm] at q ⊢
        simp at q
        simp
        rcases q with h | h
        · exact absurd h.symm ne
        · exact h
      · cases x
    · cases x
end
end L2
namespace Qh
open PySem L2 Tx
theorem mk_errs {K : PySem.W.Frag} {h : Heap} {mg : Str → Option Value} (X : K.In h) (G : h.Ns mainGlobals mg) {CE CN CW : Addr}
    (aE : PySem.W.nsIn K mainGlobals "HallError" = some (some (.ref CE))) (aN : PySem.W.nsIn K mainGlobals "NoHand" = some (some (.ref CN))) (aW : PySem.W.nsIn K mainGlobals "NotNow" = some (some (.ref CW)))
    (xE : PySem.W.excIn K CE bmV "ValueError.__new__" = true) (xN : PySem.W.excIn K CN bmV "ValueError.__new__" = true) (xW : PySem.W.excIn K CW bmV "ValueError.__new__" = true)
    (bN : PySem.W.mroIn K CN (.ref CE) = some true) (bW : PySem.W.mroIn K CW (.ref CE) = some true) (nN : CN ≠ CE) (nW : CW ≠ CE)
    (n1 : PySem.W.findIn K (.ref CN) "__getattribute__" = some (some (.builtin "BaseException.__getattribute__"))) (n2 : PySem.W.findIn K (.ref CN) "__class__" = some (some (.builtin "object.__class__"))) (n3 : PySem.W.findIn K (.ref CN) "__getattr__" = some none) (n4 : PySem.W.mroIn K CN (.type "object") = some true) (n5 : PySem.W.mroIn K CN (.type "BaseException") = some true)
    (w1 : PySem.W.findIn K (.ref CW) "__getattribute__" = some (some (.builtin "BaseException.__getattribute__"))) (w2 : PySem.W.findIn K (.ref CW) "__class__" = some (some (.builtin "object.__class__"))) (w3 : PySem.W.findIn K (.ref CW) "__getattr__" = some none) (w4 : PySem.W.mroIn K CW (.type "object") = some true) (w5 : PySem.W.mroIn K CW (.type "BaseException") = some true)
    (k1 : PySem.W.kitOne K (.ref CN) (.type "ValueError") = some true) (k2 : PySem.W.kitOne K (.ref CW) (.type "ValueError") = some true) (k3 : PySem.W.kitOne K (.ref CN) (.ref CN) = some true) (k4 : PySem.W.kitOne K (.ref CN) (.ref CW) = some false) (k5 : PySem.W.kitOne K (.ref CW) (.ref CN) = some false) (k6 : PySem.W.kitOne K (.ref CW) (.ref CW) = some true) : ∃ CE CN CW,Errs K mg CE CN CW :=
  ⟨CE,CN,CW,⟨PySem.W.mg_of X G aE,xE⟩,⟨PySem.W.mg_of X G aN,xN⟩,⟨PySem.W.mg_of X G aW,xW⟩,tail_has bN xN nN,tail_has bW xW nW,⟨n1,n2,n3,n4,n5⟩,⟨w1,w2,w3,w4,w5⟩,k1,k2,k3,k4,k5,k6⟩
section
variable {P : Program} {w : World} {K : PySem.W.Frag} {mg : Str → Option Value} {base : Heap} {C : Cs} {CE CN CW : Addr}
theorem HallTx.eHand (X : HallTx K mg C) (Er : Errs K mg CE CN CW) : MtE P w K mg base C.h "need_hand" 1 ["self","hand"] (hrHand C CN):=MtE.mk' X.h.m_need_hand (fun _ _ F => er_hand F X.hc Er.n) (fun _ _ _ _ _ _ us hl => match us,hl with | [_,_],_ => rfl)
theorem HallTx.eTwo (X : HallTx K mg C) (Er : Errs K mg CE CN CW) : MtE P w K mg base C.h "need_two" 2 ["self","one","other"] (hrTwo C CN):=MtE.mk' X.h.m_need_two (fun _ _ F => er_two F X.hc Er.n (X.eHand Er)) (fun _ _ _ _ _ _ us hl => match us,hl with | [_,_,_],_ => rfl)
theorem HallTx.eBusy (X : HallTx K mg C) (Er : Errs K mg CE CN CW) : MtE P w K mg base C.h "need_working" 1 ["self","hand"] (hrBusy C CW):=MtE.mk' X.h.m_need_working (fun _ _ F => er_busy F X.hc Er.w) (fun _ _ _ _ _ _ us hl => match us,hl with | [_,_],_ => rfl)
theorem HallTx.refs (X : HallTx K mg C) (Er : Errs K mg CE CN CW) : Refs P w K mg base C.h CN CW (hallI K C) where
  cl:=X.h.cl
  send:=MtE.mono (MtE.mk' X.h.m_send (fun _ _ F => er_send F X.hc (X.eTwo Er) (X.eBusy Er)) (fun _ _ _ _ _ _ us hl => match us,hl with | [_,_,_],_ => rfl)) (by decide)
  take:=MtE.mono (MtE.mk' X.h.m_take (fun _ _ F => er_take F X.hc Er.w (X.eTwo Er) X.hWorks) (fun _ _ _ _ _ _ us hl => match us,hl with | [_,_,_],_ => rfl)) (by decide)
  back:=MtE.mono (MtE.mk' X.h.m_back (fun _ _ F => er_back F X.hc Er.w (X.eTwo Er) X.tSlips) (fun _ _ _ _ _ _ us hl => match us,hl with | [_,_,_],_ => rfl)) (by decide)
  works:=MtE.mono (MtE.mk' X.h.m_works (fun _ _ F => er_works F X.hc (X.eTwo Er)) (fun _ _ _ _ _ _ us hl => match us,hl with | [_,_,_],_ => rfl)) (by decide)
  receipts:=MtE.mono (MtE.mk' X.h.m_receipts (fun _ _ F => er_receipts F X.hc (X.eTwo Er)) (fun _ _ _ _ _ _ us hl => match us,hl with | [_,_,_],_ => rfl)) (by decide)
  weights_on:=MtE.mono (MtE.mk' X.h.m_weights_on (fun _ _ F => er_weights_on F X.hc (X.eTwo Er)) (fun _ _ _ _ _ _ us hl => match us,hl with | [_,_,_],_ => rfl)) (by decide)
  rest:=MtE.mono (MtE.mk' X.h.m_rest (fun _ _ F => er_rest F X.hc (X.eHand Er) (X.eBusy Er)) (fun _ _ _ _ _ _ us hl => match us,hl with | [_,_],_ => rfl)) (by decide)
  home:=MtE.mono (MtE.mk' X.h.m_home (fun _ _ F => er_home F X.hc Er.n Er.w (X.eHand Er) X.wHome) (fun _ _ _ _ _ _ us hl => match us,hl with | [_,_],_ => rfl)) (by decide)
  open_of:=MtE.mono (MtE.mk' X.h.m_open_of (fun _ _ F => er_open_of F X.hc (X.eHand Er)) (fun _ _ _ _ _ _ us hl => match us,hl with | [_,_],_ => rfl)) (by decide)
  above:=MtE.mono (MtE.mk' X.h.m_above (fun _ _ F => er_above F X.hc (X.eHand Er)) (fun _ _ _ _ _ _ us hl => match us,hl with | [_,_],_ => rfl)) (by decide)
  weight_of:=MtE.mono (MtE.mk' X.h.m_weight_of (fun _ _ F => er_weight_of F X.hc (X.eHand Er)) (fun _ _ _ _ _ _ us hl => match us,hl with | [_,_],_ => rfl)) (by decide)
  weights_home:=MtE.mono (MtE.mk' X.h.m_weights_home (fun _ _ F => er_weights_home F X.hc (X.eHand Er)) (fun _ _ _ _ _ _ us hl => match us,hl with | [_,_],_ => rfl)) (by decide)
  count_of:=MtE.mono (MtE.mk' X.h.m_count_of (fun _ _ F => er_count_of F X.hc (X.eHand Er)) (fun _ _ _ _ _ _ us hl => match us,hl with | [_,_],_ => rfl)) (by decide)
  colour_of:=MtE.mono (MtE.mk' X.h.m_colour_of (fun _ _ F => er_colour_of F X.hc (X.eHand Er)) (fun _ _ _ _ _ _ us hl => match us,hl with | [_,_],_ => rfl)) (by decide)
  pass_on:=MtE.mono (MtE.mk' X.h.m_pass_on (fun _ _ F => er_pass F X.hc X.rc Er.w) (fun _ _ _ _ _ _ us hl => match us,hl with | [_],_ => rfl)) (by decide)
end
end Qh
set_option Elab.async false
set_option linter.all false
set_option maxRecDepth 100000
namespace Qh
open PySem L2 Tx
section
variable {P : Program} {w : World} {K : PySem.W.Frag} {mg : Str → Option Value} {base : Heap} {C CE CN CW : Addr}
def canB (s : S) (way a b : Nat) : Bool:=match way with
  | 1 => decide (s.rows a b ≠ [])
  | 2 => decide (s.slips a b ≠ 0)
  | 7 => decide (s.hw a ≠ [])
  | _ => s.busy a
def spCan (I : HallI K C) : Sp:=fun vs H Q _ => ∃ (n : Nat) (p : Addr) (s : S) (F : Addr → Prop) (way a b : Nat),vs = [.ref p,.int (way : Nat),.int (a : Nat),.int (b : Nat)] ∧ I.At n H p s F ∧ (way = 0 ∨ way = 1 ∨ way = 2 ∨ way = 6 ∨ way = 7) ∧ a < n ∧ b < n ∧ a ≠ b ∧ ∀ H',Same H H' → Q (.bl (canB s way a b)) H'
theorem sc_can : FnScope ["_law_hall","_law_way","_law_one","_law_other"] ["_law_hall","_law_way","_law_one","_law_other"] (defScope s__law_can):=⟨rfl,rfl,rfl,by decide +kernel,rfl,by decide +kernel,by decide +kernel⟩
theorem ok_can {f : Addr} {fd : FuncData} {I : HallI K C} (F : Fun K "_law_can" "_law_can" s__law_can f fd) (T : Gs mg) (Q : Asks P w K mg base C I) : FnOk P w K mg base CX0 11 f fd ["_law_hall","_law_way","_law_one","_law_other"] (spCan I):=by
  refine F.ok sc_can (fun vs H Q E h => ?_) (fun cdv A outer s0 H vs Qq E hr h => ?_)
  · obtain ⟨_,_,_,_,_,_,_,rfl,_⟩:=h; rfl
  obtain ⟨n,p,s,Ft,way,a,b,rfl,hat,hw,ha,hb,hab,q⟩:=h
  obtain ⟨dx,fs,hp,hms⟩:=I.ins hat
  refine ⟨_,pss_cons (ps_if (PW.pt (pw_or (pt_cmpR op_eq (pv 1) pe_int (nomark _)) (pw_or1 (pt_cmpR op_eq (pv 1) pe_int (nomark _))))) (pss_one (ps_ret (pe_cmpR op_in_seq (pv 2) (pe_mt0 Q.working Q.cl hr (by decide) (pv 0)) (by with_unfolding_all rfl)))) pss_nil)
    (pss_cons (ps_if (pt_cmpR op_eq (pv 1) pe_int (nomark _)) (pss_one (ps_ret (pe_cmpR op_gt (pe_mt Q.works Q.cl hr (by decide) (pv 0) (pa_cons (pv 2) (pa_cons (pv 3) pa_nil))) pe_int (nomark _)))) pss_nil)
    (pss_cons (ps_if (pt_cmpR op_eq (pv 1) pe_int (nomark _)) (pss_one (ps_ret (pe_cmpR op_gt (pe_mt Q.receipts Q.cl hr (by decide) (pv 0) (pa_cons (pv 2) (pa_cons (pv 3) pa_nil))) pe_int (nomark _)))) pss_nil)
    (pss_one (ps_ret (pe_or (pe_cmpR op_ne (pv 1) pe_int (nomark _)) (pe_one (pe_cmpR op_gt (pe_callB call_len_seq (by rfl) T.len PySem.boot_len (pa_cons (pe_mt Q.home Q.cl hr (by decide) (pv 0) (pa_cons (pv 2) pa_nil)) pa_nil)) pe_int (nomark _)))))))),?_⟩
  rcases hw with rfl | rfl | rfl | rfl | rfl
  · refine ⟨_,rfl,rfl,_,rfl,yesI (iteT ?_)⟩
    refine ⟨_,rfl,_,rfl,p,dx,fs,rfl,hp,meths_has hms "working",n,p,s,Ft,rfl,hat,fun v H1 s1 ⟨u,e,hu⟩ => ?_⟩
    subst e
    refine ⟨u,_,rfl,.inr hu,rfl,flat_ints _,?_⟩
    rw [if_neg (by decide),inV_workers,show decide (a < n ∧ s.busy a = true) = s.busy a by simp [ha]]
    exact q H1 s1
  · refine ⟨_,rfl,rfl,_,rfl,noI (by decide) ⟨_,rfl,rfl,_,rfl,noI (by decide) ?_⟩⟩
    refine ⟨_,rfl,rfl,_,rfl,yesI ?_⟩
    refine ⟨_,rfl,p,dx,fs,rfl,hp,meths_has hms "works",_,rfl,_,rfl,n,p,s,Ft,a,b,rfl,hat,ha,hb,hab,fun v H1 s1 e => ?_⟩
    subst e
    refine ⟨_,_,rfl,rfl,?_⟩
    have e : decide ((0 : Int) < (((s.rows a b).length : Nat) : Int)) = canB s 1 a b:=by unfold canB; simp [List.length_pos_iff]
    have q1:=q H1 s1
    rw [← e] at q1
    exact q1
  · refine ⟨_,rfl,rfl,_,rfl,noI (by decide) ⟨_,rfl,rfl,_,rfl,noI (by decide) ?_⟩⟩
    refine ⟨_,rfl,rfl,_,rfl,noI (by decide) ?_⟩
    refine ⟨_,rfl,rfl,_,rfl,yesI ?_⟩
    refine ⟨_,rfl,p,dx,fs,rfl,hp,meths_has hms "receipts",_,rfl,_,rfl,n,p,s,Ft,a,b,rfl,hat,ha,hb,hab,fun v H1 s1 e => ?_⟩
    subst e
    refine ⟨_,_,rfl,rfl,?_⟩
    have e : decide ((0 : Int) < ((s.slips a b : Nat) : Int)) = canB s 2 a b:=by unfold canB; simp [Nat.pos_iff_ne_zero]
    have q1:=q H1 s1
    rw [← e] at q1
    exact q1
  · refine ⟨_,rfl,rfl,_,rfl,noI (by decide) ⟨_,rfl,rfl,_,rfl,yesI ?_⟩⟩
    refine ⟨_,rfl,_,rfl,p,dx,fs,rfl,hp,meths_has hms "working",n,p,s,Ft,rfl,hat,fun v H1 s1 ⟨u,e,hu⟩ => ?_⟩
    subst e
    refine ⟨u,_,rfl,.inr hu,rfl,flat_ints _,?_⟩
    rw [if_neg (by decide),inV_workers,show decide (a < n ∧ s.busy a = true) = s.busy a by simp [ha]]
    exact q H1 s1
  · refine ⟨_,rfl,rfl,_,rfl,noI (by decide) ⟨_,rfl,rfl,_,rfl,noI (by decide) ?_⟩⟩
    refine ⟨_,rfl,rfl,_,rfl,noI (by decide) ?_⟩
    refine ⟨_,rfl,rfl,_,rfl,noI (by decide) ?_⟩
    refine ⟨_,rfl,rfl,_,rfl,?_⟩
    rw [show (!decide (V.int ((7 : Nat) : Int) = V.int 7)) = false from rfl]
    refine iteF ⟨_,rfl,p,dx,fs,rfl,hp,meths_has hms "weights_home",_,rfl,n,p,s,Ft,a,rfl,hat,ha,fun v H1 s1 ⟨t,xs,e,ht,hx⟩ => ?_⟩
    subst e
    refine ⟨t,_,rfl,.inr ht,_,_,rfl,rfl,?_⟩
    have e : decide ((0 : Int) < ((xs.length : Nat) : Int)) = canB s 7 a b:=by unfold canB; rw [Paired.length hx]; simp [List.length_pos_iff]
    have q1:=q H1 s1
    rw [← e] at q1
    exact q1
theorem below {p : Nat → Prop} {n k : Nat} (h : k < n + 1) (a : k < n → p k) (b : p n) : p k:=(Nat.lt_succ_iff_lt_or_eq.mp h).elim a (fun e => e ▸ b)
theorem RA_bad {n way : Nat} {s : S} {a b : Int} (h : way < 14) (ha : badH n a) : RA CN CW n s way a b CN:=by
  refine below (p:=fun w => RA CN CW n s w a b CN) h (fun h => ?_) (by exact ⟨a,rfl,ha,rfl⟩)
  refine below (p:=fun w => RA CN CW n s w a b CN) h (fun h => ?_) (by exact ⟨a,rfl,ha,rfl⟩)
  refine below (p:=fun w => RA CN CW n s w a b CN) h (fun h => ?_) (by exact ⟨a,rfl,ha,rfl⟩)
  refine below (p:=fun w => RA CN CW n s w a b CN) h (fun h => ?_) (by exact ⟨a,rfl,ha,rfl⟩)
  refine below (p:=fun w => RA CN CW n s w a b CN) h (fun h => ?_) (by exact ⟨a,rfl,ha,rfl⟩)
  refine below (p:=fun w => RA CN CW n s w a b CN) h (fun h => ?_) (by exact ⟨a,rfl,ha,rfl⟩)
  refine below (p:=fun w => RA CN CW n s w a b CN) h (fun h => ?_) (by exact ⟨a,rfl,.inl ⟨ha,rfl⟩⟩)
  refine below (p:=fun w => RA CN CW n s w a b CN) h (fun h => ?_) (by exact ⟨a,rfl,.inl ⟨ha,rfl⟩⟩)
  refine below (p:=fun w => RA CN CW n s w a b CN) h (fun h => ?_) (by exact ⟨a,b,rfl,.inl ha,rfl⟩)
  refine below (p:=fun w => RA CN CW n s w a b CN) h (fun h => ?_) (by exact ⟨a,b,rfl,.inl ha,rfl⟩)
  refine below (p:=fun w => RA CN CW n s w a b CN) h (fun h => ?_) (by exact ⟨a,b,rfl,.inl ha,rfl⟩)
  refine below (p:=fun w => RA CN CW n s w a b CN) h (fun h => ?_) (by exact ⟨a,b,rfl,.inl ⟨.inl ha,rfl⟩⟩)
  refine below (p:=fun w => RA CN CW n s w a b CN) h (fun h => ?_) (by exact ⟨a,b,rfl,.inl ⟨.inl ha,rfl⟩⟩)
  refine below (p:=fun w => RA CN CW n s w a b CN) h (fun h => ?_) (by exact ⟨a,b,rfl,.inl ⟨.inl ha,rfl⟩⟩)
  exact absurd h (Nat.not_lt_zero _)
theorem RA_bad2 {n way : Nat} {s : S} {a b : Int} (h : way < 6) (ha : badT n a b) : RA CN CW n s way a b CN:=by
  refine below (p:=fun w => RA CN CW n s w a b CN) h (fun h => ?_) (by exact ⟨a,b,rfl,ha,rfl⟩)
  refine below (p:=fun w => RA CN CW n s w a b CN) h (fun h => ?_) (by exact ⟨a,b,rfl,ha,rfl⟩)
  refine below (p:=fun w => RA CN CW n s w a b CN) h (fun h => ?_) (by exact ⟨a,b,rfl,ha,rfl⟩)
  refine below (p:=fun w => RA CN CW n s w a b CN) h (fun h => ?_) (by exact ⟨a,b,rfl,.inl ⟨ha,rfl⟩⟩)
  refine below (p:=fun w => RA CN CW n s w a b CN) h (fun h => ?_) (by exact ⟨a,b,rfl,.inl ⟨ha,rfl⟩⟩)
  refine below (p:=fun w => RA CN CW n s w a b CN) h (fun h => ?_) (by exact ⟨a,b,rfl,.inl ⟨ha,rfl⟩⟩)
  exact absurd h (Nat.not_lt_zero _)
theorem goodH {n k : Nat} (h : k < n) : ¬ badH n (k : Int):=fun z => by unfold badH at z; omega
theorem RA_not {n way a b : Nat} {s : S} (hw : way = 0 ∨ way = 1 ∨ way = 2 ∨ way = 6 ∨ way = 7) (h7 : way = 7 → a ≠ 0) (ha : a < n) (hb : b < n) (hab : a ≠ b) (hc : canB s way a b = false) : RA CN CW n s way (a : Int) (b : Int) CW:=by
  have gt : ¬ badT n (a : Int) (b : Int):=fun z => z.elim (goodH ha) fun z => z.elim (goodH hb) fun z => hab (by omega)
  rcases hw with rfl | rfl | rfl | rfl | rfl
  · exact ⟨_,_,rfl,.inr ⟨gt,⟨a,rfl,hc⟩,rfl⟩⟩
  · exact ⟨_,_,rfl,.inr ⟨gt,by simpa [canB] using hc,rfl⟩⟩
  · exact ⟨_,_,rfl,.inr ⟨gt,by simpa [canB] using hc,rfl⟩⟩
  · exact ⟨_,rfl,.inr ⟨goodH ha,⟨a,rfl,hc⟩,rfl⟩⟩
  · exact ⟨_,rfl,.inr (.inr ⟨goodH ha,by have:=h7 rfl; omega,by simpa [canB] using hc,rfl⟩)⟩
theorem neS (x : V) : (!decide (x = x)) = false:=by simp
def Falls (c : TT) (σ : St) (H : Hp) : Prop:=∀ Q : Bool → Hp → Prop,(∀ H',Same H H' → Q false H') → c σ H Q
theorem if_no {c : TT} {T U : TS} {D : Ends} {σ : St} {H : Hp} (h : Falls c σ H) (rest : ∀ H',Same H H' → U D σ H') : tIfS c T U D σ H:=h _ fun H' s => iteF (rest H' s)
theorem if_noS {c : TT} {T R : TS} {D : Ends} {σ : St} {H : Hp} (h : Falls c σ H) (rest : ∀ H',Same H H' → R D σ H') : tSeq (tIfS c T tNext) R D σ H:=if_no h rest
theorem said_f {I : HallI K C} {ta : TA} {σ : St} {H : Hp} {E : XK} {y : Str} {n : Nat} {p : Addr} {s : S} {F : Addr → Prop} {way : Nat} {a b : Int} (x : Bool) (ht : ∀ Q : List V → Hp → Prop,Q [.ref p,.int way,.int a,.int b] H → ta σ H Q) (hw : way ≤ 14) (hat : I.At n H p s F) (hR : RA CN CW n s way a b (if x then CN else CW)) (hy : ansOf x = y) :
    Falls (tTest (tOp rNe (tCall (spSaid I CN CW) [] E ta) (tC (.str y)))) σ H:=fun Q q => ht _ ⟨n,p,s,F,way,a,b,x,rfl,hw,hat,hR,fun H' s' => by
      subst hy
      refine ⟨rfl,_,rfl,?_⟩
      rw [neS]
      exact q H' s'⟩
theorem and_f {t u : TT} {σ : St} {H : Hp} (h : ∀ Q : Bool → Hp → Prop,(∀ b H',Same H H' → (b = true → Falls u σ H') → Q b H') → t σ H Q) : Falls (tAnd t u) σ H:=fun Q q => h _ fun b H' s f => by
  cases b with
  | false => exact iteF (q H' s)
  | true => exact iteT (f rfl Q fun H2 s2 => q _ (s.trans s2))
theorem and_lt {u : TT} {σ : St} {H : Hp} {i : Nat} {x k : Int} (hσ : σ[i]? = some (some (.int x))) (h : x < k → Falls u σ H) : Falls (tAnd (tTest (tOp (rI0 fun i j => V.bl (decide (i < j))) (tVar i) (tC (.int k)))) u) σ H :=
  and_f fun Q q => ⟨_,hσ,_,_,rfl,rfl,_,rfl,q _ _ (Same.refl _) fun e => h (of_decide_eq_true e)⟩
theorem can_if {I : HallI K C} {ta : TA} {σ : St} {H : Hp} {E : XK} {n : Nat} {p : Addr} {s : S} {F : Addr → Prop} {way a b : Nat} {T : TS} {D : Ends} (h6 : σ[6]? = some (some (.int way))) (h7 : σ[7]? = some (some (.int a))) (ht : ∀ H' (Q : List V → Hp → Prop),Q [.ref p,.int way,.int a,.int b] H' → ta σ H' Q) (hat : I.At n H p s F) (hw : way = 0 ∨ way = 1 ∨ way = 2 ∨ way = 6 ∨ way = 7) (ha : a < n) (hb : b < n) (hab : a ≠ b)
    (yes : RA CN CW n s way a b CW → ∀ H',Same H H' → T D σ H') (no : ∀ H',Same H H' → D.nx σ H') :
    tIfS (tAnd (tOr (tTest (tOp (rI0 fun i j => V.bl (decide (i < j))) (tVar 6) (tC (.int 7)))) (tTest (tOp (rI0 fun i j => V.bl (decide (j < i))) (tVar 7) (tC (.int 0))))) (tNot (fun σ H Q => tCall (spCan I) [] E ta σ H fun x H' => ∃ k,TruV K x H' k ∧ Q k H'))) T tNext D σ H:=by
  have core : (way = 7 → a ≠ 0) → tCall (spCan I) [] E ta σ H fun x H' => ∃ k,TruV K x H' k ∧ (if (!k) = true then T D σ H' else D.nx σ H'):=fun h70 => ht _ _ ⟨n,p,s,F,way,a,b,rfl,hat,hw,ha,hb,hab,fun H1 s1 => ⟨_,rfl,by
    cases hc : canB s way a b with
    | true => exact iteF (no _ s1)
    | false => exact iteT (yes (RA_not hw h70 ha hb hab hc) _ s1)⟩⟩
  refine ⟨_,h6,_,_,rfl,rfl,_,rfl,?_⟩
  by_cases h : way < 7
  · rw [decide_eq_true (by omega)]
    exact iteT (iteT (core (by omega)))
  · rw [decide_eq_false (by omega)]
    refine iteF ⟨_,h7,_,_,rfl,rfl,_,rfl,?_⟩
    by_cases h0 : a = 0
    · rw [decide_eq_false (by omega)]
      exact iteF (iteF (no _ (Same.refl _)))
    · rw [decide_eq_true (by omega)]
      exact iteT (core (fun _ => h0))
abbrev N_law : List Str:=["_law_script","_law_many_here","_law_hall","_law_before","_law_far","_law_bad","_law_way","_law_one","_law_other"]
theorem sc_law : FnScope N_law ["_law_script"] (defScope s_law):=⟨rfl,rfl,rfl,by decide +kernel,rfl,by decide +kernel,by decide +kernel⟩
theorem cut_49 (ns : List Int) : (cutV (ns.map V.int) (some 1) (some 50)).length ≤ 49:=by
  have h1 : HT.sIx (ns.map V.int).length 0 (some ((1 : Nat) : Int)) = min 1 (ns.map V.int).length:=HT.sIx_nat _ _ _
  have h2 : HT.sIx (ns.map V.int).length (ns.map V.int).length (some ((50 : Nat) : Int)) = min 50 (ns.map V.int).length:=HT.sIx_nat _ _ _
  have h1 : HT.sIx (ns.map V.int).length 0 (some 1) = min 1 (ns.map V.int).length:=h1
  have h2 : HT.sIx (ns.map V.int).length (ns.map V.int).length (some 50) = min 50 (ns.map V.int).length:=h2
  unfold cutV
  rw [List.length_take,h1,h2]
  omega
theorem ok_law {f : Addr} {fd : FuncData} {I : HallI K C} (F : Fun K "law" "law" s_law f fd) (T : Gs mg) (Q : Asks P w K mg base C I) (Fcell : Fn P w K mg base "_law_cell" 1 ["_law_script","_law_k"] (spCell K)) (Fmany : Fn P w K mg base "_law_many" 2 ["_law_script"] (spMany K)) (Fr : Fn P w K mg base "_law_roads" 1 ["_law_many_here"] spRoads)
    (Fplay : Fn P w K mg base "_law_play" 13 ["_law_hall","_law_many_here","_law_cells"] (spPlay I)) (Fsh : Fn P w K mg base "_law_shown" 11 ["_law_hall","_law_many_here"] (spShown I)) (Fsaid : Fn P w K mg base "_law_said" 13 ["_law_hall","_law_way","_law_one","_law_other"] (spSaid I CN CW)) (Fcan : Fn P w K mg base "_law_can" 11 ["_law_hall","_law_way","_law_one","_law_other"] (spCan I))
    (Fhall : Mkr P w K mg base "Hall" C 10 ["self","many"] (spInit I)) : FnOk P w K mg base CX0 21 f fd ["_law_script"] (spLaw K):=by
  refine F.ok sc_law (fun vs H Q E h => ?_) (fun cdv A outer s0 H vs Qq E hr h => ?_)
  · obtain ⟨_,_,rfl,_⟩:=h; rfl
  obtain ⟨a,ns,rfl,hS,hlen,q⟩:=h
  refine ⟨_,pss_cons (ps_set (i:=1) sc_law.nd rfl (Or.inl rfl) (pe_fn Fmany hr (by decide) (pa_cons (pv 0) pa_nil)))
    (pss_cons (ps_set (i:=2) sc_law.nd rfl (Or.inl rfl) (pe_mk Fhall hr (by decide) (pa_cons (pv 1) pa_nil)))
    (pss_cons (ps_expr (pe_fn Fplay hr (by decide) (pa_cons (pv 2) (pa_cons (pv 1) (pa_cons (pe_slice sl_list (pv 0) (po_some pe_int) (po_some pe_int)) pa_nil)))))
    (pss_cons (ps_set (i:=3) sc_law.nd rfl (Or.inl rfl) (pe_fn Fsh hr (by decide) (pa_cons (pv 2) (pa_cons (pv 1) pa_nil))))
    (pss_cons (ps_set (i:=4) sc_law.nd rfl (Or.inl rfl) (pe_op op_mod (pe_fn Fcell hr (by decide) (pa_cons (pv 0) (pa_cons pe_int pa_nil))) (pe_op op_pow pe_int pe_int)))
    (pss_cons (ps_for PassesOwn.never rfl (pi_list (pe_lst (pa_cons (pe_un un_neg pe_int) (pa_cons (pv 1) (pa_cons (pe_op op_add (pv 1) (pv 4)) (pa_cons (pe_op op_sub (pe_un un_neg pe_int) (pv 4)) pa_nil)))))) (pg_name (i:=5) sc_law.nd rfl (Or.inl rfl))
      (pss_one (ps_for PassesOwn.never rfl (pi_range1 rfl T.range (pa_cons pe_int pa_nil)) (pg_name (i:=6) sc_law.nd rfl (Or.inl rfl))
        (pss_cons (ps_if (pt_cmpR op_ne (pe_fn Fsaid hr (by decide) (pa_cons (pv 2) (pa_cons (pv 6) (pa_cons (pv 5) (pa_cons pe_int pa_nil))))) pe_str (nomark _)) (pss_one (ps_ret pe_bl)) pss_nil)
        (pss_cons (ps_if (PW.pt (pw_and (pt_cmpR op_lt (pv 6) pe_int (nomark _)) (pw_and1 (pt_cmpR op_ne (pe_fn Fsaid hr (by decide) (pa_cons (pv 2) (pa_cons (pv 6) (pa_cons pe_int (pa_cons (pv 5) pa_nil))))) pe_str (nomark _))))) (pss_one (ps_ret pe_bl)) pss_nil)
        (pss_one (ps_if (PW.pt (pw_and (pt_cmpR op_lt (pv 6) pe_int (nomark _)) (pw_and1 (pt_cmpR op_ne (pe_fn Fsaid hr (by decide) (pa_cons (pv 2) (pa_cons (pv 6) (pa_cons pe_int (pa_cons pe_int pa_nil))))) pe_str (nomark _))))) (pss_one (ps_ret pe_bl)) pss_nil)))))))
    (pss_cons (ps_if (pt_cmpR op_ne (pe_fn Fsaid hr (by decide) (pa_cons (pv 2) (pa_cons pe_int (pa_cons pe_int (pa_cons pe_int pa_nil))))) pe_str (nomark _)) (pss_one (ps_ret pe_bl)) pss_nil)
    (pss_cons (ps_for PassesOwn.never rfl (pi_list (pe_fn Fr hr (by decide) (pa_cons (pv 1) pa_nil))) (pg_tup rfl (pgs_cons (pg_name (i:=7) sc_law.nd rfl (Or.inl rfl)) (pgs_cons (pg_name (i:=8) sc_law.nd rfl (Or.inl rfl)) pgs_nil)))
      (pss_one (ps_for PassesOwn.never rfl (pi_list (pe_lst (pa_cons pe_int (pa_cons pe_int (pa_cons pe_int (pa_cons pe_int (pa_cons pe_int pa_nil))))))) (pg_name (i:=6) sc_law.nd rfl (Or.inl rfl))
        (pss_one (ps_if (PW.pt (pw_and (PW.pt (pw_or (pt_cmpR op_lt (pv 6) pe_int (nomark _)) (pw_or1 (pt_cmpR op_gt (pv 7) pe_int (nomark _))))) (pw_and1 (pt_not (pt_truth (pe_fn Fcan hr (by decide) (pa_cons (pv 2) (pa_cons (pv 6) (pa_cons (pv 7) (pa_cons (pv 8) pa_nil))))) (fun _ => rfl))))))
          (pss_one (ps_if (pt_cmpR op_ne (pe_fn Fsaid hr (by decide) (pa_cons (pv 2) (pa_cons (pv 6) (pa_cons (pv 7) (pa_cons (pv 8) pa_nil))))) pe_str (nomark _)) (pss_one (ps_ret pe_bl)) pss_nil)) pss_nil)))))
    (pss_cons (ps_if (PW.pt (pw_and (pt_cmpR op_in_seq (pe_ix ix_tup (pe_mt0 Q.token Q.cl hr (by decide) (pv 2)) pe_int (fun _ _ => rfl)) (pe_mt0 Q.working Q.cl hr (by decide) (pv 2)) (by with_unfolding_all rfl)) (pw_and1 (pt_cmpR op_ne (pe_fn Fsaid hr (by decide) (pa_cons (pv 2) (pa_cons pe_int (pa_cons pe_int (pa_cons pe_int pa_nil))))) pe_str (nomark _))))) (pss_one (ps_ret pe_bl)) pss_nil)
    (pss_one (ps_ret (pe_cmpR (op_eqAl K rfl (huD hr)) (pe_fn Fsh hr (by decide) (pa_cons (pv 2) (pa_cons (pv 1) pa_nil))) (pv 3) (nomark _)))))))))))),?_⟩
  refine ⟨_,rfl,a,ns,rfl,hS,fun n hn2 hn6 => ?_⟩
  refine ⟨_,rfl,fun x dx nx ndx nex => ?_⟩
  refine ⟨n,x,dx,rfl,hn2,hn6,upd_same,by rw [upd_ne nex,upd_same],nex,fun H1 F1 at1 k1 f1 => ⟨rfl,?_⟩⟩
  have L1:=live_new nx ndx at1 k1 f1
  refine ⟨_,rfl,_,rfl,_,rfl,_,rfl,_,rfl,a,_,rfl,L1.same.seq hS,fun l hl => ?_⟩
  obtain ⟨cs,ec⟩:=cut_ints ns (some 1) (some 50)
  have hc:=cut_49 ns
  rw [ec] at hc
  rw [List.length_map] at hc
  rw [ec]
  have L2':=L1.lay hl (.lst (cs.map V.int))
  have hS2 : SqL K (upd H l (.lst (cs.map V.int))) a (ns.map V.int):=Same.seq (fun b o e => by rw [upd_ne (ne_of_none e (L1.same.free hl))]; exact e) hS
  obtain ⟨F2,at2,f2⟩:=L2'.ex
  have nf : ¬ F2 l:=fun z => by have:=f2 l z; rw [upd_same] at this; cases this
  refine ⟨n,x,l,new,F2,0,cs,rfl,upd_same,nf,at2,by omega,hn6,new_good (by omega),by omega,fun H3 F3 s m at3 k3 good hm _ => ?_⟩
  have L3 : Live I n (upd H l (.lst (cs.map V.int))) H3 x s:=Live.act f2 L2'.same at3 k3
  obtain ⟨F3',at3',f3⟩:=L3.ex
  refine ⟨_,rfl,_,rfl,n,x,s,F3',m,rfl,at3',hn2,hn6,good,by omega,fun lb H4 hlb s4 d4 => ?_⟩
  have at4:=I.same at3' s4
  refine ⟨_,rfl,a,ns,50,rfl,s4.seq (L3.same.seq hS2),_,_,rfl,rfl,⟨by decide,by decide,by decide⟩,_,_,rfl,rfl,(by show (0 : Int) < 10 ^ Int.toNat 20; decide),?_⟩
  have far0 : (0 : Int) ≤ ns.getD 50 0 % (10 : Int) ^ (20 : Int).toNat:=Int.emod_nonneg _ (by decide)
  dsimp only
  generalize ns.getD 50 0 % (10 : Int) ^ (20 : Int).toNat = far at far0 ⊢
  refine ⟨_,rfl,_,rfl,_,rfl,_,rfl,_,_,rfl,rfl,_,rfl,_,rfl,_,_,rfl,rfl,le1000 (by show 4 ≤ 1000; decide),fun lk hlk => ?_⟩
  have sk : Same H4 (upd H4 lk (.lst [V.int (-1),V.int n,V.int (n + far),V.int (-1 - far)])):=fun b o e => by rw [upd_ne (ne_of_none e hlk)]; exact e
  refine ⟨lk,rfl,⟨_,SqL.of upd_same⟩,?_⟩
  have bads : ∀ (i : Nat) (y : V),[V.int (-1),V.int n,V.int (n + far),V.int (-1 - far)][i]? = some y → ∃ b : Int,y = V.int b ∧ badH n b:=fun i y e => by
    match i,e with
    | 0,e => exact ⟨_,(Option.some.inj e).symm,.inl (by decide)⟩
    | 1,e => exact ⟨_,(Option.some.inj e).symm,.inr (Int.le_refl _)⟩
    | 2,e => exact ⟨_,(Option.some.inj e).symm,.inr (by omega)⟩
    | 3,e => exact ⟨_,(Option.some.inj e).symm,.inl (by omega)⟩
    | i + 4,e => simp at e
  refine for_list (xs:=[V.int (-1),V.int n,V.int (n + far),V.int (-1 - far)]) (fun i σ H5 => ∃ v5 v6 : Option V,σ = [some (.ref a),some (.int n),some (.ref x),some (.ref lb),some (.int far),v5,v6,none,none] ∧ Same (upd H4 lk (.lst [V.int (-1),V.int n,V.int (n + far),V.int (-1 - far)])) H5) ?_ ?_ ?_ ?_
  · exact ⟨none,none,rfl,Same.refl _⟩
  · rintro i σ H5 _ ⟨v5,v6,rfl,s5⟩
    exact SqL.of (s5 _ _ upd_same)
  · rintro i y σ H5 ey ⟨v5,v6,rfl,s5⟩
    obtain ⟨b,rfl,hb⟩:=bads i y ey
    dsimp only [gName]
    have at5:=I.same at4 (sk.trans s5)
    refine ⟨14,rfl,by decide,by decide,?_⟩
    rw [show (14 : Int).toNat = 14 from rfl]
    refine for_range (n:=14) (fun j σ H6 => ∃ v6 : Option V,σ = [some (.ref a),some (.int n),some (.ref x),some (.ref lb),some (.int far),some (.int b),v6,none,none] ∧ Same H5 H6) ?_ ?_ ?_
    · exact ⟨v6,rfl,Same.refl _⟩
    · rintro j σ H6 hj ⟨v6,rfl,s6⟩
      rw [Int.zero_add]
      dsimp only [gName]
      refine if_no (said_f true (fun _ h => ⟨_,rfl,_,rfl,_,rfl,h⟩) (by omega) (I.same at5 s6) (RA_bad hj hb) rfl) fun H7 s7 => ?_
      have at7:=I.same at5 (s6.trans s7)
      refine if_no (and_lt rfl fun h6 => said_f true (fun _ h => ⟨_,rfl,_,rfl,_,rfl,h⟩) (by omega) at7 (RA_bad2 (Int.ofNat_lt.mp h6) (.inr (.inl hb))) rfl) fun H8 s8 => ?_
      exact if_no (and_lt rfl fun h6 => said_f true (a:=1) (b:=1) (fun _ h => ⟨_,rfl,_,rfl,h⟩) (by omega) (I.same at7 s8) (RA_bad2 (Int.ofNat_lt.mp h6) (.inr (.inr rfl))) rfl) fun H9 s9 => ⟨_,rfl,s6.trans (s7.trans (s8.trans s9))⟩
    · rintro σ H6 ⟨v6,rfl,s6⟩
      exact ⟨_,_,rfl,s5.trans s6⟩
  rintro σ H5 ⟨v5,v6,rfl,s5⟩
  have s45:=sk.trans s5
  have at5:=I.same at4 s45
  dsimp only
  refine if_noS ?_ fun H6 s6 => ?_
  · exact said_f true (way:=7) (a:=0) (b:=1) (fun _ h => ⟨_,rfl,h⟩) (by decide) at5 ⟨0,rfl,.inr (.inl ⟨goodH (k:=0) (by omega),rfl,rfl⟩)⟩ rfl
  have s46:=s45.trans s6
  refine ⟨_,rfl,n,rfl,hn6,fun lr rs H7 hlr s7 h7 p7 => ?_⟩
  have rlen : (roads n).length = rs.length:=by have:=Paired.length p7; rw [List.length_map] at this; exact this
  have s47:=s46.trans s7
  refine ⟨lr,rfl,⟨_,SqL.of h7⟩,?_⟩
  refine for_list (xs:=rs) (fun i σ H8 => ∃ v6 v7 v8 : Option V,σ = [some (.ref a),some (.int n),some (.ref x),some (.ref lb),some (.int far),v5,v6,v7,v8] ∧ Same H7 H8) ?_ ?_ ?_ ?_
  · exact ⟨v6,none,none,rfl,Same.refl _⟩
  · rintro i σ H8 _ ⟨v6,v7,v8,rfl,s8⟩
    exact SqL.of (s8 _ _ h7)
  · rintro i y σ H8 ex ⟨v6,v7,v8,rfl,s8⟩
    have hi : i < (roads n).length:=by rw [rlen]; exact (List.getElem?_eq_some_iff.mp ex).1
    have er' : (roads n)[i]? = some (roads n)[i]:=List.getElem?_eq_getElem hi
    obtain ⟨t,rfl,ht⟩:=Paired.get p7 (rows_get er') ex
    generalize (roads n)[i] = rd at er' ht
    obtain ⟨r1,r2,r3⟩:=mem_roads.mp (List.mem_of_getElem? er')
    refine ⟨t,rv rd,rfl,SqT.of (s8 _ _ ht),rfl,_,_,rfl,_,_,rfl,rfl,?_⟩
    dsimp only
    refine ⟨le1000 (by show 5 ≤ 1000; decide),fun lw hlw => ?_⟩
    have sw : Same H8 (upd H8 lw (.lst [V.int 0,V.int 1,V.int 2,V.int 6,V.int 7])):=fun b o e => by rw [upd_ne (ne_of_none e hlw)]; exact e
    refine ⟨lw,rfl,⟨_,SqL.of upd_same⟩,?_⟩
    refine for_list (xs:=[V.int 0,V.int 1,V.int 2,V.int 6,V.int 7]) (fun j σ H9 => ∃ v6 : Option V,σ = [some (.ref a),some (.int n),some (.ref x),some (.ref lb),some (.int far),v5,v6,some (.int (rd.1 : Nat)),some (.int (rd.2 : Nat))] ∧ Same (upd H8 lw (.lst [V.int 0,V.int 1,V.int 2,V.int 6,V.int 7])) H9) ?_ ?_ ?_ ?_
    · exact ⟨v6,rfl,Same.refl _⟩
    · rintro j σ H9 _ ⟨v6,rfl,s9⟩
      exact SqL.of (s9 _ _ upd_same)
    · rintro j y σ H9 ey ⟨v6,rfl,s9⟩
      obtain ⟨way,rfl,hw⟩ : ∃ way : Nat,y = .int (way : Nat) ∧ (way = 0 ∨ way = 1 ∨ way = 2 ∨ way = 6 ∨ way = 7):=by
        match j,ey with
        | 0,ey => exact ⟨0,(Option.some.inj ey).symm,by omega⟩
        | 1,ey => exact ⟨1,(Option.some.inj ey).symm,by omega⟩
        | 2,ey => exact ⟨2,(Option.some.inj ey).symm,by omega⟩
        | 3,ey => exact ⟨6,(Option.some.inj ey).symm,by omega⟩
        | 4,ey => exact ⟨7,(Option.some.inj ey).symm,by omega⟩
        | j + 5,ey => simp at ey
      dsimp only [gName]
      have at9:=I.same at4 (s47.trans (s8.trans (sw.trans s9)))
      refine can_if (CN:=CN) (CW:=CW) rfl rfl (fun _ _ h => ⟨_,rfl,_,rfl,_,rfl,_,rfl,h⟩) at9 hw r1 r2 r3 (fun hR H10 s10 => ?_) (fun H10 s10 => ⟨_,rfl,s9.trans s10⟩)
      exact if_no (said_f false (fun _ h => ⟨_,rfl,_,rfl,_,rfl,_,rfl,h⟩) (by omega) (I.same at9 s10) hR rfl) fun H11 s11 => ⟨_,rfl,s9.trans (s10.trans s11)⟩
    · rintro σ H9 ⟨v6,rfl,s9⟩
      exact ⟨_,_,_,rfl,s8.trans (sw.trans s9)⟩
  rintro σ H8 ⟨v6,v7,v8,rfl,s8⟩
  have s48:=s47.trans s8
  have at8:=I.same at4 s48
  obtain ⟨dx8,fs8,hp8,hms8⟩:=I.ins at8
  dsimp only
  refine if_noS (and_f fun Q2 q2 => ⟨_,rfl,x,dx8,fs8,rfl,hp8,meths_has hms8 "token",n,x,s,F3',rfl,at8,fun v H9 s9 ⟨t,e,ht⟩ => ?_⟩) fun H11 s11 => ?_
  · subst e
    have at9:=I.same at8 s9
    obtain ⟨dx9,fs9,hp9,hms9⟩:=I.ins at9
    refine ⟨t,_,_,_,rfl,rfl,ht,rfl,_,rfl,x,dx9,fs9,rfl,hp9,meths_has hms9 "working",n,x,s,F3',rfl,at9,fun v H10 s10 ⟨u,e,hu⟩ => ?_⟩
    subst e
    refine ⟨u,_,rfl,.inr hu,rfl,flat_ints _,_,rfl,q2 _ _ (s9.trans s10) fun hb => ?_⟩
    rw [if_neg (by decide),inV_workers] at hb
    exact said_f false (way:=14) (a:=0) (b:=0) (fun _ h => ⟨_,rfl,h⟩) (by decide) (I.same at9 s10) ⟨rfl,(of_decide_eq_true hb).2,rfl⟩ rfl
  · refine ⟨_,rfl,_,rfl,n,x,s,F3',m,rfl,I.same at8 s11,hn2,hn6,good,by omega,fun lc H12 hlc s12 d12 => ?_⟩
    exact ⟨_,rfl,dShown n s,rfl,d12,d4.same (s48.trans (s11.trans s12)),q _⟩
end
end Qh
set_option Elab.async false
set_option linter.all false
namespace PySem.W.Fast
theorem te434797855784111502:True:=⟨⟩
theorem te17812845218940312234:True:=⟨⟩
theorem te2375946507403275147:True:=⟨⟩
theorem te15245952256298279972:True:=⟨⟩
theorem te123549097363207475:True:=⟨⟩
theorem te13231639270061360208:True:=⟨⟩
theorem te1869802637704800135:True:=⟨⟩
theorem te16766523911738819014:True:=⟨⟩
theorem te518024650242841541:True:=⟨⟩
theorem te10074842915427260843:True:=⟨⟩
theorem te3907896047519882945:True:=⟨⟩
theorem te2768650029558922303:True:=⟨⟩
theorem te13574819132916759234:True:=⟨⟩
theorem te7984058659592756827:True:=⟨⟩
theorem te16162332329253414956:True:=⟨⟩
theorem te18173551699777323295:True:=⟨⟩
theorem te18021795409510418512:True:=⟨⟩
theorem te1413242693650385754:True:=⟨⟩
theorem te9334503503370992135:True:=⟨⟩
theorem te16590848944388699914:True:=⟨⟩
theorem te13124858960604584284:True:=⟨⟩
theorem te10274199603212271431:True:=⟨⟩
theorem te14669441916544108629:True:=⟨⟩
theorem te10698240251823091821:True:=⟨⟩
theorem te8467231454710437420:True:=⟨⟩
theorem te4968369703555810734:True:=⟨⟩
theorem te13316228869334357314:True:=⟨⟩
theorem te11023625742468660987:True:=⟨⟩
theorem te17976713120257564041:True:=⟨⟩
theorem te8824998579360975257:True:=⟨⟩
theorem te16575244926641154307:True:=⟨⟩
theorem te5654063272759364338:True:=⟨⟩
theorem te11975976755473026624:True:=⟨⟩
theorem te7085421455749967349:True:=⟨⟩
theorem te656422856227716666:True:=⟨⟩
theorem te1716210133395917996:True:=⟨⟩
theorem te2296110663976382614:True:=⟨⟩
theorem te3366249580533534753:True:=⟨⟩
theorem te574478258554908935:True:=⟨⟩
theorem te10643973762927139756:True:=⟨⟩
theorem te4966938694848899827:True:=⟨⟩
theorem te11664395043293160750:True:=⟨⟩
theorem te17144370432962979196:True:=⟨⟩
theorem te12417424744657255201:True:=⟨⟩
theorem te9570765754026358431:True:=⟨⟩
theorem te2415441078052330902:True:=⟨⟩
theorem te2858303012538239131:True:=⟨⟩
theorem te1676413494697124986:True:=⟨⟩
theorem te2210310430527529522:True:=⟨⟩
theorem te7325433337926857196:True:=⟨⟩
theorem te6535071100252065459:True:=⟨⟩
theorem te18129853511898884083:True:=⟨⟩
theorem te18197596240042562001:True:=⟨⟩
theorem te8564033814235810939:True:=⟨⟩
theorem te3148490623985802186:True:=⟨⟩
theorem te3178297696956901484:True:=⟨⟩
theorem te2229058243771217694:True:=⟨⟩
theorem te6526540620165112794:True:=⟨⟩
theorem te14168975768451568507:True:=⟨⟩
theorem te18157792808837084279:True:=⟨⟩
theorem te8249567956101898086:True:=⟨⟩
theorem te13666430288419399497:True:=⟨⟩
theorem te11027054253408457235:True:=⟨⟩
theorem te10481543040226259396:True:=⟨⟩
theorem te278610345353449829:True:=⟨⟩
theorem te14678383517114096364:True:=⟨⟩
theorem te4386791501047817047:True:=⟨⟩
theorem te1289517971845919075:True:=⟨⟩
theorem te1741776462254867666:True:=⟨⟩
theorem te2399205308501637744:True:=⟨⟩
theorem te10033112897145713347:True:=⟨⟩
theorem te6936169195111340433:True:=⟨⟩
theorem te16438236995991631412:True:=⟨⟩
theorem te5462709507500633563:True:=⟨⟩
theorem te12274645271100933259:True:=⟨⟩
theorem te1459747468471272887:True:=⟨⟩
theorem te7951089732208757392:True:=⟨⟩
theorem te16014556879941777193:True:=⟨⟩
theorem te11544535339230650143:True:=⟨⟩
theorem te14851949388951212970:True:=⟨⟩
theorem te2919202115900939763:True:=⟨⟩
theorem te18265798707894021970:True:=⟨⟩
theorem te13971299772595746746:True:=⟨⟩
theorem te13622653975755816636:True:=⟨⟩
theorem te9107083839275746714:True:=⟨⟩
theorem te14766318779762356239:True:=⟨⟩
theorem te15507894735318600108:True:=⟨⟩
theorem te13069108386006440842:True:=⟨⟩
theorem te864458156427142997:True:=⟨⟩
theorem te3576525560437177201:True:=⟨⟩
theorem te10694177185215811602:True:=⟨⟩
theorem te15524717083659999168:True:=⟨⟩
theorem te1839731087377180631:True:=⟨⟩
theorem te13771706452470147337:True:=⟨⟩
theorem te13694244127005953994:True:=⟨⟩
theorem te2624231967019489079:True:=⟨⟩
theorem te11715990947975387026:True:=⟨⟩
theorem te14021826769851808241:True:=⟨⟩
theorem te3641533498267462373:True:=⟨⟩
theorem te9238140763257374805:True:=⟨⟩
theorem te13769020623452022122:True:=⟨⟩
theorem te384648331846768408:True:=⟨⟩
theorem te10540498341394835935:True:=⟨⟩
theorem te6786307370644652600:True:=⟨⟩
theorem te13121243579190011408:True:=⟨⟩
theorem te2912947367844722103:True:=⟨⟩
theorem te15273961097677165119:True:=⟨⟩
theorem te16678993371181804303:True:=⟨⟩
theorem te14114266427138137731:True:=⟨⟩
theorem te9728389390464464879:True:=⟨⟩
theorem te13945118010387822738:True:=⟨⟩
theorem te12875220964234642338:True:=⟨⟩
theorem te10478058242264150511:True:=⟨⟩
theorem te14232305904569288458:True:=⟨⟩
theorem te619968625235271669:True:=⟨⟩
theorem te16125742746329686321:True:=⟨⟩
theorem te7912859946200133114:True:=⟨⟩
theorem te5159649955735627934:True:=⟨⟩
theorem te1884880496483276929:True:=⟨⟩
theorem te15550378699859916730:True:=⟨⟩
theorem te8135531258689603007:True:=⟨⟩
theorem te16685932468387180787:True:=⟨⟩
theorem te11449065282401233276:True:=⟨⟩
theorem te11623756232613324225:True:=⟨⟩
theorem te9621730850204627550:True:=⟨⟩
theorem te3015196054908619533:True:=⟨⟩
theorem te12553503150741964130:True:=⟨⟩
theorem te10866808132377999540:True:=⟨⟩
theorem te1980788218183633646:True:=⟨⟩
theorem te560541444520314096:True:=⟨⟩
theorem te13779531019578044005:True:=⟨⟩
theorem te15199845870399246492:True:=⟨⟩
theorem te7816267723139285769:True:=⟨⟩
theorem te9814443621933131716:True:=⟨⟩
theorem te2874254636108370904:True:=⟨⟩
theorem te13951563968303196556:True:=⟨⟩
theorem te305886320446028246:True:=⟨⟩
theorem te17995174931560107959:True:=⟨⟩
theorem te12011361945581363364:True:=⟨⟩
theorem te9515707976751036070:True:=⟨⟩
theorem te4211820048870349093:True:=⟨⟩
theorem te1067016075947615305:True:=⟨⟩
theorem te15128119574276750917:True:=⟨⟩
theorem te15610153624430709494:True:=⟨⟩
theorem te10071856439358870982:True:=⟨⟩
theorem te15952067972138193891:True:=⟨⟩
theorem te3666969819727169565:True:=⟨⟩
theorem te2548163158040461446:True:=⟨⟩
theorem te5887595207191596691:True:=⟨⟩
theorem te7823978380461944316:True:=⟨⟩
theorem te15965636137700913352:True:=⟨⟩
theorem te8112484437071553777:True:=⟨⟩
theorem te8929780231526819185:True:=⟨⟩
theorem te18247150265493619124:True:=⟨⟩
theorem te948785871538039783:True:=⟨⟩
theorem te10293072895028076536:True:=⟨⟩
theorem te2506930646920547964:True:=⟨⟩
theorem te3802858989050524335:True:=⟨⟩
theorem te16560424562088064964:True:=⟨⟩
theorem te13941369319090927743:True:=⟨⟩
theorem te1064770944829898086:True:=⟨⟩
theorem te11616962546008229018:True:=⟨⟩
theorem te2617210194386900070:True:=⟨⟩
theorem te7314560986369671784:True:=⟨⟩
theorem te13728702068908057632:True:=⟨⟩
theorem te5140103870138753105:True:=⟨⟩
theorem te18407013387940072393:True:=⟨⟩
theorem te9020781096261351057:True:=⟨⟩
theorem te13694253269211020180:True:=⟨⟩
theorem te322852123408658603:True:=⟨⟩
theorem te10346465499735592426:True:=⟨⟩
theorem te17790687375875147495:True:=⟨⟩
theorem te11667147547221012590:True:=⟨⟩
theorem te17845626558349354624:True:=⟨⟩
theorem te7021435231401307068:True:=⟨⟩
theorem te2460710602330983813:True:=⟨⟩
theorem te10258011981783060253:True:=⟨⟩
theorem te11062937404484264052:True:=⟨⟩
theorem te7808577047213212770:True:=⟨⟩
theorem te7842823817794100636:True:=⟨⟩
theorem te9322104690231093680:True:=⟨⟩
theorem te12459451206617093005:True:=⟨⟩
theorem te9606677383622944874:True:=⟨⟩
theorem te18012455637756556717:True:=⟨⟩
theorem te9850265490908049915:True:=⟨⟩
theorem te14387977345620123965:True:=⟨⟩
theorem te12997277700725257350:True:=⟨⟩
theorem te8569297831414244824:True:=⟨⟩
theorem te11940560292161436080:True:=⟨⟩
theorem te17443756548820657687:True:=⟨⟩
theorem te5597653399699130807:True:=⟨⟩
theorem te1277972160050087505:True:=⟨⟩
theorem te12838549078039475115:True:=⟨⟩
theorem te8772212584327594968:True:=⟨⟩
theorem te9762230841333490601:True:=⟨⟩
theorem te15867970936913632056:True:=⟨⟩
theorem te17158246166678726321:True:=⟨⟩
theorem te1607358939266745750:True:=⟨⟩
theorem te12188307496937409906:True:=⟨⟩
theorem te12833826006168680082:True:=⟨⟩
theorem te6799957411016015717:True:=⟨⟩
theorem te8548644714583782243:True:=⟨⟩
theorem te8594147178320929840:True:=⟨⟩
theorem te1827365289920162976:True:=⟨⟩
theorem te1139060558689117883:True:=⟨⟩
theorem te11692129815027164867:True:=⟨⟩
theorem te10241086688693997139:True:=⟨⟩
theorem te5012835926527389477:True:=⟨⟩
theorem te3642846637888537330:True:=⟨⟩
theorem te14359091653535044557:True:=⟨⟩
theorem te11886615501808358841:True:=⟨⟩
theorem te15300777167441958755:True:=⟨⟩
theorem te910727381934951769:True:=⟨⟩
theorem te1997223658411482481:True:=⟨⟩
theorem te10961117205750619199:True:=⟨⟩
theorem te15191112870733746002:True:=⟨⟩
theorem te16570495754935317132:True:=⟨⟩
theorem te2033600028992753830:True:=⟨⟩
theorem te6931254037627324914:True:=⟨⟩
theorem te14963696648849525973:True:=⟨⟩
theorem te4980507693194318833:True:=⟨⟩
theorem te10793184617140475602:True:=⟨⟩
theorem te14467890010246870265:True:=⟨⟩
theorem te7121176044893190205:True:=⟨⟩
theorem te5561625051927096045:True:=⟨⟩
theorem te16780723351171807602:True:=⟨⟩
theorem te4398913387524158537:True:=⟨⟩
theorem te1454940848433387536:True:=⟨⟩
theorem te5633390819686336301:True:=⟨⟩
theorem te14936834859798588995:True:=⟨⟩
theorem te1170222377458433211:True:=⟨⟩
theorem te3126444758092546151:True:=⟨⟩
theorem te6583535849353816733:True:=⟨⟩
theorem te11549282690853689171:True:=⟨⟩
theorem te6260213262753475888:True:=⟨⟩
theorem te9896748445744476435:True:=⟨⟩
theorem te10281214667151154624:True:=⟨⟩
theorem te10556014293233844818:True:=⟨⟩
theorem te11445906091390023272:True:=⟨⟩
theorem te14618334231812040716:True:=⟨⟩
theorem te6207195940247148979:True:=⟨⟩
theorem te16896631668954757207:True:=⟨⟩
theorem te5058787871436163590:True:=⟨⟩
theorem te109972183550527852:True:=⟨⟩
theorem te12129345533828952427:True:=⟨⟩
theorem te15677540863887520012:True:=⟨⟩
theorem te3663455758900224800:True:=⟨⟩
theorem te12899213189203661126:True:=⟨⟩
theorem te1836933801131597787:True:=⟨⟩
theorem te3128194145855441319:True:=⟨⟩
theorem te561930451840713185:True:=⟨⟩
theorem te13045933603492175278:True:=⟨⟩
theorem te4044174355710832964:True:=⟨⟩
theorem te3769262753734328627:True:=⟨⟩
theorem te3470411652541567122:True:=⟨⟩
theorem te4941261036293574984:True:=⟨⟩
theorem te15770663048824355236:True:=⟨⟩
theorem te5200005485039351077:True:=⟨⟩
theorem te13632760521292032413:True:=⟨⟩
theorem te9702531954292534795:True:=⟨⟩
theorem te18145663515597202125:True:=⟨⟩
theorem te8943272077911204024:True:=⟨⟩
theorem te921719654487172599:True:=⟨⟩
theorem te16498058625563522950:True:=⟨⟩
theorem te2846617549712825065:True:=⟨⟩
theorem te18100305149631614913:True:=⟨⟩
theorem te7359743928115447727:True:=⟨⟩
theorem te9980490628974344547:True:=⟨⟩
theorem te9933202399222226314:True:=⟨⟩
theorem te17317480668051398898:True:=⟨⟩
theorem te16179675623849278962:True:=⟨⟩
theorem te14635936957852820568:True:=⟨⟩
theorem te6624381923591100164:True:=⟨⟩
theorem te6618245470431903556:True:=⟨⟩
theorem te10951053111911693458:True:=⟨⟩
theorem te10150465912275704558:True:=⟨⟩
theorem te11921430280192691220:True:=⟨⟩
theorem te16081439617565790279:True:=⟨⟩
theorem te2235520800672343825:True:=⟨⟩
theorem te6324975767117106403:True:=⟨⟩
theorem te2711994301442036667:True:=⟨⟩
theorem te11917224871239903579:True:=⟨⟩
theorem te1238703097973631916:True:=⟨⟩
theorem te6817465912767350795:True:=⟨⟩
theorem te8039114286162355180:True:=⟨⟩
theorem te9342984713225590952:True:=⟨⟩
theorem te2776365076596036811:True:=⟨⟩
theorem te10587151388399539557:True:=⟨⟩
theorem te13596367226158989306:True:=⟨⟩
theorem te7849347004040658393:True:=⟨⟩
theorem te11924361923008003863:True:=⟨⟩
theorem te2939776703731063942:True:=⟨⟩
theorem te4619059651402612512:True:=⟨⟩
theorem te10698630966250019067:True:=⟨⟩
theorem te10153402014038613169:True:=⟨⟩
theorem te11212819149013439110:True:=⟨⟩
theorem te14663634276441154112:True:=⟨⟩
theorem te1588454818007377742:True:=⟨⟩
theorem te4303567451567293383:True:=⟨⟩
theorem te416952923914288903:True:=⟨⟩
theorem te987181360184568386:True:=⟨⟩
theorem te1347082054789237475:True:=⟨⟩
theorem te168866536650042512:True:=⟨⟩
theorem te5373413828535136321:True:=⟨⟩
theorem te1311744977092201324:True:=⟨⟩
theorem te12036747779229757491:True:=⟨⟩
theorem te13437724354370451051:True:=⟨⟩
theorem te11509019022681333254:True:=⟨⟩
theorem te950307898104318128:True:=⟨⟩
theorem te499944554726983659:True:=⟨⟩
theorem te15304003821959619755:True:=⟨⟩
theorem te14410365385836977452:True:=⟨⟩
theorem te7861927325946687209:True:=⟨⟩
theorem te431432723260185848:True:=⟨⟩
theorem te6011397878960878368:True:=⟨⟩
theorem te1408024141620703818:True:=⟨⟩
theorem te13272815917427739042:True:=⟨⟩
theorem te12147828127609432947:True:=⟨⟩
theorem te16667267442309632210:True:=⟨⟩
theorem te1095820670523911065:True:=⟨⟩
theorem te2165100838526925355:True:=⟨⟩
theorem te15658722416417590550:True:=⟨⟩
theorem te15659966556463958276:True:=⟨⟩
theorem te7703141106078412539:True:=⟨⟩
theorem te631362761057657855:True:=⟨⟩
theorem te8729621444745990777:True:=⟨⟩
theorem te1149289936474661660:True:=⟨⟩
theorem te7566570616768284162:True:=⟨⟩
theorem te4813541813379245009:True:=⟨⟩
theorem te4493039091475983802:True:=⟨⟩
theorem te6916358731219993252:True:=⟨⟩
theorem te12855905019412810147:True:=⟨⟩
theorem te9916157783411136611:True:=⟨⟩
theorem te16737740672487413994:True:=⟨⟩
theorem te13938219927764792667:True:=⟨⟩
theorem te759789032275109805:True:=⟨⟩
theorem te11988229881721941158:True:=⟨⟩
theorem te8700037563090088080:True:=⟨⟩
theorem te1398281048893924237:True:=⟨⟩
theorem te4418779259243923459:True:=⟨⟩
theorem te4682838842344287438:True:=⟨⟩
theorem te7316642447159810568:True:=⟨⟩
theorem te15316788367714280708:True:=⟨⟩
theorem te4909768156881232543:True:=⟨⟩
theorem te17260313788416458959:True:=⟨⟩
theorem te12847151166368240802:True:=⟨⟩
theorem te2096445388082116534:True:=⟨⟩
theorem te17551241316820832974:True:=⟨⟩
theorem te3715391768340537884:True:=⟨⟩
theorem te1377153240743839025:True:=⟨⟩
theorem te16830776077621397292:True:=⟨⟩
theorem te4278802383548266511:True:=⟨⟩
theorem te11497545450464680574:True:=⟨⟩
theorem te15318795186307742669:True:=⟨⟩
theorem te14869873079138108411:True:=⟨⟩
theorem te1199002779179961862:True:=⟨⟩
theorem te15042746525201360468:True:=⟨⟩
theorem te12950473994090954604:True:=⟨⟩
theorem te7146291855963053726:True:=⟨⟩
theorem te14773215926614530891:True:=⟨⟩
theorem te3784073298215198919:True:=⟨⟩
theorem te13826226029924193477:True:=⟨⟩
theorem te8493708560531853973:True:=⟨⟩
theorem te13758169632066559696:True:=⟨⟩
theorem te9672530496631905818:True:=⟨⟩
theorem te12927169407586040668:True:=⟨⟩
theorem te8081236151002253542:True:=⟨⟩
theorem te18155319080021847079:True:=⟨⟩
theorem te17109438948283812826:True:=⟨⟩
theorem te10068076048502502834:True:=⟨⟩
theorem te5698617873175029805:True:=⟨⟩
theorem te4598120285947091505:True:=⟨⟩
theorem te11737904279924256120:True:=⟨⟩
theorem te18377140791573480021:True:=⟨⟩
theorem te1972974666521083290:True:=⟨⟩
theorem te2150646565697183844:True:=⟨⟩
theorem te4645400731168686514:True:=⟨⟩
theorem te1620572464623724314:True:=⟨⟩
theorem te16707250639259324455:True:=⟨⟩
theorem te18338143088539691795:True:=⟨⟩
theorem te15212481594178550175:True:=⟨⟩
theorem te12810850634466029426:True:=⟨⟩
theorem te991701527293425306:True:=⟨⟩
theorem te16809561700553734314:True:=⟨⟩
theorem te4750759261035275266:True:=⟨⟩
theorem te18120918681393338597:True:=⟨⟩
theorem te16295427812770757497:True:=⟨⟩
theorem te14024001795941999026:True:=⟨⟩
theorem te4601614334367664319:True:=⟨⟩
theorem te9485752358323466080:True:=⟨⟩
theorem te1126057020207660039:True:=⟨⟩
theorem te16502492484755779823:True:=⟨⟩
theorem te16040196998803429589:True:=⟨⟩
theorem te5772644638616611317:True:=⟨⟩
theorem te5411417248448278773:True:=⟨⟩
theorem te11657375811415747692:True:=⟨⟩
theorem te659322883482285554:True:=⟨⟩
theorem te3818012719075752854:True:=⟨⟩
theorem te10879964022628846558:True:=⟨⟩
theorem te2903303078928071026:True:=⟨⟩
theorem te15137861201687559486:True:=⟨⟩
theorem te2683215375220541392:True:=⟨⟩
theorem te8937765308778287783:True:=⟨⟩
theorem te1789148365487412409:True:=⟨⟩
theorem te6728770175768602425:True:=⟨⟩
theorem te4568667440322862917:True:=⟨⟩
theorem te1147707074400179019:True:=⟨⟩
theorem te2354612165851001643:True:=⟨⟩
theorem te11915632788346094421:True:=⟨⟩
theorem te5065473960221318108:True:=⟨⟩
theorem te5551007726657265922:True:=⟨⟩
theorem te1564677768053601365:True:=⟨⟩
theorem te15050561534936057633:True:=⟨⟩
theorem te6648006202534374541:True:=⟨⟩
theorem te7185943370786456785:True:=⟨⟩
theorem te10033926500731679366:True:=⟨⟩
theorem te13381594979726500071:True:=⟨⟩
theorem te8623912030261589717:True:=⟨⟩
theorem te4198796997112517378:True:=⟨⟩
theorem te9814005159604844947:True:=⟨⟩
theorem te15027672837775726718:True:=⟨⟩
theorem te9829828777486901124:True:=⟨⟩
theorem te13050568271503765935:True:=⟨⟩
theorem te15640340801478087682:True:=⟨⟩
theorem te16412990657362595025:True:=⟨⟩
theorem te7738030445067894588:True:=⟨⟩
theorem te133773334451287657:True:=⟨⟩
theorem te8763992670219842388:True:=⟨⟩
theorem te3688136774260203912:True:=⟨⟩
theorem te7431397027786514263:True:=⟨⟩
theorem te10287362181613535447:True:=⟨⟩
theorem te7118560114313004215:True:=⟨⟩
theorem te8690392079147260655:True:=⟨⟩
theorem te6477654056832445391:True:=⟨⟩
theorem te13064285463860790434:True:=⟨⟩
theorem te13847534676089230051:True:=⟨⟩
theorem te1218745585998897096:True:=⟨⟩
theorem te9632780259961440882:True:=⟨⟩
theorem te3718937297649497898:True:=⟨⟩
theorem te15500119978623005665:True:=⟨⟩
theorem te4059948874950751934:True:=⟨⟩
theorem te744272460926849108:True:=⟨⟩
theorem te9984069296873521581:True:=⟨⟩
theorem te11382464756323682871:True:=⟨⟩
theorem te3972544209057810253:True:=⟨⟩
theorem te2146829680836504146:True:=⟨⟩
theorem te9483768990955361428:True:=⟨⟩
theorem te4846380909331499329:True:=⟨⟩
theorem te3771716319380680003:True:=⟨⟩
theorem te1039665857799810250:True:=⟨⟩
theorem te13320991080518945184:True:=⟨⟩
theorem te13920907760318659751:True:=⟨⟩
theorem te58801223007982923:True:=⟨⟩
theorem te12893786689603719719:True:=⟨⟩
theorem te392767303946310487:True:=⟨⟩
theorem te1554182083310088677:True:=⟨⟩
theorem te8026316214606395577:True:=⟨⟩
theorem te8876719493153991795:True:=⟨⟩
theorem te957388628437073509:True:=⟨⟩
theorem te13823765789142049303:True:=⟨⟩
theorem te11884689140621581162:True:=⟨⟩
theorem te7681443057456120359:True:=⟨⟩
theorem te12377387621019818195:True:=⟨⟩
theorem te2650731708692773736:True:=⟨⟩
theorem te14812164030818370017:True:=⟨⟩
theorem te10791407214045283234:True:=⟨⟩
theorem te16914013787946554247:True:=⟨⟩
theorem te4183733475917127194:True:=⟨⟩
theorem te6302691778808651723:True:=⟨⟩
theorem te8169897786366878715:True:=⟨⟩
theorem te9186456226064310681:True:=⟨⟩
theorem te15550283527595809345:True:=⟨⟩
theorem te5039427112131235950:True:=⟨⟩
theorem te15136321309531702023:True:=⟨⟩
theorem te17250289108360174075:True:=⟨⟩
theorem te4924056694621957556:True:=⟨⟩
theorem te17290097964493316508:True:=⟨⟩
theorem te4004340034905665254:True:=⟨⟩
theorem te17224590961572005082:True:=⟨⟩
theorem te2592459929959676479:True:=⟨⟩
theorem te13070750775190999306:True:=⟨⟩
theorem te10883545335987937345:True:=⟨⟩
theorem te13526982625447131965:True:=⟨⟩
theorem te931293202363046437:True:=⟨⟩
theorem te14932640742338061796:True:=⟨⟩
theorem te10477036271470342123:True:=⟨⟩
theorem te12708951731350011629:True:=⟨⟩
theorem te9790107423365210510:True:=⟨⟩
theorem te6601277956931942388:True:=⟨⟩
theorem te6622586346209743717:True:=⟨⟩
theorem te7511524395736787868:True:=⟨⟩
theorem te16963110050306405278:True:=⟨⟩
theorem te3174126998518462092:True:=⟨⟩
theorem te2865196813262712042:True:=⟨⟩
theorem te2058183106873902735:True:=⟨⟩
theorem te17616020254058893254:True:=⟨⟩
theorem te4358452637527904186:True:=⟨⟩
theorem te12240689008293253680:True:=⟨⟩
theorem te15199023754095693915:True:=⟨⟩
theorem te7054186960015449404:True:=⟨⟩
theorem te16943089527467529237:True:=⟨⟩
theorem te9108289937195421852:True:=⟨⟩
theorem te4566795926928302504:True:=⟨⟩
theorem te14899935942692578374:True:=⟨⟩
theorem te12891901766387915161:True:=⟨⟩
theorem te6142443983594002925:True:=⟨⟩
theorem te4196729974718880080:True:=⟨⟩
theorem te10341628072965851030:True:=⟨⟩
theorem te9700079837885122282:True:=⟨⟩
theorem te2370133511090682154:True:=⟨⟩
theorem te8997440638464764193:True:=⟨⟩
theorem te11760567148393257659:True:=⟨⟩
theorem te12239044570716789375:True:=⟨⟩
theorem te12919273455817550169:True:=⟨⟩
theorem te15809419688653542791:True:=⟨⟩
theorem te10590982215581425625:True:=⟨⟩
theorem te12976933367308698941:True:=⟨⟩
theorem te4808942734739033146:True:=⟨⟩
theorem te13416518830668429571:True:=⟨⟩
theorem te12190972151317253718:True:=⟨⟩
theorem te17783314525942332203:True:=⟨⟩
theorem te12012966118235393069:True:=⟨⟩
theorem te2996706620808273296:True:=⟨⟩
theorem te5731540743051063924:True:=⟨⟩
theorem te9534442772229789057:True:=⟨⟩
theorem te7026988420156300131:True:=⟨⟩
theorem te7422819947951054462:True:=⟨⟩
theorem te15354332046336004904:True:=⟨⟩
theorem te5979840470817910810:True:=⟨⟩
theorem te5180446153034843694:True:=⟨⟩
theorem te2821439535917444597:True:=⟨⟩
theorem te2897430826868921023:True:=⟨⟩
theorem te2040509063887682105:True:=⟨⟩
theorem te17655414465889287029:True:=⟨⟩
theorem te631455530423905222:True:=⟨⟩
theorem te9753927705295876756:True:=⟨⟩
theorem te7506267217207663129:True:=⟨⟩
theorem te3448367504188466952:True:=⟨⟩
theorem te3115882054716867831:True:=⟨⟩
theorem te9479559584651471120:True:=⟨⟩
theorem te5984389116449054684:True:=⟨⟩
theorem te14330895181013129225:True:=⟨⟩
theorem te12962954656177251109:True:=⟨⟩
theorem te13175826607098595133:True:=⟨⟩
theorem te4369286437565627199:True:=⟨⟩
theorem te7492153400627408126:True:=⟨⟩
theorem te9395738694871132992:True:=⟨⟩
theorem te14603533068359392578:True:=⟨⟩
theorem te1246002197953295728:True:=⟨⟩
theorem te17670290697049287457:True:=⟨⟩
theorem te17317756807273367487:True:=⟨⟩
theorem te703786083036942439:True:=⟨⟩
theorem te17576602338459283995:True:=⟨⟩
theorem te12241003327006665069:True:=⟨⟩
theorem te15577325009951729077:True:=⟨⟩
theorem te4842034012131237501:True:=⟨⟩
theorem te9852569696514711860:True:=⟨⟩
theorem te3358729634501642280:True:=⟨⟩
theorem te14102858802950659677:True:=⟨⟩
theorem te6283631137868761700:True:=⟨⟩
theorem te10817651795433637682:True:=⟨⟩
theorem te1933743828271753028:True:=⟨⟩
theorem te10077133014874396662:True:=⟨⟩
theorem te18220530949283219934:True:=⟨⟩
theorem te15557069043398182058:True:=⟨⟩
theorem te9853154716098971265:True:=⟨⟩
theorem te12403812206565302625:True:=⟨⟩
theorem te3225017323324472878:True:=⟨⟩
theorem te10636647111717270046:True:=⟨⟩
theorem te17849775582034820000:True:=⟨⟩
theorem te4644745181378753400:True:=⟨⟩
theorem te6991770103596255117:True:=⟨⟩
theorem te8507806541029705371:True:=⟨⟩
theorem te1147875574659169324:True:=⟨⟩
theorem te13978074583674945387:True:=⟨⟩
theorem te12825612296347062312:True:=⟨⟩
theorem te17488975481972759804:True:=⟨⟩
theorem te13518918214690718033:True:=⟨⟩
theorem te4926904153576321237:True:=⟨⟩
theorem te16101434978973326969:True:=⟨⟩
theorem te2758559059889595143:True:=⟨⟩
theorem te3905803647487754240:True:=⟨⟩
theorem te13438689450927584375:True:=⟨⟩
theorem te18417740557402143338:True:=⟨⟩
theorem te15896552251043715958:True:=⟨⟩
theorem te10893520864768373573:True:=⟨⟩
theorem te9925192779130958893:True:=⟨⟩
theorem te6621177676976169063:True:=⟨⟩
theorem te16702867060918783151:True:=⟨⟩
theorem te2406728765178185338:True:=⟨⟩
theorem te16780420766227071695:True:=⟨⟩
theorem te2946911698783835991:True:=⟨⟩
theorem te17123623495069823902:True:=⟨⟩
theorem te963960443709828929:True:=⟨⟩
theorem te11821789918747250389:True:=⟨⟩
theorem te13519148881853662203:True:=⟨⟩
theorem te10976807109636793511:True:=⟨⟩
theorem te654740263905683356:True:=⟨⟩
theorem te1413226289741906694:True:=⟨⟩
theorem te11077627015070175489:True:=⟨⟩
theorem te1681342691087448210:True:=⟨⟩
theorem te9865424063264046783:True:=⟨⟩
theorem te9242927357570739312:True:=⟨⟩
theorem te3313065317796701228:True:=⟨⟩
theorem te8613132803261555929:True:=⟨⟩
theorem te17186875253745019204:True:=⟨⟩
theorem te10729580031680247228:True:=⟨⟩
theorem te13528351633082390158:True:=⟨⟩
theorem te8688557025390621927:True:=⟨⟩
theorem te12112747298908424133:True:=⟨⟩
theorem te3577455145594663540:True:=⟨⟩
theorem te5082851308445265048:True:=⟨⟩
theorem te2941196396642514926:True:=⟨⟩
theorem te6477811190723440307:True:=⟨⟩
theorem te10443190529662564754:True:=⟨⟩
theorem te7544894194360266935:True:=⟨⟩
theorem te15794068427774611895:True:=⟨⟩
theorem te13517928551612684054:True:=⟨⟩
theorem te11828463748308424077:True:=⟨⟩
theorem te5985317391641052681:True:=⟨⟩
theorem te8121096548595504301:True:=⟨⟩
theorem te9965755402365889545:True:=⟨⟩
theorem te12196323707177024501:True:=⟨⟩
theorem te6843829278102386517:True:=⟨⟩
theorem te13037940553450875088:True:=⟨⟩
theorem te3559782434338182424:True:=⟨⟩
theorem te744737381753497242:True:=⟨⟩
theorem te1666773065652465753:True:=⟨⟩
theorem te16680317022207526493:True:=⟨⟩
theorem te18385952912591210971:True:=⟨⟩
theorem te7676312077590440888:True:=⟨⟩
theorem te11867595901376110997:True:=⟨⟩
theorem te2517418824067638081:True:=⟨⟩
theorem te7880130403701417502:True:=⟨⟩
theorem te8116422842964503800:True:=⟨⟩
theorem te3596141267275544846:True:=⟨⟩
theorem te12198242315945636867:True:=⟨⟩
theorem te15161019433660549398:True:=⟨⟩
theorem te3350507601574909270:True:=⟨⟩
theorem te16779211191235698190:True:=⟨⟩
theorem te12991201719698582364:True:=⟨⟩
theorem te844284042356585633:True:=⟨⟩
theorem te1517147713750691253:True:=⟨⟩
theorem te5547598650377128038:True:=⟨⟩
theorem te11275191024631023180:True:=⟨⟩
theorem te9049653548889657463:True:=⟨⟩
theorem te8527561995763769134:True:=⟨⟩
theorem te6714662664516120834:True:=⟨⟩
theorem te642671278534454743:True:=⟨⟩
theorem te3229924541712864132:True:=⟨⟩
theorem te50158522135236367:True:=⟨⟩
theorem te13325881932658300018:True:=⟨⟩
theorem te17857263954657898533:True:=⟨⟩
theorem te1665277667207165450:True:=⟨⟩
theorem te11620511323665974769:True:=⟨⟩
theorem te9681838633106897668:True:=⟨⟩
theorem te17398031923455315822:True:=⟨⟩
theorem te7088406269416140473:True:=⟨⟩
theorem te7734923999063775342:True:=⟨⟩
theorem te16672902352771068702:True:=⟨⟩
theorem te4950944115049475906:True:=⟨⟩
theorem te15022332308158111891:True:=⟨⟩
theorem te10514531102200475447:True:=⟨⟩
theorem te7092801588579023115:True:=⟨⟩
theorem te4773641139840321057:True:=⟨⟩
theorem te8082667533288785915:True:=⟨⟩
theorem te3107049995047560482:True:=⟨⟩
theorem te7301911620111694003:True:=⟨⟩
theorem te16717503900461173288:True:=⟨⟩
theorem te5864184677539880687:True:=⟨⟩
theorem te12562970863419336549:True:=⟨⟩
theorem te4583907165712937893:True:=⟨⟩
theorem te693271048605585559:True:=⟨⟩
theorem te4022326176360360351:True:=⟨⟩
theorem te4038188252835772569:True:=⟨⟩
theorem te3422118968621417285:True:=⟨⟩
theorem te17704174285810321856:True:=⟨⟩
theorem te10219926687554540347:True:=⟨⟩
theorem te4461035555302753498:True:=⟨⟩
theorem te7720620483605735194:True:=⟨⟩
theorem te17096265108475894291:True:=⟨⟩
theorem te11579727601941033500:True:=⟨⟩
theorem te3579795747392037155:True:=⟨⟩
theorem te9551646358430238237:True:=⟨⟩
theorem te13190863664538483264:True:=⟨⟩
theorem te13217783647988143336:True:=⟨⟩
theorem te1030826955614367981:True:=⟨⟩
theorem te13614848712048011188:True:=⟨⟩
theorem te11926641152844641288:True:=⟨⟩
theorem te13901321884429102817:True:=⟨⟩
theorem te13378071779383184818:True:=⟨⟩
theorem te13033616470319274274:True:=⟨⟩
theorem te16051371933163196530:True:=⟨⟩
theorem te5152934087025345685:True:=⟨⟩
theorem te13879434928700862438:True:=⟨⟩
theorem te16020127887085543231:True:=⟨⟩
theorem te5388614767759559403:True:=⟨⟩
theorem te18350108554682239152:True:=⟨⟩
theorem te7550603519085260346:True:=⟨⟩
theorem te2680116058343471560:True:=⟨⟩
theorem te11869210962744333809:True:=⟨⟩
theorem te4761903980987919539:True:=⟨⟩
theorem te354668518710883797:True:=⟨⟩
theorem te17921683992869494286:True:=⟨⟩
theorem te14519965231767262632:True:=⟨⟩
theorem te4995755997265682487:True:=⟨⟩
theorem te12534800128663017202:True:=⟨⟩
theorem te16163319216616144368:True:=⟨⟩
theorem te15605153987725339746:True:=⟨⟩
theorem te1726308391743829600:True:=⟨⟩
theorem te15343731713908166573:True:=⟨⟩
theorem te10605929433086125159:True:=⟨⟩
theorem te9206613434957027741:True:=⟨⟩
theorem te17661932483354512712:True:=⟨⟩
theorem te552106081554263592:True:=⟨⟩
theorem te10441082288689484200:True:=⟨⟩
theorem te6524952738738979333:True:=⟨⟩
theorem te7526574301418376202:True:=⟨⟩
theorem te15238749607626234561:True:=⟨⟩
theorem te4546546513619781625:True:=⟨⟩
theorem te11028595743256392795:True:=⟨⟩
theorem te3530224764946387473:True:=⟨⟩
theorem te9093923875761496247:True:=⟨⟩
theorem te6442372103936394060:True:=⟨⟩
theorem te11005718389791115208:True:=⟨⟩
theorem te6961010691488523396:True:=⟨⟩
theorem te4478987737951173289:True:=⟨⟩
theorem te9139504852718718666:True:=⟨⟩
theorem te12272855759601998044:True:=⟨⟩
theorem te16563440164026618181:True:=⟨⟩
theorem te16797267900769265340:True:=⟨⟩
theorem te593702263699236507:True:=⟨⟩
theorem te764739853586241997:True:=⟨⟩
theorem te11319906016413561984:True:=⟨⟩
theorem te9825879116013664587:True:=⟨⟩
theorem te8810647255734611715:True:=⟨⟩
theorem te2039765565880912953:True:=⟨⟩
theorem te16462129715000500788:True:=⟨⟩
theorem te7869735215916780304:True:=⟨⟩
theorem te15741852267235831924:True:=⟨⟩
theorem te4750119752417001796:True:=⟨⟩
theorem te4127032789940431961:True:=⟨⟩
theorem te14466357869812526450:True:=⟨⟩
theorem te7034138723613101072:True:=⟨⟩
theorem te10061799703458868620:True:=⟨⟩
theorem te5343812576667452131:True:=⟨⟩
theorem te3771173640725810763:True:=⟨⟩
theorem te16949099986476285852:True:=⟨⟩
theorem te5282367823546052046:True:=⟨⟩
theorem te5465118633198943267:True:=⟨⟩
theorem te12723408288320947640:True:=⟨⟩
end PySem.W.Fast
open PySem PySem.W PyProof.Rows
set_option maxRecDepth 100000 in
set_option maxHeartbeats 0 in
theorem PySem.Challenge.cw_quiethall_k04_refusals_holds : PySem.Challenge.rw_quiethall_k04_refusals.Holds := by
  w_on; o_law; k_head; (case hw => w_witness2)
  k_fill
  refine L2.walk_ofK (l:=PySem.Challenge.rw_quiethall_k04_refusals) (n:=63) (k:=40) (x:="_law_script") (CX:=L2.CX0) (sp:=Qh.spLaw) rfl (by decide) rfl ⟨rfl,by decide,by decide⟩ (fun w h Y => PySem.W.kIn_of Y) ?F ?S ?C
  case F =>
    intro w mg fa h KX G hmg
    have T_Ring : ∃ C,Tx.Txt_Ring (L2.KOf KX) mg C:=by
      dsimp only [L2.KOf]
      refine' Tx.mk_Ring KX G ?aC ?a0 ?i0 ?l0 ?c0 ?k0 ?a1 ?i1 ?l1 ?c1 ?k1 ?a2 ?i2 ?l2 ?c2 ?k2 ?a3 ?i3 ?l3 ?c3 ?k3 ?a4 ?i4 ?l4 ?c4 ?k4 ?a5 ?i5 ?l5 ?c5 ?k5 ?a6 ?i6 ?l6 ?c6 ?k6 ?a7 ?i7 ?l7 ?c7 ?k7 ?a8 ?i8 ?l8 ?c8 ?k8 ?a9 ?i9 ?l9 ?c9 ?k9 ?pg ?hd ?po ?sa ?mk ?kc ?n0 ?n1 ?n2 ?n3 ?n4 ?n5 ?n6 ?n7
      (case aC => k_is); (case a0 => k_is); (case i0 => k_is); (case l0 => k_is); (case c0 => k_is); (case k0 => k_is); (case a1 => k_is); (case i1 => k_is); (case l1 => k_is); (case c1 => k_is); (case k1 => k_is); (case a2 => k_is); (case i2 => k_is); (case l2 => k_is); (case c2 => k_is); (case k2 => k_is); (case a3 => k_is); (case i3 => k_is); (case l3 => k_is); (case c3 => k_is); (case k3 => k_is); (case a4 => k_is); (case i4 => k_is); (case l4 => k_is); (case c4 => k_is); (case k4 => k_is); (case a5 => k_is); (case i5 => k_is); (case l5 => k_is); (case c5 => k_is); (case k5 => k_is); (case a6 => k_is); (case i6 => k_is); (case l6 => k_is); (case c6 => k_is); (case k6 => k_is); (case a7 => k_is); (case i7 => k_is); (case l7 => k_is); (case c7 => k_is); (case k7 => k_is); (case a8 => k_is); (case i8 => k_is); (case l8 => k_is); (case c8 => k_is); (case k8 => k_is); (case a9 => k_is); (case i9 => k_is); (case l9 => k_is); (case c9 => k_is); (case k9 => k_is); (case pg => k_is); (case hd => k_is); (case po => k_is); (case sa => k_is); (case mk => k_is); (case kc => k_is); (case n0 => k_is); (case n1 => k_is); (case n2 => k_is); (case n3 => k_is); (case n4 => k_is); (case n5 => k_is); (case n6 => k_is); (case n7 => k_is)
    have T_Tree : ∃ C,Tx.Txt_Tree (L2.KOf KX) mg C:=by
      dsimp only [L2.KOf]
      refine' Tx.mk_Tree KX G ?aC ?a0 ?i0 ?l0 ?c0 ?k0 ?a1 ?i1 ?l1 ?c1 ?k1 ?a2 ?i2 ?l2 ?c2 ?k2 ?a3 ?i3 ?l3 ?c3 ?k3 ?a4 ?i4 ?l4 ?c4 ?k4 ?a5 ?i5 ?l5 ?c5 ?k5 ?a6 ?i6 ?l6 ?c6 ?k6 ?a7 ?i7 ?l7 ?c7 ?k7 ?a8 ?i8 ?l8 ?c8 ?k8 ?a9 ?i9 ?l9 ?c9 ?k9 ?pg ?hd ?po ?sa ?mk ?kc ?n0 ?n1 ?n2
      (case aC => k_is); (case a0 => k_is); (case i0 => k_is); (case l0 => k_is); (case c0 => k_is); (case k0 => k_is); (case a1 => k_is); (case i1 => k_is); (case l1 => k_is); (case c1 => k_is); (case k1 => k_is); (case a2 => k_is); (case i2 => k_is); (case l2 => k_is); (case c2 => k_is); (case k2 => k_is); (case a3 => k_is); (case i3 => k_is); (case l3 => k_is); (case c3 => k_is); (case k3 => k_is); (case a4 => k_is); (case i4 => k_is); (case l4 => k_is); (case c4 => k_is); (case k4 => k_is); (case a5 => k_is); (case i5 => k_is); (case l5 => k_is); (case c5 => k_is); (case k5 => k_is); (case a6 => k_is); (case i6 => k_is); (case l6 => k_is); (case c6 => k_is); (case k6 => k_is); (case a7 => k_is); (case i7 => k_is); (case l7 => k_is); (case c7 => k_is); (case k7 => k_is); (case a8 => k_is); (case i8 => k_is); (case l8 => k_is); (case c8 => k_is); (case k8 => k_is); (case a9 => k_is); (case i9 => k_is); (case l9 => k_is); (case c9 => k_is); (case k9 => k_is); (case pg => k_is); (case hd => k_is); (case po => k_is); (case sa => k_is); (case mk => k_is); (case kc => k_is); (case n0 => k_is); (case n1 => k_is); (case n2 => k_is)
    have T_Weights : ∃ C,Tx.Txt_Weights (L2.KOf KX) mg C:=by
      dsimp only [L2.KOf]
      refine' Tx.mk_Weights KX G ?aC ?a0 ?i0 ?l0 ?c0 ?k0 ?a1 ?i1 ?l1 ?c1 ?k1 ?a2 ?i2 ?l2 ?c2 ?k2 ?a3 ?i3 ?l3 ?c3 ?k3 ?a4 ?i4 ?l4 ?c4 ?k4 ?a5 ?i5 ?l5 ?c5 ?k5 ?a6 ?i6 ?l6 ?c6 ?k6 ?a7 ?i7 ?l7 ?c7 ?k7 ?a8 ?i8 ?l8 ?c8 ?k8 ?pg ?hd ?po ?sa ?mk ?kc ?n0 ?n1 ?n2
      (case aC => k_is); (case a0 => k_is); (case i0 => k_is); (case l0 => k_is); (case c0 => k_is); (case k0 => k_is); (case a1 => k_is); (case i1 => k_is); (case l1 => k_is); (case c1 => k_is); (case k1 => k_is); (case a2 => k_is); (case i2 => k_is); (case l2 => k_is); (case c2 => k_is); (case k2 => k_is); (case a3 => k_is); (case i3 => k_is); (case l3 => k_is); (case c3 => k_is); (case k3 => k_is); (case a4 => k_is); (case i4 => k_is); (case l4 => k_is); (case c4 => k_is); (case k4 => k_is); (case a5 => k_is); (case i5 => k_is); (case l5 => k_is); (case c5 => k_is); (case k5 => k_is); (case a6 => k_is); (case i6 => k_is); (case l6 => k_is); (case c6 => k_is); (case k6 => k_is); (case a7 => k_is); (case i7 => k_is); (case l7 => k_is); (case c7 => k_is); (case k7 => k_is); (case a8 => k_is); (case i8 => k_is); (case l8 => k_is); (case c8 => k_is); (case k8 => k_is); (case pg => k_is); (case hd => k_is); (case po => k_is); (case sa => k_is); (case mk => k_is); (case kc => k_is); (case n0 => k_is); (case n1 => k_is); (case n2 => k_is)
    have T_Hall : ∃ C,Tx.Txt_Hall (L2.KOf KX) mg C:=by
      dsimp only [L2.KOf]
      refine' Tx.mk_Hall KX G ?aC ?a0 ?i0 ?l0 ?c0 ?k0 ?a1 ?i1 ?l1 ?c1 ?k1 ?a2 ?i2 ?l2 ?c2 ?k2 ?a3 ?i3 ?l3 ?c3 ?k3 ?a4 ?i4 ?l4 ?c4 ?k4 ?a5 ?i5 ?l5 ?c5 ?k5 ?a6 ?i6 ?l6 ?c6 ?k6 ?a7 ?i7 ?l7 ?c7 ?k7 ?a8 ?i8 ?l8 ?c8 ?k8 ?a9 ?i9 ?l9 ?c9 ?k9 ?a10 ?i10 ?l10 ?c10 ?k10 ?a11 ?i11 ?l11 ?c11 ?k11 ?a12 ?i12 ?l12 ?c12 ?k12 ?a13 ?i13 ?l13 ?c13 ?k13 ?a14 ?i14 ?l14 ?c14 ?k14 ?a15 ?i15 ?l15 ?c15 ?k15 ?a16 ?i16 ?l16 ?c16 ?k16 ?a17 ?i17 ?l17 ?c17 ?k17 ?a18 ?i18 ?l18 ?c18 ?k18 ?a19 ?i19 ?l19 ?c19 ?k19 ?a20 ?i20 ?l20 ?c20 ?k20 ?a21 ?i21 ?l21 ?c21 ?k21 ?a22 ?i22 ?l22 ?c22 ?k22 ?pg ?hd ?po ?sa ?mk ?kc ?n0 ?n1 ?n2 ?n3 ?n4 ?n5
      (case aC => k_is); (case a0 => k_is); (case i0 => k_is); (case l0 => k_is); (case c0 => k_is); (case k0 => k_is); (case a1 => k_is); (case i1 => k_is); (case l1 => k_is); (case c1 => k_is); (case k1 => k_is); (case a2 => k_is); (case i2 => k_is); (case l2 => k_is); (case c2 => k_is); (case k2 => k_is); (case a3 => k_is); (case i3 => k_is); (case l3 => k_is); (case c3 => k_is); (case k3 => k_is); (case a4 => k_is); (case i4 => k_is); (case l4 => k_is); (case c4 => k_is); (case k4 => k_is); (case a5 => k_is); (case i5 => k_is); (case l5 => k_is); (case c5 => k_is); (case k5 => k_is); (case a6 => k_is); (case i6 => k_is); (case l6 => k_is); (case c6 => k_is); (case k6 => k_is); (case a7 => k_is); (case i7 => k_is); (case l7 => k_is); (case c7 => k_is); (case k7 => k_is); (case a8 => k_is); (case i8 => k_is); (case l8 => k_is); (case c8 => k_is); (case k8 => k_is); (case a9 => k_is); (case i9 => k_is); (case l9 => k_is); (case c9 => k_is); (case k9 => k_is); (case a10 => k_is); (case i10 => k_is); (case l10 => k_is); (case c10 => k_is); (case k10 => k_is); (case a11 => k_is); (case i11 => k_is); (case l11 => k_is); (case c11 => k_is); (case k11 => k_is); (case a12 => k_is); (case i12 => k_is); (case l12 => k_is); (case c12 => k_is); (case k12 => k_is); (case a13 => k_is); (case i13 => k_is); (case l13 => k_is); (case c13 => k_is); (case k13 => k_is); (case a14 => k_is); (case i14 => k_is); (case l14 => k_is); (case c14 => k_is); (case k14 => k_is); (case a15 => k_is); (case i15 => k_is); (case l15 => k_is); (case c15 => k_is); (case k15 => k_is); (case a16 => k_is); (case i16 => k_is); (case l16 => k_is); (case c16 => k_is); (case k16 => k_is); (case a17 => k_is); (case i17 => k_is); (case l17 => k_is); (case c17 => k_is); (case k17 => k_is); (case a18 => k_is); (case i18 => k_is); (case l18 => k_is); (case c18 => k_is); (case k18 => k_is); (case a19 => k_is); (case i19 => k_is); (case l19 => k_is); (case c19 => k_is); (case k19 => k_is); (case a20 => k_is); (case i20 => k_is); (case l20 => k_is); (case c20 => k_is); (case k20 => k_is); (case a21 => k_is); (case i21 => k_is); (case l21 => k_is); (case c21 => k_is); (case k21 => k_is); (case a22 => k_is); (case i22 => k_is); (case l22 => k_is); (case c22 => k_is); (case k22 => k_is); (case pg => k_is); (case hd => k_is); (case po => k_is); (case sa => k_is); (case mk => k_is); (case kc => k_is); (case n0 => k_is); (case n1 => k_is); (case n2 => k_is); (case n3 => k_is); (case n4 => k_is); (case n5 => k_is)
    have F_half_of : ∃ f fd,mg "half_of" = some (.ref f) ∧ PySem.W.keepIn (L2.KOf KX) (.ref f) = true ∧ L2.Fun (L2.KOf KX) "half_of" "half_of" Tx.s_half_of f fd:=by
      dsimp only [L2.KOf]
      refine' Tx.mk_fn KX G ?a0 ?l0 ?c0 ?k0
      (case a0 => k_is); (case l0 => k_is); (case c0 => k_is); (case k0 => k_is)
    have F_sum_of : ∃ f fd,mg "sum_of" = some (.ref f) ∧ PySem.W.keepIn (L2.KOf KX) (.ref f) = true ∧ L2.Fun (L2.KOf KX) "sum_of" "sum_of" Tx.s_sum_of f fd:=by
      dsimp only [L2.KOf]
      refine' Tx.mk_fn KX G ?a0 ?l0 ?c0 ?k0
      (case a0 => k_is); (case l0 => k_is); (case c0 => k_is); (case k0 => k_is)
    have F_upper_at : ∃ f fd,mg "upper_at" = some (.ref f) ∧ PySem.W.keepIn (L2.KOf KX) (.ref f) = true ∧ L2.Fun (L2.KOf KX) "upper_at" "upper_at" Tx.s_upper_at f fd:=by
      dsimp only [L2.KOf]
      refine' Tx.mk_fn KX G ?a0 ?l0 ?c0 ?k0
      (case a0 => k_is); (case l0 => k_is); (case c0 => k_is); (case k0 => k_is)
    have F_in_one_form : ∃ f fd,mg "in_one_form" = some (.ref f) ∧ PySem.W.keepIn (L2.KOf KX) (.ref f) = true ∧ L2.Fun (L2.KOf KX) "in_one_form" "in_one_form" Tx.s_in_one_form f fd:=by
      dsimp only [L2.KOf]
      refine' Tx.mk_fn KX G ?a0 ?l0 ?c0 ?k0
      (case a0 => k_is); (case l0 => k_is); (case c0 => k_is); (case k0 => k_is)
    have F_twos_in : ∃ f fd,mg "twos_in" = some (.ref f) ∧ PySem.W.keepIn (L2.KOf KX) (.ref f) = true ∧ L2.Fun (L2.KOf KX) "twos_in" "twos_in" Tx.s_twos_in f fd:=by
      dsimp only [L2.KOf]
      refine' Tx.mk_fn KX G ?a0 ?l0 ?c0 ?k0
      (case a0 => k_is); (case l0 => k_is); (case c0 => k_is); (case k0 => k_is)
    have F__law_cell : ∃ f fd,mg "_law_cell" = some (.ref f) ∧ PySem.W.keepIn (L2.KOf KX) (.ref f) = true ∧ L2.Fun (L2.KOf KX) "_law_cell" "_law_cell" Tx.s__law_cell f fd:=by
      dsimp only [L2.KOf]
      refine' Tx.mk_fn KX G ?a0 ?l0 ?c0 ?k0
      (case a0 => k_is); (case l0 => k_is); (case c0 => k_is); (case k0 => k_is)
    have F__law_mix : ∃ f fd,mg "_law_mix" = some (.ref f) ∧ PySem.W.keepIn (L2.KOf KX) (.ref f) = true ∧ L2.Fun (L2.KOf KX) "_law_mix" "_law_mix" Tx.s__law_mix f fd:=by
      dsimp only [L2.KOf]
      refine' Tx.mk_fn KX G ?a0 ?l0 ?c0 ?k0
      (case a0 => k_is); (case l0 => k_is); (case c0 => k_is); (case k0 => k_is)
    have F__law_many : ∃ f fd,mg "_law_many" = some (.ref f) ∧ PySem.W.keepIn (L2.KOf KX) (.ref f) = true ∧ L2.Fun (L2.KOf KX) "_law_many" "_law_many" Tx.s__law_many f fd:=by
      dsimp only [L2.KOf]
      refine' Tx.mk_fn KX G ?a0 ?l0 ?c0 ?k0
      (case a0 => k_is); (case l0 => k_is); (case c0 => k_is); (case k0 => k_is)
    have F__law_roads : ∃ f fd,mg "_law_roads" = some (.ref f) ∧ PySem.W.keepIn (L2.KOf KX) (.ref f) = true ∧ L2.Fun (L2.KOf KX) "_law_roads" "_law_roads" Tx.s__law_roads f fd:=by
      dsimp only [L2.KOf]
      refine' Tx.mk_fn KX G ?a0 ?l0 ?c0 ?k0
      (case a0 => k_is); (case l0 => k_is); (case c0 => k_is); (case k0 => k_is)
    have F__law_choices : ∃ f fd,mg "_law_choices" = some (.ref f) ∧ PySem.W.keepIn (L2.KOf KX) (.ref f) = true ∧ L2.Fun (L2.KOf KX) "_law_choices" "_law_choices" Tx.s__law_choices f fd:=by
      dsimp only [L2.KOf]
      refine' Tx.mk_fn KX G ?a0 ?l0 ?c0 ?k0
      (case a0 => k_is); (case l0 => k_is); (case c0 => k_is); (case k0 => k_is)
    have F__law_act : ∃ f fd,mg "_law_act" = some (.ref f) ∧ PySem.W.keepIn (L2.KOf KX) (.ref f) = true ∧ L2.Fun (L2.KOf KX) "_law_act" "_law_act" Tx.s__law_act f fd:=by
      dsimp only [L2.KOf]
      refine' Tx.mk_fn KX G ?a0 ?l0 ?c0 ?k0
      (case a0 => k_is); (case l0 => k_is); (case c0 => k_is); (case k0 => k_is)
    have F__law_do : ∃ f fd,mg "_law_do" = some (.ref f) ∧ PySem.W.keepIn (L2.KOf KX) (.ref f) = true ∧ L2.Fun (L2.KOf KX) "_law_do" "_law_do" Tx.s__law_do f fd:=by
      dsimp only [L2.KOf]
      refine' Tx.mk_fn KX G ?a0 ?l0 ?c0 ?k0
      (case a0 => k_is); (case l0 => k_is); (case c0 => k_is); (case k0 => k_is)
    have F__law_play : ∃ f fd,mg "_law_play" = some (.ref f) ∧ PySem.W.keepIn (L2.KOf KX) (.ref f) = true ∧ L2.Fun (L2.KOf KX) "_law_play" "_law_play" Tx.s__law_play f fd:=by
      dsimp only [L2.KOf]
      refine' Tx.mk_fn KX G ?a0 ?l0 ?c0 ?k0
      (case a0 => k_is); (case l0 => k_is); (case c0 => k_is); (case k0 => k_is)
    have F__law_shown : ∃ f fd,mg "_law_shown" = some (.ref f) ∧ PySem.W.keepIn (L2.KOf KX) (.ref f) = true ∧ L2.Fun (L2.KOf KX) "_law_shown" "_law_shown" Tx.s__law_shown f fd:=by
      dsimp only [L2.KOf]
      refine' Tx.mk_fn KX G ?a0 ?l0 ?c0 ?k0
      (case a0 => k_is); (case l0 => k_is); (case c0 => k_is); (case k0 => k_is)
    have F__law_ask : ∃ f fd,mg "_law_ask" = some (.ref f) ∧ PySem.W.keepIn (L2.KOf KX) (.ref f) = true ∧ L2.Fun (L2.KOf KX) "_law_ask" "_law_ask" Tx.s__law_ask f fd:=by
      dsimp only [L2.KOf]
      refine' Tx.mk_fn KX G ?a0 ?l0 ?c0 ?k0
      (case a0 => k_is); (case l0 => k_is); (case c0 => k_is); (case k0 => k_is)
    have F__law_ask_one : ∃ f fd,mg "_law_ask_one" = some (.ref f) ∧ PySem.W.keepIn (L2.KOf KX) (.ref f) = true ∧ L2.Fun (L2.KOf KX) "_law_ask_one" "_law_ask_one" Tx.s__law_ask_one f fd:=by
      dsimp only [L2.KOf]
      refine' Tx.mk_fn KX G ?a0 ?l0 ?c0 ?k0
      (case a0 => k_is); (case l0 => k_is); (case c0 => k_is); (case k0 => k_is)
    have F__law_said : ∃ f fd,mg "_law_said" = some (.ref f) ∧ PySem.W.keepIn (L2.KOf KX) (.ref f) = true ∧ L2.Fun (L2.KOf KX) "_law_said" "_law_said" Tx.s__law_said f fd:=by
      dsimp only [L2.KOf]
      refine' Tx.mk_fn KX G ?a0 ?l0 ?c0 ?k0
      (case a0 => k_is); (case l0 => k_is); (case c0 => k_is); (case k0 => k_is)
    have F__law_can : ∃ f fd,mg "_law_can" = some (.ref f) ∧ PySem.W.keepIn (L2.KOf KX) (.ref f) = true ∧ L2.Fun (L2.KOf KX) "_law_can" "_law_can" Tx.s__law_can f fd:=by
      dsimp only [L2.KOf]
      refine' Tx.mk_fn KX G ?a0 ?l0 ?c0 ?k0
      (case a0 => k_is); (case l0 => k_is); (case c0 => k_is); (case k0 => k_is)
    have F_law : ∃ f fd,mg "law" = some (.ref f) ∧ PySem.W.keepIn (L2.KOf KX) (.ref f) = true ∧ L2.Fun (L2.KOf KX) "law" "law" Tx.s_law f fd:=by
      dsimp only [L2.KOf]
      refine' Tx.mk_fn KX G ?a0 ?l0 ?c0 ?k0
      (case a0 => k_is); (case l0 => k_is); (case c0 => k_is); (case k0 => k_is)
    have G_len : mg "len" = none:=PySem.W.mg_none_of KX G (by k_is)
    have G_range : mg "range" = none:=PySem.W.mg_none_of KX G (by k_is)
    have G_tuple : mg "tuple" = none:=PySem.W.mg_none_of KX G (by k_is)
    have G_int : mg "int" = none:=PySem.W.mg_none_of KX G (by k_is)
    have G_max : mg "max" = none:=PySem.W.mg_none_of KX G (by k_is)
    have G_min : mg "min" = none:=PySem.W.mg_none_of KX G (by k_is)
    have G_sum : mg "sum" = none:=PySem.W.mg_none_of KX G (by k_is)
    have G_isinstance : mg "isinstance" = none:=PySem.W.mg_none_of KX G (by k_is)
    have G_sorted : mg "sorted" = none:=PySem.W.mg_none_of KX G (by k_is)
    have C_nothing : Qh.ModT (L2.KOf KX) mg "NOTHING" [.int 0,.int 0]:=by
      dsimp only [L2.KOf]
      refine' Qh.mk_tup2 KX G ?a ?l
      (case a => k_is); (case l => k_is)
    have C_whole : Qh.ModT (L2.KOf KX) mg "WHOLE" [.int 1,.int 0]:=by
      dsimp only [L2.KOf]
      refine' Qh.mk_tup2 KX G ?a ?l
      (case a => k_is); (case l => k_is)
    have C_white : ∃ u,mg "WHITE" = some u ∧ L2.RelV (.str "white") u:=by
      refine' Qh.mk_str KX G ?a
      (case a => k_is)
    have C_black : ∃ u,mg "BLACK" = some u ∧ L2.RelV (.str "black") u:=by
      refine' Qh.mk_str KX G ?a
      (case a => k_is)
    have G_tuple : mg "tuple" = none:=PySem.W.mg_none_of KX G (by k_is)
    have G_sorted : mg "sorted" = none:=PySem.W.mg_none_of KX G (by k_is)
    obtain ⟨Ct,TT⟩:=T_Tree
    obtain ⟨Cw,TW⟩:=T_Weights
    obtain ⟨Cr,TR⟩:=T_Ring
    obtain ⟨Ch,TH⟩:=T_Hall
    have X : Qh.HallTx (L2.KOf KX) mg ⟨Ch,Ct,Cw,Cr⟩:=⟨TT,TW,TR,TH,F_half_of,F_sum_of,F_upper_at,F_in_one_form,F_twos_in,C_nothing,C_whole,C_white,C_black,G_tuple,G_sorted,G_len,G_max,G_min,G_range⟩
    have L : Qh.LawTx (L2.KOf KX) mg:=⟨F__law_cell,F__law_mix,F__law_many,F__law_roads,F__law_choices,F__law_act,F__law_do⟩
    have G_ValueError : mg "ValueError" = none:=PySem.W.mg_none_of KX G (by k_is)
    have T_errs : ∃ CE CN CW,Qh.Errs (L2.KOf KX) mg CE CN CW:=by
      dsimp only [L2.KOf]
      refine' Qh.mk_errs KX G ?aE ?aN ?aW ?xE ?xN ?xW ?bN ?bW ?nN ?nW ?n1 ?n2 ?n3 ?n4 ?n5 ?w1 ?w2 ?w3 ?w4 ?w5 ?k1 ?k2 ?k3 ?k4 ?k5 ?k6
      (case aE => k_is); (case aN => k_is); (case aW => k_is); (case xE => k_exc); (case xN => k_exc); (case xW => k_exc); (case bN => k_is); (case bW => k_is); (case nN => decide); (case nW => decide); (case n1 => k_is); (case n2 => k_is); (case n3 => k_is); (case n4 => k_is); (case n5 => k_is); (case w1 => k_is); (case w2 => k_is); (case w3 => k_is); (case w4 => k_is); (case w5 => k_is); (case k1 => kit_is); (case k2 => kit_is); (case k3 => kit_is); (case k4 => kit_is); (case k5 => kit_is); (case k6 => kit_is)
    obtain ⟨CE,CN,CW,Er⟩:=T_errs
    obtain ⟨f,fd,hf,_,FL⟩:=F_law
    have e0:=hmg.symm.trans hf
    cases e0
    refine ⟨fd,fun s u => ?_,fun base kb nb => ?_⟩
    · obtain ⟨oc,od,kV,doc,pm,an,cdv,ct,osl,rfl,lk,hcd⟩:=FL.ex
      exact .of_eq rfl
    · exact (have Rf:=X.refs Er; have FA1:=L2.FnE.mk' F__law_ask_one (fun _ _ F => Qh.ok_ask1 F Rf) (fun _ _ _ _ _ _ us hl => match us,hl with | [_,_,_],_ => rfl); have FA:=L2.FnE.mk' F__law_ask (fun _ _ F => Qh.ok_ask F Rf FA1) (fun _ _ _ _ _ _ us hl => match us,hl with | [_,_,_,_],_ => rfl); (Qh.ok_law FL X.gs X.asks (L.fCell X.gs) (L.fMany X.gs) (L.fRoads X.gs) (L2.Fn.mk' F__law_play (fun _ _ F => Qh.ok_play F (L.fAct X) (L.fDo X)) (fun _ _ _ _ _ _ us hl => match us,hl with | [_,_,_],_ => rfl)) (L2.Fn.mk' F__law_shown (fun _ _ F => Qh.ok_shown F X.gs X.asks (L.fRoads X.gs) (X.hQuiet G_sum) X.hOn X.hWeight X.hTold X.hAbove X.hOpen X.hCount X.hColour) (fun _ _ _ _ _ _ us hl => match us,hl with | [_,_],_ => rfl)) (L2.Fn.mk' F__law_said (fun _ _ F => Qh.ok_said F Er G_isinstance G_ValueError G_int Rf FA) (fun _ _ _ _ _ _ us hl => match us,hl with | [_,_,_,_],_ => rfl)) (L2.Fn.mk' F__law_can (fun _ _ F => Qh.ok_can F X.gs X.asks) (fun _ _ _ _ _ _ us hl => match us,hl with | [_,_,_,_],_ => rfl)) X.mkr)).mono (by decide)
  case S => exact fun K H a ns hl hO hS => ⟨a,ns,rfl,hS,hl,fun _ => rfl⟩
  case C => exact fun H s e s' h => h

