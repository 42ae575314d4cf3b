import PyProof.Rows.All
import Wide.All
import OpenK.AllK
import Wide.FinOn
import PyProof.EqAt
import PyProof.EqKinds
import PyProof.TupleCall
import KE.BitLaws
import Open.SpecLaws
import KE.OsHead
import KE.OsGo
import KE.SpHead
import KE.OsShapes
import PySem.Challenge.RW_loopclaimsdesk_s01_answers
section
set_option Elab.async false
set_option linter.all false
set_option maxRecDepth 100000
namespace L2
open PySem PySem.Spec PyProof.Rows
abbrev Key := Sum Int Str
def keyIs : Key → Value → Bool
  | .inl k, v => Value.isInt k v
  | .inr x, v => Value.isStrOf x v
def keyH (w : World) : Key → Int
  | .inl k => hashInt k
  | .inr x => hashStr w x
theorem keyIs_shape : ∀ {k : Key} {v : Value}, keyIs k v = true → (∃ i t, k = Sum.inl i ∧ v = Value.int i t) ∨ (∃ x t, k = Sum.inr x ∧ v = Value.str x t)
  | .inl i, v, h => by
    obtain ⟨t, e⟩ := Value.isInt_shape (k := i) (v := v) h
    exact .inl ⟨i, t, rfl, e⟩
  | .inr x, v, h => by
    obtain ⟨t, e⟩ := Value.isStrOf_shape (x := x) (v := v) h
    exact .inr ⟨x, t, rfl, e⟩
theorem key_ll (a b : Int) : decide ((Sum.inl a : Key) = Sum.inl b) = (a == b) := by
  by_cases e : a = b
  · subst e; simp
  · have h : ¬ (Sum.inl a : Key) = Sum.inl b := fun q => e (Sum.inl.inj q)
    rw [decide_eq_false h]
    exact (beq_eq_false_iff_ne.mpr e).symm
theorem key_rr (a b : Str) : decide ((Sum.inr a : Key) = Sum.inr b) = decide (a = b) := by
  by_cases e : a = b
  · subst e; simp
  · have h : ¬ (Sum.inr a : Key) = Sum.inr b := fun q => e (Sum.inr.inj q)
    rw [decide_eq_false h, decide_eq_false e]
theorem key_lr (a : Int) (b : Str) : decide ((Sum.inl a : Key) = Sum.inr b) = false := decide_eq_false (fun q => nomatch q)
theorem key_rl (a : Str) (b : Int) : decide ((Sum.inr a : Key) = Sum.inl b) = false := decide_eq_false (fun q => nomatch q)
def mixKind (prog : Program) (w : World) : PySem.KeyKind prog w Key where
  is := keyIs
  hash := keyH w
  inj := fun v a b ha hb => by
    rcases keyIs_shape ha with ⟨i, t, rfl, rfl⟩ | ⟨x, t, rfl, rfl⟩
    · rcases keyIs_shape hb with ⟨j, u, rfl, e⟩ | ⟨y, u, rfl, e⟩
      · injection e with e1 _; rw [e1]
      · exact nomatch e
    · rcases keyIs_shape hb with ⟨j, u, rfl, e⟩ | ⟨y, u, rfl, e⟩
      · exact nomatch e
      · injection e with e1 _; rw [e1]
  byValue := fun k v h => by
    rcases keyIs_shape h with ⟨i, t, rfl, rfl⟩ | ⟨x, t, rfl, rfl⟩ <;> rfl
  pyHash := fun hv h => by
    rcases keyIs_shape hv with ⟨i, t, rfl, rfl⟩ | ⟨x, t, rfl, rfl⟩
    · exact wpAny_pyHash_int h
    · exact wpAny_pyHash_str h
  eqBool := fun hu hv h => by
    rcases keyIs_shape hu with ⟨i, t, rfl, rfl⟩ | ⟨x, t, rfl, rfl⟩
    · rcases keyIs_shape hv with ⟨j, u, rfl, rfl⟩ | ⟨y, u, rfl, rfl⟩
      · rw [key_ll] at h; exact wpAny_eqBool_int h
      · rw [key_lr] at h; exact SeqAt.EqAt.int_str i t y u _ _ _ _ h
    · rcases keyIs_shape hv with ⟨j, u, rfl, rfl⟩ | ⟨y, u, rfl, rfl⟩
      · rw [key_rl] at h; exact SeqAt.EqAt.str_int x t j u _ _ _ _ h
      · rw [key_rr] at h; exact wpAny_eqBool_str h
  «strs» := fun k x t v h => by
    rcases keyIs_shape h with ⟨i, u, rfl, e⟩ | ⟨y, u, rfl, e⟩
    · exact nomatch e
    · injection e with e1 _
      subst e1
      cases v <;> rfl
end L2
namespace L2
open PySem PySem.Spec PyProof.Rows
inductive V where
  | non | bl (b : Bool) | int (i : Int) | str (x : Str) | byt (b : Array UInt8) | flt (b : UInt64) | ref (a : Addr) | ty (n : String)
  deriving DecidableEq
def RelV : V → Value → Prop
  | .non, u => u = Value.none
  | .bl b, u => u = Value.bool b
  | .int i, u => ∃ t, u = Value.int i t
  | .str x, u => ∃ t, u = Value.str x t
  | .byt b, u => ∃ t, u = Value.bytes b t
  | .flt b, u => ∃ t, u = Value.float b t
  | .ref a, u => u = Value.ref a
  | .ty n, u => u = Value.type n
abbrev Vals : List V → List Value → Prop := Paired RelV
theorem Vals.length {xs : List V} {us : List Value} (r : Vals xs us) : xs.length = us.length := Paired.length r
theorem Vals.get : ∀ {xs : List V} {us : List Value} {i : Nat} {x : V}, Vals xs us → xs[i]? = some x → ∃ u, us[i]? = some u ∧ RelV x u
  | _, _, _, _, .nil, e => by simp at e
  | _, _, 0, _, .cons r _, e => by simp at e; subst e; exact ⟨_, rfl, r⟩
  | _, _, i + 1, x, .cons _ t, e => by
    obtain ⟨u, h1, h2⟩ := Vals.get (i := i) (x := x) t (by simpa using e)
    exact ⟨u, by simpa using h1, h2⟩
theorem Vals.set {x : V} {u : Value} (r : RelV x u) : ∀ {xs : List V} {us : List Value} (i : Nat), Vals xs us → Vals (xs.set i x) (us.set i u)
  | _, _, _, .nil => .nil
  | _, _, 0, .cons _ t => .cons r t
  | _, _, i + 1, .cons q t => .cons q (Vals.set r i t)
theorem Vals.append : ∀ {xs ys : List V} {us ws : List Value}, Vals xs us → Vals ys ws → Vals (xs ++ ys) (us ++ ws)
  | _, _, _, _, .nil, s => s
  | _, _, _, _, .cons r t, s => .cons r (Vals.append t s)
theorem Vals.take : ∀ {xs : List V} {us : List Value} (n : Nat), Vals xs us → Vals (xs.take n) (us.take n)
  | _, _, 0, _ => .nil
  | _, _, _ + 1, .nil => .nil
  | _, _, n + 1, .cons r t => .cons r (Vals.take n t)
theorem Vals.drop : ∀ {xs : List V} {us : List Value} (n : Nat), Vals xs us → Vals (xs.drop n) (us.drop n)
  | _, _, 0, r => r
  | _, _, _ + 1, .nil => .nil
  | _, _, n + 1, .cons _ t => Vals.drop n t
theorem Vals.none_of : ∀ {xs : List V} {us : List Value} {i : Nat}, Vals xs us → xs[i]? = none → us[i]? = none := fun {xs us i} r e => by
  have h1 := r.length
  have h2 : xs.length ≤ i := List.getElem?_eq_none_iff.mp e
  exact List.getElem?_eq_none_iff.mpr (by omega)
def RelO : Option V → Option Value → Prop
  | some v, some u => RelV v u
  | none, none => True
  | _, _ => False
def KV {κ : Type} : List (κ × V) → List (κ × Value) → Prop := Paired fun (p : κ × V) (q : κ × Value) => p.1 = q.1 ∧ RelV p.2 q.2
def kV : Key → V
  | .inl i => .int i
  | .inr x => .str x
inductive HO where
  | lst (xs : List V)
  | tup (xs : List V)
  | dK (kvs : List (Key × V)) | dT (kvs : List (List Key × V))
  | set (S : Int → Bool) (n : Nat)
  | ins (C dx : Addr) (fs : List (Str × V))
  | own (x : Addr)
  | xd (fs : List (Str × V))
  | met (f x : Addr)
  | rng (lo hi : Int)
  | frz (o : Obj) (u : HO)
  | tbl (ps : Array Value)
  | ext (φ : Heap → Prop)
abbrev Hp := Addr → Option HO
def upd (H : Hp) (a : Addr) (o : HO) : Hp := fun b => if b = a then some o else H b
theorem upd_same {H : Hp} {a : Addr} {o : HO} : upd H a o a = some o := by unfold upd; rw [if_pos rfl]
theorem upd_ne {H : Hp} {a b : Addr} {o : HO} (h : b ≠ a) : upd H a o b = H b := by unfold upd; rw [if_neg h]
theorem upd_upd {H : Hp} {a : Addr} {o u : HO} : upd (upd H a o) a u = upd H a u := by
  funext b; unfold upd; split <;> rfl
theorem ne_of {H : Hp} {a b : Addr} {o u : HO} (h : H a = some o) (h' : H b = some u) (d : o ≠ u) : a ≠ b := by
  intro e; subst e; rw [h] at h'; exact d (Option.some.inj h')
theorem ne_of_none {H : Hp} {a b : Addr} {o : HO} (h : H a = some o) (h' : H b = none) : a ≠ b := by
  intro e; subst e; rw [h] at h'; cases h'
section
variable (P : Program) (w : World)
def ObjOk (H : Hp) (h : Heap) (a : Addr) : HO → Prop
  | .lst xs => xs.length ≤ sizeLine ∧ ∃ (its : List Value) (n : Nat), Vals xs its ∧ h.get? a = some { cls := .type "list", data := .seq its.toArray n }
  | .tup xs => xs.length ≤ sizeLine ∧ ∃ its : List Value, Vals xs its ∧ IsTup h a its.toArray
  | .dK kvs => kvs.length ≤ sizeLine ∧ (a == sysModules) = false ∧ ∃ vs, KV kvs vs ∧ h.DictOf (mixKind P w) a vs
  | .dT kvs => kvs.length ≤ sizeLine ∧ (a == sysModules) = false ∧ ∃ xs : List (List Key × Addr × Value),
      Paired (fun (p : List Key × V) (q : List Key × Addr × Value) => p.1 = q.1 ∧ H q.2.1 = some (.tup (p.1.map kV)) ∧ RelV p.2 q.2.2) kvs xs ∧
      ∃ o es ep, h.get? a = some o ∧ o.ExactDict ∧ o.data = .dict es ep ∧ es.toList = xs.map (entryOfKey (tupleKind (mixKind P w))) ∧ (xs.map (·.1)).Nodup
  | .set S n => h.SetOf (intKind P w) a S n
  | .ins C dx fs => H dx = some (.own a) ∧ fs.length ≤ 1000 ∧ dx ≠ a ∧ h.get? a = some (PySem.W.instObj C dx) ∧
      ∃ mA, h.Ns1 dx mA ∧ (∀ f, RelO (fs.lookup f) (mA f)) ∧ PySem.Within mA (fs.map (·.1))
  | .own _ => ∃ o, h.get? a = some o
  | .xd fs => ∃ mA, h.Ns1 a mA ∧ ∀ f, RelO (fs.lookup f) (mA f)
  | .rng lo hi => ∃ t u v, h.get? a = some { cls := .type "range", data := .fields #[.int lo t, .int hi u, .int 1 v] }
  | .frz o u => h.get? a = some o ∧ ObjOk H h a u
  | .tbl ps => h.get? a = some { cls := .none, data := .fields ps }
  | .met f x => h.get? a = some (PySem.W.methodObj (.ref f) (.ref x))
  | .ext φ => φ h ∧ (∃ o, h.get? a = some o) ∧ ∀ h1 h2 : Heap, φ h1 → (∀ o, h1.get? a = some o → h2.get? a = some o) → φ h2
def HOk (H : Hp) (h : Heap) : Prop := ∀ a o, H a = some o → ObjOk P w H h a o
end
section
variable {P : Program} {w : World} {H H' : Hp} {h h' : Heap} {a : Addr} {o : HO}
theorem ObjOk.lt (x : ObjOk P w H h a o) : a < h.objs.size := by
  cases o with
  | lst xs => obtain ⟨_, _, _, _, e⟩ := x; exact Heap.lt_size e
  | tup xs => obtain ⟨_, _, _, p⟩ := x; exact p.lt
  | dK kvs => obtain ⟨_, _, _, _, o, _, _, e, _⟩ := x; exact Heap.lt_size e
  | dT kvs => obtain ⟨_, _, _, _, o, _, _, e, _⟩ := x; exact Heap.lt_size e
  | set S n => obtain ⟨o, _, _, _, e, _⟩ := x; exact Heap.lt_size e
  | ins C dx fs => obtain ⟨_, _, _, e, _⟩ := x; exact Heap.lt_size e
  | own y => obtain ⟨_, e⟩ := x; exact Heap.lt_size e
  | xd fs => obtain ⟨_, ⟨_, _, _, e, _⟩, _⟩ := x; exact Heap.lt_size e
  | rng lo hi => obtain ⟨_, _, _, e⟩ := x; exact Heap.lt_size e
  | frz ob u => obtain ⟨e, _⟩ := x; exact Heap.lt_size e
  | tbl ps => exact Heap.lt_size (show h.get? a = some _ from x)
  | met f y => exact Heap.lt_size (show h.get? a = some _ from x)
  | ext φ => obtain ⟨_, ⟨_, e⟩, _⟩ := x; exact Heap.lt_size e
theorem Paired.mapP {α β : Type} {F G : α → β → Prop} : ∀ {l₁ : List α} {l₂ : List β}, Paired F l₁ l₂ → (∀ a b, F a b → G a b) → Paired G l₁ l₂
  | _, _, .nil, _ => .nil
  | _, _, .cons r t, f => .cons (f _ _ r) (Paired.mapP t f)
theorem ObjOk.stay (x : ObjOk P w H h a o) (k : ∀ b u, (b = a ∨ H b = some (.own a)) → h.get? b = some u → h'.get? b = some u)
    (ho : ∀ b, H b = some (.own a) → H' b = some (.own a)) (ht : ∀ b xs, H b = some (.tup xs) → H' b = some (.tup xs)) : ObjOk P w H' h' a o := by
  induction o with
  | lst xs => obtain ⟨z, its, n, r, e⟩ := x; exact ⟨z, its, n, r, k _ _ (.inl rfl) e⟩
  | tup xs => obtain ⟨z, its, r, ob, e, c⟩ := x; exact ⟨z, its, r, ob, k _ _ (.inl rfl) e, c⟩
  | dK kvs => obtain ⟨z, y, vs, r, ob, es, ep, e, c⟩ := x; exact ⟨z, y, vs, r, ob, es, ep, k _ _ (.inl rfl) e, c⟩
  | dT kvs =>
    obtain ⟨z, y, xs, r, ob, es, ep, e, c⟩ := x
    exact ⟨z, y, xs, Paired.mapP r fun p q z => ⟨z.1, ht _ _ z.2.1, z.2.2⟩, ob, es, ep, k _ _ (.inl rfl) e, c⟩
  | set S n => obtain ⟨ob, es, ep, t, e, c⟩ := x; exact ⟨ob, es, ep, t, k _ _ (.inl rfl) e, c⟩
  | ins C dx fs =>
    obtain ⟨d, z, ne, e, mA, ⟨od, es, ep, e2, c⟩, r⟩ := x
    exact ⟨ho _ d, z, ne, k _ _ (.inl rfl) e, mA, ⟨od, es, ep, k _ _ (.inr d) e2, c⟩, r⟩
  | own y => obtain ⟨ob, e⟩ := x; exact ⟨ob, k _ _ (.inl rfl) e⟩
  | xd fs => obtain ⟨mA, ⟨od, es, ep, e, c⟩, r⟩ := x; exact ⟨mA, ⟨od, es, ep, k _ _ (.inl rfl) e, c⟩, r⟩
  | rng lo hi => obtain ⟨t, u, v, e⟩ := x; exact ⟨t, u, v, k _ _ (.inl rfl) e⟩
  | frz ob u ih => obtain ⟨e, q⟩ := x; exact ⟨k _ _ (.inl rfl) e, ih q⟩
  | tbl ps =>
    have e : h.get? a = some { cls := .none, data := .fields ps } := x
    show h'.get? a = some { cls := .none, data := .fields ps }
    exact k a _ (.inl rfl) e
  | met f y =>
    have e : h.get? a = some (PySem.W.methodObj (.ref f) (.ref y)) := x
    show h'.get? a = some (PySem.W.methodObj (.ref f) (.ref y))
    exact k a _ (.inl rfl) e
  | ext φ => obtain ⟨p, ⟨o, e⟩, st⟩ := x; exact ⟨st _ _ p fun o q => k _ _ (.inl rfl) q, ⟨o, k _ _ (.inl rfl) e⟩, st⟩
theorem HOk.lt (x : HOk P w H h) (e : H a = some o) : a < h.objs.size := (x a o e).lt
theorem HOk.fresh (x : HOk P w H h) (e : h.objs.size ≤ a) : H a = none := by
  cases q : H a with
  | none => rfl
  | some u => exact absurd (Nat.lt_of_lt_of_le (x.lt q) e) (Nat.lt_irrefl _)
theorem HOk.kept (x : HOk P w H h) (k : ∀ b u, h.get? b = some u → h'.get? b = some u) : HOk P w H h' := fun a o e =>
  (x a o e).stay (fun b u _ q => k b u q) (fun _ q => q) fun _ _ q => q
theorem HOk.laid (x : HOk P w H h) (k : ∀ b u, h.get? b = some u → h'.get? b = some u) (hp : h.objs.size ≤ a) (new : ObjOk P w (upd H a o) h' a o) : HOk P w (upd H a o) h' := fun b u e => by
  have hn := x.fresh hp
  by_cases hb : b = a
  · subst hb; rw [upd_same] at e; cases e; exact new
  · rw [upd_ne hb] at e
    exact (x b u e).stay (fun c v _ q => k c v q) (fun c q => by rw [upd_ne (ne_of_none q hn)]; exact q) fun c xs q => by rw [upd_ne (ne_of_none q hn)]; exact q
end
def Rd (H : Hp) (a : Addr) (u : HO) : Prop := H a = some u ∨ ∃ o, H a = some (.frz o u)
theorem Rd.ok {P : Program} {w : World} {H : Hp} {h : Heap} {a : Addr} {u : HO} (r : Rd H a u) (x : HOk P w H h) : ObjOk P w H h a u := by
  rcases r with r | ⟨o, r⟩
  · exact x a u r
  · obtain ⟨_, q⟩ := x a _ r
    exact q
def Mut : Option HO → Prop
  | some (.lst _) => True
  | some (.dK _) => True
  | some (.dT _) => True
  | some (.set _ _) => True
  | some (.ins _ _ _) => True
  | some (.ext _) => True
  | _ => False
section
variable {P : Program} {w : World} {H : Hp} {h h' : Heap} {x e : Addr} {o' : HO}
theorem HOk.write (ok : HOk P w H h) (mu : Mut (H x)) (he : e = x ∨ H e = some (.own x)) (k : ∀ b u, b ≠ e → h.get? b = some u → h'.get? b = some u) (heo : ∃ u, h'.get? e = some u)
    (new : ObjOk P w (upd H x o') h' x o') : HOk P w (upd H x o') h' := fun b u q => by
  have nown : ∀ c y, H c = some (.own y) → c ≠ x := fun c y r z => by subst z; rw [r] at mu; exact mu
  have ntup : ∀ c xs, H c = some (.tup xs) → c ≠ x := fun c xs r z => by subst z; rw [r] at mu; exact mu
  by_cases hb : b = x
  · subst hb; rw [upd_same] at q; cases q; exact new
  · rw [upd_ne hb] at q
    by_cases hbe : b = e
    · have q' : H b = some (.own x) := by
        rcases he with z | z
        · exact absurd (hbe.trans z) hb
        · rw [hbe]; exact z
      rw [q] at q'; cases q'
      obtain ⟨v, hv⟩ := heo
      exact ⟨v, by rw [hbe]; exact hv⟩
    · refine (ok b u q).stay (fun c v hc r => k c v ?_ r) (fun c r => by rw [upd_ne (nown c b r)]; exact r) fun c xs r => by rw [upd_ne (ntup c xs r)]; exact r
      rcases hc with rfl | hc
      · exact hbe
      · rintro rfl
        rcases he with z | z
        · exact nown c b hc z
        · rw [hc] at z; cases z; exact hb rfl
end
structure Un (fs ex : List Addr) (H H' : Hp) (h h' : Heap) : Prop where
  keep : ∀ b o, h.get? b = some o → H b = none → b ∉ fs → b ∉ ex → h'.get? b = some o
  slot : ∀ b o, h.get? b = some o → H b = none → b ∈ fs → b ∉ ex → ∃ sl, h'.get? b = some { o with slots := sl }
  free : ∀ b o, h.get? b = some o → H b = none → b ∉ ex → H' b = none
  there : ∀ b o, h.get? b = some o → b ∉ ex → ∃ o', h'.get? b = some o'
  tups : ∀ b xs, H b = some (.tup xs) → H' b = some (.tup xs)
  frzs : ∀ b o u, H b = some (.frz o u) → H' b = some (.frz o u)
  tbls : ∀ b ps, H b = some (.tbl ps) → ∃ more, H' b = some (.tbl (ps ++ more))
section
variable {fs fs' ex ex' : List Addr} {H H1 H2 : Hp} {h h1 h2 h' : Heap} {a x e : Addr} {o : HO}
theorem Un.any (u : Un fs ex H H1 h h1) {b : Addr} {ob : Obj} (q : h.get? b = some ob) (n : H b = none) (hx : b ∉ ex) : ∃ sl, h1.get? b = some { ob with slots := sl } := by
  by_cases hb : b ∈ fs
  · exact u.slot b ob q n hb hx
  · exact ⟨ob.slots, u.keep b ob q n hb hx⟩
theorem Un.kept (k : ∀ b u, h.get? b = some u → h'.get? b = some u) : Un fs ex H H h h' :=
  ⟨fun b ob q _ _ _ => k b ob q, fun b ob q _ _ _ => ⟨ob.slots, k b ob q⟩, fun _ _ _ n _ => n, fun b ob q _ => ⟨ob, k b ob q⟩, fun _ _ q => q, fun _ _ _ q => q, fun _ ps q => ⟨#[], by rw [q]; simp⟩⟩
theorem Un.refl : Un fs ex H H h h := Un.kept fun _ _ q => q
theorem Un.laid (k : ∀ b u, h.get? b = some u → h'.get? b = some u) (hp : h.objs.size ≤ a) (hn : H a = none) : Un fs ex H (upd H a o) h h' where
  keep := fun b u q _ _ _ => k b u q
  slot := fun b u q _ _ _ => ⟨u.slots, k b u q⟩
  free := fun b u q n _ => by rw [upd_ne (Nat.ne_of_lt (Nat.lt_of_lt_of_le (Heap.lt_size q) hp))]; exact n
  there := fun b u q _ => ⟨u, k b u q⟩
  tups := fun b xs q => by rw [upd_ne (ne_of_none q hn)]; exact q
  frzs := fun b u xs q => by rw [upd_ne (ne_of_none q hn)]; exact q
  tbls := fun b ps q => ⟨#[], by rw [upd_ne (ne_of_none q hn), q]; simp⟩
theorem Un.write (mu : Mut (H x)) (he : e = x ∨ H e = some (.own x)) (k : ∀ b u, b ≠ e → h.get? b = some u → h'.get? b = some u) (heo : ∃ u, h'.get? e = some u) : Un fs ex H (upd H x o) h h' := by
  have hx : ∀ b, H b = none → b ≠ x := fun b n z => by subst z; rw [n] at mu; exact mu
  have hb : ∀ b, H b = none → b ≠ e := fun b n z => by
    subst z
    rcases he with r | r
    · exact hx b n r
    · rw [n] at r; cases r
  have hm : ∀ b u, H b = some u → ¬ Mut (some u) → b ≠ x := fun b u q nm z => by subst z; rw [q] at mu; exact nm mu
  refine ⟨fun b u q n _ _ => k b u (hb b n) q, fun b u q n _ _ => ⟨u.slots, k b u (hb b n) q⟩, fun b u q n _ => by rw [upd_ne (hx b n)]; exact n, fun b u q _ => ?_,
    fun b xs q => by rw [upd_ne (hm b _ q fun z => z)]; exact q, fun b u xs q => by rw [upd_ne (hm b _ q fun z => z)]; exact q, fun b ps q => ⟨#[], by rw [upd_ne (hm b _ q fun z => z), q]; simp⟩⟩
  by_cases hbe : b = e
  · subst hbe; exact heo
  · exact ⟨u, k b u hbe q⟩
end
def trk (h : Heap) (H : Hp) : List Addr := (List.range h.objs.size).filter fun a => (H a).isSome
def hidT (h : Heap) (H : Hp) : Heap := PySem.W.hideAll h (trk h H)
theorem hidT_size (h : Heap) (H : Hp) : (hidT h H).objs.size = h.objs.size := PySem.W.hideAll_size _ _
theorem hidT_get {h : Heap} {H : Hp} {b : Addr} {o : Obj} (e : h.get? b = some o) (n : H b = none) : (hidT h H).get? b = some o :=
  PySem.W.hideAll_get _ e fun hm => by
    have q : (H b).isSome = true := (List.mem_filter.mp hm).2
    rw [n] at q; simp at q
theorem of_hidT {h : Heap} {H : Hp} {b : Addr} {o : Obj} (e : (hidT h H).get? b = some o) : h.get? b = some o ∧ H b = none := by
  have e' : h.get? b = some o := PySem.W.of_hideAll (trk h H) e
  refine ⟨e', ?_⟩
  cases q : H b with
  | none => rfl
  | some x =>
    have hm : b ∈ trk h H := List.mem_filter.mpr ⟨List.mem_range.mpr (Heap.lt_size e'), by simp [q]⟩
    have z : (hidT h H).get? b = none := PySem.W.hideAll_none (trk h H) hm
    rw [z] at e; cases e
end L2
namespace L2
open PySem PySem.Spec PyProof.Rows
structure Mod (K : PySem.W.Frag) (mg : Str → Option Value) (base : Heap) : Prop where
  kin : K.In base
  glob : base.Ns mainGlobals mg
  blt : ∃ mb, base.Ns builtinsNs mb ∧ ∀ x : Str, x ≠ "__name__" → mb x = bootBuiltins x
  nolimit : base.NoLimit
structure Cx where
  prog : Program
  w : World
  K : PySem.W.Frag
  mg : Str → Option Value
  base : Heap
  A : Around
  N : List Str
  s_0 : Shared
  H_0 : Hp
  env : Env
  outer : List Env
  stack : List Env
  ex : List Addr
  fn : Str → Bool
  calm : Bool
  pn : List (Addr × Obj)
  xe : Value → Shared → Prop
def frs (l : List Env) : List Addr := l.filterMap (·.frame)
abbrev Cx.fs (X : Cx) : List Addr := frs X.outer
def Vis (sc : Scope) (x : Str) : Prop := sc.names.lookup x = some .local ∨ sc.names.lookup x = some .cell ∨ sc.names.lookup x = some .free
def Loc (sc : Scope) (x : Str) : Prop := sc.names.lookup x = some .local ∨ sc.names.lookup x = some .cell
def Look (env : Env) (h : Heap) (m : Str → Option Value) (x : Str) (u : Value) : Prop :=
  (env.kindOf x = some .local ∧ m x = some u) ∨ ((env.kindOf x = some .cell ∨ env.kindOf x = some .free) ∧ ∃ c, env.cells.lookup x = some c ∧ h.IsCell c (some u))
structure Cx.Ok (X : Cx) : Prop where
  mod : Mod X.K X.mg X.base
  kind : X.env.scope.kind = .function
  glob : X.env.globals = mainGlobals
  blt : X.env.builtins = builtinsNs
  above : X.s_0.heap.objs.size ≤ X.env.locals
  inj : ∀ x y c, X.env.cells.lookup x = some c → X.env.cells.lookup y = some c → x = y
  has : ∀ x, (X.env.kindOf x = some .cell ∨ X.env.kindOf x = some .free) → ∃ c, X.env.cells.lookup x = some c
  cab : ∀ x c, X.fn x = true → X.env.cells.lookup x = some c → X.s_0.heap.objs.size ≤ c
  hd : X.calm = true → X.A.handled = none
  frames : X.A.frames = some X.stack
  stk : X.stack = X.outer ∨ (X.stack = X.env :: X.outer ∧ X.env.frame = some X.env.locals)
  exf : ∀ b ∈ X.ex, b ≠ X.env.locals ∧ ∀ x c, X.env.cells.lookup x = some c → c ≠ b
  bs : ∀ b o, X.base.get? b = some o → X.s_0.heap.get? b = some o ∧ X.H_0 b = none
  bsz : X.base.objs.size ≤ X.s_0.heap.objs.size
  noex : ∀ b o, X.base.get? b = some o → b ∉ X.ex
  exfs : ∀ b ∈ X.ex, b ∉ X.fs
  funs : X.s_0.heap.FunFrames X.base X.outer
  frf : ∀ b ∈ X.fs, X.H_0 b = none
structure Inv (X : Cx) (pins : List (Addr × Obj)) (σ : List (Option V)) (H : Hp) (s : Shared) : Prop where
  ok : X.Ok
  os : s.os = X.s_0.os
  bare : AllBare s.gens
  base : Un X.fs X.ex X.H_0 H X.s_0.heap s.heap
  loc : ∃ m, s.heap.Ns X.env.locals m ∧ ∀ (i : Nat) (x : Str) (v : V), X.N[i]? = some x → σ[i]? = some (some v) → Vis X.env.scope x → ∃ u, RelV v u ∧ Look X.env s.heap m x u
  cell : ∀ x c, X.env.cells.lookup x = some c → ∃ v, s.heap.IsCell c v
  free : H X.env.locals = none
  freeC : ∀ x c, X.env.cells.lookup x = some c → H c = none
  pin : ∀ p ∈ X.pn ++ pins, s.heap.get? p.1 = some p.2 ∧ H p.1 = none ∧ p.1 ≠ X.env.locals ∧ p.1 ∉ X.fs ∧ ∀ v, p.2.data ≠ .cell v
  hok : HOk X.prog X.w H s.heap
  len : σ.length = X.N.length
section
variable {X : Cx} {pins : List (Addr × Obj)} {σ : List (Option V)} {H H' : Hp} {s : Shared} {h' : Heap}
theorem Cx.Ok.nofr (ok : X.Ok) {b : Addr} {o : Obj} (e : X.base.get? b = some o) : b ∉ X.fs := fun hb => by
  have := (ok.funs.mem hb).1
  rw [e] at this; cases this
theorem Inv.bs (I : Inv X pins σ H s) : ∀ b o, X.base.get? b = some o → s.heap.get? b = some o ∧ H b = none := fun b o e =>
  ⟨I.base.keep b o (I.ok.bs b o e).1 (I.ok.bs b o e).2 (I.ok.nofr e) (I.ok.noex b o e), I.base.free b o (I.ok.bs b o e).1 (I.ok.bs b o e).2 (I.ok.noex b o e)⟩
theorem Inv.bk (I : Inv X pins σ H s) : ∀ b o, X.base.get? b = some o → s.heap.get? b = some o := fun b o e => (I.bs b o e).1
theorem Inv.mod (I : Inv X pins σ H s) : Mod X.K X.mg X.base := I.ok.mod
theorem Inv.kIn (I : Inv X pins σ H s) : X.K.In s.heap := I.ok.mod.kin.keeps I.bk
theorem Inv.lt (I : Inv X pins σ H s) : X.env.locals < s.heap.objs.size := let ⟨_, hn, _⟩ := I.loc; hn.lt
theorem Inv.sz (I : Inv X pins σ H s) : X.s_0.heap.objs.size ≤ s.heap.objs.size := Nat.le_trans I.ok.above (Nat.le_of_lt I.lt)
theorem Inv.nofs (I : Inv X pins σ H s) {a : Addr} (h : s.heap.objs.size ≤ a) : a ∉ X.fs := fun hb => by
  obtain ⟨_, o, ho, _⟩ := I.ok.funs.mem hb
  exact absurd (Nat.lt_of_lt_of_le (Heap.lt_size ho) (Nat.le_trans I.sz h)) (Nat.lt_irrefl _)
theorem Inv.cne (I : Inv X pins σ H s) : ∀ x c, X.env.cells.lookup x = some c → c ≠ X.env.locals := fun x c e z => by
  obtain ⟨v, o, ho, hd⟩ := I.cell x c e
  obtain ⟨m, ⟨o', es, ep, ho', hd', _⟩, _⟩ := I.loc
  rw [z, ho'] at ho; cases ho; rw [hd'] at hd; cases hd
theorem Inv.funs (I : Inv X pins σ H s) : s.heap.FunFrames X.base X.outer := by
  have all : ∀ (l : List Env), (∀ b ∈ frs l, b ∈ X.fs) → X.s_0.heap.FunFrames X.base l → s.heap.FunFrames X.base l := by
    intro l
    induction l with
    | nil => intro _ _; trivial
    | cons env r ih =>
      intro hs hl
      obtain ⟨hk, ⟨L, o, hf, hn, ho, hd⟩, hr⟩ := hl
      have hL : L ∈ X.fs := hs L (by unfold frs; rw [List.filterMap_cons, hf]; exact List.mem_cons_self)
      obtain ⟨sl, e⟩ := I.base.slot L o ho (I.ok.frf L hL) hL fun z => I.ok.exfs L z hL
      exact ⟨hk, ⟨L, _, hf, hn, e, hd⟩, ih (fun b hb => hs b (by unfold frs; rw [List.filterMap_cons, hf]; exact List.mem_cons_of_mem _ hb)) hr⟩
  exact all X.outer (fun _ hb => hb) I.ok.funs
theorem Inv.stack (I : Inv X pins σ H s) : s.heap.FunFrames X.base X.stack := by
  rcases I.ok.stk with e | ⟨e, hf⟩
  · rw [e]; exact I.funs
  · rw [e]
    obtain ⟨m, hn, _⟩ := I.loc
    refine .cons (by rw [I.ok.kind]; decide) hf hn ?_ I.funs
    exact Heap.get?_none_of_le (Nat.le_trans I.ok.bsz I.ok.above)
theorem Inv.stkSub (I : Inv X pins σ H s) : ∀ b ∈ frs X.stack, b ∈ X.env.locals :: X.fs := fun b hb => by
  rcases I.ok.stk with e | ⟨e, hf⟩
  · rw [e] at hb; exact List.mem_cons_of_mem _ hb
  · rw [e] at hb
    unfold frs at hb
    rw [List.filterMap_cons, hf] at hb
    exact hb
theorem Inv.stkFree (I : Inv X pins σ H s) : ∀ b ∈ frs X.stack, H b = none := fun b hb => by
  rcases List.mem_cons.mp (I.stkSub b hb) with e | hb
  · rw [e]; exact I.free
  · obtain ⟨_, o, ho, _⟩ := I.ok.funs.mem hb
    exact I.base.free b o ho (I.ok.frf b hb) fun z => I.ok.exfs b z hb
theorem Inv.step {g' : Array GenState} {t' : Nat} {d' : Drawn} {ch : List Addr} (I : Inv X pins σ H s)
    (hch : ∀ b ∈ ch, (b ∈ X.ex ∨ X.s_0.heap.objs.size ≤ b) ∧ b ≠ X.env.locals ∧ (∀ x c, X.env.cells.lookup x = some c → c ≠ b) ∧ ∀ p ∈ X.pn ++ pins, p.1 ≠ b)
    (keep : ∀ b o, b ≠ X.env.locals → b ∉ X.fs → b ∉ ch → s.heap.get? b = some o → H b = none → h'.get? b = some o)
    (slot : ∀ b o, b ≠ X.env.locals → b ∈ X.fs → b ∉ ch → s.heap.get? b = some o → H b = none → ∃ sl, h'.get? b = some { o with slots := sl }) (free : ∀ b o, b ∉ ch → s.heap.get? b = some o → H b = none → H' b = none)
    (there : ∀ b o, b ∉ ch → s.heap.get? b = some o → ∃ o', h'.get? b = some o')
    (tups : ∀ b xs, H b = some (.tup xs) → H' b = some (.tup xs)) (frzs : ∀ b o u, H b = some (.frz o u) → H' b = some (.frz o u)) (tbls : ∀ b ps, H b = some (.tbl ps) → ∃ more, H' b = some (.tbl (ps ++ more)))
    (ns : ∀ m, s.heap.Ns X.env.locals m → h'.Ns X.env.locals m) (hok : HOk X.prog X.w H' h') (hg : AllBare g') :
    Inv X pins σ H' { s with heap := h', gens := g', drawn := d', toks := t' } := by
  have neL : ∀ b o, X.s_0.heap.get? b = some o → b ≠ X.env.locals := fun b o e => Nat.ne_of_lt (Nat.lt_of_lt_of_le (Heap.lt_size e) I.ok.above)
  have neC : ∀ b o, X.s_0.heap.get? b = some o → b ∉ X.ex → b ∉ ch := fun b o e hx hb => by
    rcases (hch b hb).1 with z | z
    · exact hx z
    · exact absurd (Nat.lt_of_lt_of_le (Heap.lt_size e) z) (Nat.lt_irrefl _)
  have cellK : ∀ x c, X.env.cells.lookup x = some c → ∀ v, s.heap.IsCell c v → h'.IsCell c v := fun x c e v ⟨o, ho, hd⟩ => by
    have nch : c ∉ ch := fun z => (hch c z).2.2.1 x c e rfl
    by_cases hc : c ∈ X.fs
    · obtain ⟨sl, q⟩ := slot c o (I.cne x c e) hc nch ho (I.freeC x c e)
      exact ⟨_, q, hd⟩
    · exact ⟨o, keep c o (I.cne x c e) hc nch ho (I.freeC x c e), hd⟩
  refine ⟨I.ok, I.os, hg, ⟨fun b o e n hb hx => ?_, fun b o e n hb hx => ?_, fun b o e n hx => ?_, fun b o e hx => ?_, fun b xs e => tups b xs (I.base.tups b xs e), fun b o xs e => frzs b o xs (I.base.frzs b o xs e), fun b ps e => ?_⟩, ?_, fun x c e => ?_, ?_, fun x c e => ?_, fun p hp => ?_, hok, I.len⟩
  · exact keep b o (neL b o e) hb (neC b o e hx) (I.base.keep b o e n hb hx) (I.base.free b o e n hx)
  · obtain ⟨sl, e1⟩ := I.base.slot b o e n hb hx
    obtain ⟨sl', e2⟩ := slot b _ (neL b o e) hb (neC b o e hx) e1 (I.base.free b o e n hx)
    exact ⟨sl', e2⟩
  · obtain ⟨o', e1⟩ := I.base.there b o e hx
    exact free b o' (neC b o e hx) e1 (I.base.free b o e n hx)
  · obtain ⟨o', e1⟩ := I.base.there b o e hx
    exact there b o' (neC b o e hx) e1
  · obtain ⟨m1, e1⟩ := I.base.tbls b ps e
    obtain ⟨m2, e2⟩ := tbls b _ e1
    exact ⟨m1 ++ m2, by rw [e2, Array.append_assoc]⟩
  · obtain ⟨m, hn, hl⟩ := I.loc
    refine ⟨m, ns m hn, fun i x v e1 e2 e3 => ?_⟩
    obtain ⟨u, r, l⟩ := hl i x v e1 e2 e3
    refine ⟨u, r, ?_⟩
    rcases l with l | ⟨k, c, e, z⟩
    · exact .inl l
    · exact .inr ⟨k, c, e, cellK x c e _ z⟩
  · obtain ⟨v, z⟩ := I.cell x c e
    exact ⟨v, cellK x c e v z⟩
  · obtain ⟨m, ⟨o, _, _, ho, _⟩, _⟩ := I.loc
    exact free _ o (fun z => (hch _ z).2.1 rfl) ho I.free
  · obtain ⟨v, o, ho, hd⟩ := I.cell x c e
    exact free c o (fun z => (hch c z).2.2.1 x c e rfl) ho (I.freeC x c e)
  · obtain ⟨e, n, ne, nf, d⟩ := I.pin p hp
    have nch : p.1 ∉ ch := fun z => (hch p.1 z).2.2.2 p hp rfl
    exact ⟨keep p.1 p.2 ne nf nch e n, free p.1 p.2 nch e n, ne, nf, d⟩
theorem Inv.un {t' : Nat} (I : Inv X pins σ H s) (u : Un X.fs [] H H' s.heap h') (hok : HOk X.prog X.w H' h') : Inv X pins σ H' { s with heap := h', toks := t' } := by
  obtain ⟨m, ⟨o, es, ep, ho, r⟩, _⟩ := id I.loc
  obtain ⟨sl, hL⟩ := u.any ho I.free (by simp)
  exact I.step (g' := s.gens) (d' := s.drawn) (ch := []) (fun _ z => nomatch z) (fun b o _ hb _ e n => u.keep b o e n hb (by simp)) (fun b o _ hb _ e n => u.slot b o e n hb (by simp)) (fun b o _ e n => u.free b o e n (by simp)) (fun b o _ e => u.there b o e (by simp)) u.tups u.frzs u.tbls (fun m' hm => by
    obtain ⟨o', es', ep', ho', r'⟩ := hm
    rw [ho] at ho'; cases ho'
    exact ⟨_, es', ep', hL, r'⟩) hok I.bare
theorem Inv.call {g' : Array GenState} {t' : Nat} {d' : Drawn} {ch : List Addr} (I : Inv X pins σ H s) (u : Un (frs X.stack) ch H H' s.heap h') (hok : HOk X.prog X.w H' h') (hg : AllBare g')
    (hch : ∀ b ∈ ch, (b ∈ X.ex ∨ X.s_0.heap.objs.size ≤ b) ∧ b ≠ X.env.locals ∧ (∀ x c, X.env.cells.lookup x = some c → c ≠ b) ∧ ∀ p ∈ X.pn ++ pins, p.1 ≠ b) :
    Inv X pins σ H' { s with heap := h', gens := g', drawn := d', toks := t' } := by
  obtain ⟨m, ⟨o, es, ep, ho, r⟩, _⟩ := id I.loc
  obtain ⟨sl, hL⟩ := u.any ho I.free fun z => (hch _ z).2.1 rfl
  exact I.step (ch := ch) hch (fun b o hL hb hc e n => u.keep b o e n (fun z => (List.mem_cons.mp (I.stkSub b z)).elim hL hb) hc) (fun b o _ _ hc e n => u.any e n hc) (fun b o hc e n => u.free b o e n hc) (fun b o hc e => u.there b o e hc) u.tups u.frzs u.tbls (fun m' hm => by
    obtain ⟨o', es', ep', ho', r'⟩ := hm
    rw [ho] at ho'; cases ho'
    exact ⟨_, es', ep', hL, r'⟩) hok hg
theorem Inv.turned {t' : Nat} {it : Addr} (I : Inv X pins σ H s) (k : ∀ b o, b ≠ it → s.heap.get? b = some o → h'.get? b = some o) (hn : H it = none) (hL : it ≠ X.env.locals)
    (h1 : it ∈ X.ex ∨ X.s_0.heap.objs.size ≤ it) (h2 : ∀ x c, X.env.cells.lookup x = some c → c ≠ it) (h3 : ∀ p ∈ X.pn ++ pins, p.1 ≠ it) : Inv X pins σ H { s with heap := h', toks := t' } := by
  have nit : ∀ b u, H b = some u → b ≠ it := fun b u e z => by rw [z, hn] at e; cases e
  refine I.step (g' := s.gens) (d' := s.drawn) (ch := [it]) (fun b hb => ?_) (fun b o _ _ hc e _ => k b o (fun z => hc (by simp [z])) e) (fun b o _ _ hc e _ => ⟨o.slots, k b o (fun z => hc (by simp [z])) e⟩) (fun _ _ _ _ n => n)
    (fun b o hc e => ⟨o, k b o (fun z => hc (by simp [z])) e⟩) (fun _ _ e => e) (fun _ _ _ e => e) (fun b ps e => ⟨#[], by rw [e]; simp⟩) (fun m hm => ?_) (fun b u e => ?_) I.bare
  · have e : b = it := by simpa using hb
    subst e
    exact ⟨h1, hL, h2, h3⟩
  · obtain ⟨o, es, ep, ho, r⟩ := hm
    exact ⟨o, es, ep, k _ o (Ne.symm hL) ho, r⟩
  · refine (I.hok b u e).stay (fun c v hc q => k c v ?_ q) (fun _ q => q) fun _ _ q => q
    rcases hc with z | z
    · rw [z]; exact nit b u e
    · exact nit c _ z
theorem Inv.tok (I : Inv X pins σ H s) (t : Nat) : Inv X pins σ H { s with toks := t } := I.un (h' := s.heap) (t' := t) Un.refl I.hok
theorem Inv.kept {t' : Nat} (I : Inv X pins σ H s) (k : ∀ b u, s.heap.get? b = some u → h'.get? b = some u) : Inv X pins σ H { s with heap := h', toks := t' } := I.un (Un.kept k) (I.hok.kept k)
theorem Inv.laid {a : Addr} {o : HO} {t' : Nat} (I : Inv X pins σ H s) (k : ∀ b u, s.heap.get? b = some u → h'.get? b = some u) (hp : s.heap.objs.size ≤ a) (new : ObjOk X.prog X.w (upd H a o) h' a o) :
    Inv X pins σ (upd H a o) { s with heap := h', toks := t' } := I.un (Un.laid k hp (I.hok.fresh hp)) (I.hok.laid k hp new)
theorem Inv.write {x e : Addr} {o : HO} {t' : Nat} (I : Inv X pins σ H s) (mu : Mut (H x)) (he : e = x ∨ H e = some (.own x)) (k : ∀ b u, b ≠ e → s.heap.get? b = some u → h'.get? b = some u) (heo : ∃ u, h'.get? e = some u)
    (new : ObjOk X.prog X.w (upd H x o) h' x o) : Inv X pins σ (upd H x o) { s with heap := h', toks := t' } := I.un (Un.write mu he k heo) (I.hok.write mu he k heo new)
theorem Inv.weak {σ' : List (Option V)} (I : Inv X pins σ H s) (hl : σ'.length = σ.length) (w : ∀ (i : Nat) v, σ'[i]? = some (some v) → σ[i]? = some (some v)) : Inv X pins σ' H s :=
  ⟨I.ok, I.os, I.bare, I.base, let ⟨m, hn, hl'⟩ := I.loc; ⟨m, hn, fun i x v e1 e2 e3 => hl' i x v e1 (w i v e2) e3⟩, I.cell, I.free, I.freeC, I.pin, I.hok, hl.trans I.len⟩
theorem Inv.pins_of {pins' : List (Addr × Obj)} (I : Inv X pins σ H s) (h : ∀ p ∈ pins', s.heap.get? p.1 = some p.2 ∧ H p.1 = none ∧ p.1 ≠ X.env.locals ∧ p.1 ∉ X.fs ∧ ∀ v, p.2.data ≠ .cell v) : Inv X pins' σ H s :=
  ⟨I.ok, I.os, I.bare, I.base, I.loc, I.cell, I.free, I.freeC, fun p hp => (List.mem_append.mp hp).elim (fun z => I.pin p (List.mem_append_left _ z)) (h p), I.hok, I.len⟩
theorem nodup_ix {N : List Str} (hN : N.Nodup) {i j : Nat} {x : Str} (a : N[i]? = some x) (b : N[j]? = some x) : i = j := by
  obtain ⟨h1, e1⟩ := List.getElem?_eq_some_iff.mp a
  obtain ⟨h2, e2⟩ := List.getElem?_eq_some_iff.mp b
  exact (List.getElem_inj hN).mp (e1.trans e2.symm)
theorem store_ok2 {M : Model} {A : Around} {E : Value → Shared → Prop} {i : Nat} {x : Str} {v : V} {u : Value} {Q : Unit → Shared → Prop} (I : Inv X pins σ H s) (hN : X.N.Nodup) (hi : X.N[i]? = some x) (hx : Loc X.env.scope x) (r : RelV v u)
    (h : ∀ s', Inv X pins (σ.set i (some v)) H s' → (∃ a, Heap.SameBut a s.heap s'.heap ∧ (a = X.env.locals ∨ X.env.cells.lookup x = some a)) → Q () s') (hf : X.fn x = true ∨ X.env.scope.names.lookup x = some .local := by first | exact .inl rfl | exact .inr rfl | assumption) : wpAny M A (storeName X.env x u) Q E s := by
  obtain ⟨m, hn, hl⟩ := id I.loc
  have hcls : (X.env.scope.kind == .class || (X.env.scope.kind == .module && X.env.locals != X.env.globals)) = false := by rw [I.ok.kind]; rfl
  have hiσ : i < σ.length := by rw [I.len]; exact (List.getElem?_eq_some_iff.mp hi).1
  have cne := I.cne
  have tracked : ∀ {a : Addr} {h' : Heap}, (∃ o, s.heap.get? a = some o ∧ H a = none) → Heap.SameBut a s.heap h' → HOk X.prog X.w H h' := fun {a h'} ha hs b ob e => by
    obtain ⟨_, _, hfree⟩ := ha
    refine (I.hok b ob e).stay (fun c w' hc q => (hs.2 c ?_).trans q) (fun _ q => q) fun _ _ q => q
    rintro rfl
    rcases hc with rfl | hc
    · rw [hfree] at e; cases e
    · rw [hfree] at hc; cases hc
  rcases hx with hk | hk
  · refine wpAny_storeName_local hk hn (fun h' hn' hs => ?_) hcls
    obtain ⟨oL, _, _, hoL, _⟩ := id hn
    refine h _ ⟨I.ok, I.os, I.bare, ⟨fun b o e n hb hx => ?_, fun b o e n hb hx => ?_, I.base.free, fun b o e hx => ?_, I.base.tups, I.base.frzs, I.base.tbls⟩, ⟨_, hn', fun j y v' e1 e2 e3 => ?_⟩, fun y c e => ?_, I.free, I.freeC, fun p hp => ?_, tracked ⟨oL, hoL, I.free⟩ hs, by simpa using I.len⟩ ⟨_, hs, .inl rfl⟩
    · exact (hs.2 b (Nat.ne_of_lt (Nat.lt_of_lt_of_le (Heap.lt_size e) I.ok.above))).trans (I.base.keep b o e n hb hx)
    · obtain ⟨sl, e1⟩ := I.base.slot b o e n hb hx
      exact ⟨sl, (hs.2 b (Nat.ne_of_lt (Nat.lt_of_lt_of_le (Heap.lt_size e) I.ok.above))).trans e1⟩
    · obtain ⟨o', e1⟩ := I.base.there b o e hx
      exact ⟨o', (hs.2 b (Nat.ne_of_lt (Nat.lt_of_lt_of_le (Heap.lt_size e) I.ok.above))).trans e1⟩
    · by_cases hj : j = i
      · subst hj
        rw [hi] at e1; cases e1
        rw [List.getElem?_set_self hiσ] at e2
        cases e2
        exact ⟨u, r, .inl ⟨hk, by simp⟩⟩
      · rw [List.getElem?_set_ne (Ne.symm hj)] at e2
        obtain ⟨u', r', q⟩ := hl j y v' e1 e2 e3
        refine ⟨u', r', ?_⟩
        rcases q with ⟨k, e⟩ | ⟨k, c, e, z⟩
        · refine .inl ⟨k, ?_⟩
          have : y ≠ x := fun e => hj (nodup_ix hN e1 (e ▸ hi))
          simp [this, e]
        · exact .inr ⟨k, c, e, z.sameBut hs (cne y c e)⟩
    · obtain ⟨w', z⟩ := I.cell y c e
      exact ⟨w', z.sameBut hs (cne y c e)⟩
    · obtain ⟨e, n, ne, nf, d⟩ := I.pin p hp
      exact ⟨(hs.2 p.1 ne).trans e, n, ne, nf, d⟩
  · have hfn : X.fn x = true := by
      rcases hf with z | z
      · exact z
      · rw [z] at hk; cases hk
    obtain ⟨c, hc⟩ := I.ok.has x (.inl hk)
    obtain ⟨w', z⟩ := I.cell x c hc
    refine wpAny_storeName_cell I.ok.kind hk hc z (fun h' hc' hs => ?_)
    obtain ⟨oc, hoc, hocd⟩ := id z
    refine h { s with heap := h' } ⟨I.ok, I.os, I.bare, ⟨fun b o e n hb hx => ?_, fun b o e n hb hx => ?_, I.base.free, fun b o e hx => ?_, I.base.tups, I.base.frzs, I.base.tbls⟩, ⟨m, hn.sameBut hs (Ne.symm (cne x c hc)), fun j y v' e1 e2 e3 => ?_⟩, fun y c' e => ?_, I.free, I.freeC, fun p hp => ?_, tracked ⟨oc, hoc, I.freeC x c hc⟩ hs, by simpa using I.len⟩ ⟨c, hs, .inr hc⟩
    · exact (hs.2 b (Nat.ne_of_lt (Nat.lt_of_lt_of_le (Heap.lt_size e) (I.ok.cab x c hfn hc)))).trans (I.base.keep b o e n hb hx)
    · obtain ⟨sl, e1⟩ := I.base.slot b o e n hb hx
      exact ⟨sl, (hs.2 b (Nat.ne_of_lt (Nat.lt_of_lt_of_le (Heap.lt_size e) (I.ok.cab x c hfn hc)))).trans e1⟩
    · obtain ⟨o', e1⟩ := I.base.there b o e hx
      exact ⟨o', (hs.2 b (Nat.ne_of_lt (Nat.lt_of_lt_of_le (Heap.lt_size e) (I.ok.cab x c hfn hc)))).trans e1⟩
    · by_cases hj : j = i
      · subst hj
        rw [hi] at e1; cases e1
        rw [List.getElem?_set_self hiσ] at e2
        cases e2
        exact ⟨u, r, .inr ⟨.inl hk, c, hc, hc'⟩⟩
      · rw [List.getElem?_set_ne (Ne.symm hj)] at e2
        obtain ⟨u', r', q⟩ := hl j y v' e1 e2 e3
        refine ⟨u', r', ?_⟩
        rcases q with q | ⟨k, c', e, z'⟩
        · exact .inl q
        · refine .inr ⟨k, c', e, z'.sameBut hs ?_⟩
          rintro rfl
          exact hj (nodup_ix hN e1 (I.ok.inj _ _ _ e hc ▸ hi))
    · by_cases hcc : c' = c
      · subst hcc; exact ⟨_, hc'⟩
      · obtain ⟨w2, z2⟩ := I.cell y c' e
        exact ⟨w2, z2.sameBut hs hcc⟩
    · obtain ⟨e, n, ne, nf, d⟩ := I.pin p hp
      refine ⟨(hs.2 p.1 ?_).trans e, n, ne, nf, d⟩
      intro q
      rw [q, hoc] at e
      have q' : oc = p.2 := Option.some.inj e
      exact d w' (by rw [← q']; exact hocd)
theorem store_ok {M : Model} {A : Around} {E : Value → Shared → Prop} {i : Nat} {x : Str} {v : V} {u : Value} {Q : Unit → Shared → Prop} (I : Inv X pins σ H s) (hN : X.N.Nodup) (hi : X.N[i]? = some x) (hx : Loc X.env.scope x) (r : RelV v u)
    (h : ∀ s', Inv X pins (σ.set i (some v)) H s' → Q () s') (hf : X.fn x = true ∨ X.env.scope.names.lookup x = some .local := by first | exact .inl rfl | exact .inr rfl | assumption) : wpAny M A (storeName X.env x u) Q E s :=
  store_ok2 I hN hi hx r (fun s' I' _ => h s' I') hf
theorem Inv.call' {s' : Shared} {ch : List Addr} (I : Inv X pins σ H s) (ho : s'.os = s.os) (u : Un (frs X.stack) ch H H' s.heap s'.heap) (hok : HOk X.prog X.w H' s'.heap) (hg : AllBare s'.gens)
    (hch : ∀ b ∈ ch, (b ∈ X.ex ∨ X.s_0.heap.objs.size ≤ b) ∧ b ≠ X.env.locals ∧ (∀ x c, X.env.cells.lookup x = some c → c ≠ b) ∧ ∀ p ∈ X.pn ++ pins, p.1 ≠ b) : Inv X pins σ H' s' := by
  obtain ⟨h', g', d', t', o'⟩ := s'
  have e : o' = s.os := ho
  subst e
  exact I.call (g' := g') (t' := t') (d' := d') u hok hg hch
end
abbrev XK := Value → Option Addr → Hp → Prop
abbrev St := List (Option V)
abbrev VK := V → Hp → Prop
abbrev TE := St → Hp → VK → Prop
abbrev TT := St → Hp → (Bool → Hp → Prop) → Prop
abbrev TA := St → Hp → (List V → Hp → Prop) → Prop
structure Ends where
  nx : St → Hp → Prop
  rt : VK
  bk : St → Hp → Prop := fun _ _ => False
  ct : St → Hp → Prop := fun _ _ => False
abbrev TS := Ends → St → Hp → Prop
def EP (X : Cx) (pins : List (Addr × Obj)) (σ : St) (Q : VK) (u : Value) (s' : Shared) : Prop := ∃ v H', Inv X pins σ H' s' ∧ RelV v u ∧ Q v H'
def TP (X : Cx) (pins : List (Addr × Obj)) (σ : St) (Q : Bool → Hp → Prop) (b : Bool) (s' : Shared) : Prop := ∃ H', Inv X pins σ H' s' ∧ Q b H'
def AP (X : Cx) (pins : List (Addr × Obj)) (σ : St) (Q : List V → Hp → Prop) (us : List Value) (s' : Shared) : Prop := ∃ vs H', Inv X pins σ H' s' ∧ Vals vs us ∧ Q vs H'
def SP (X : Cx) (pins : List (Addr × Obj)) (D : Ends) (f : Flow) (s' : Shared) : Prop :=
  match f with
  | .next => ∃ σ' H', Inv X pins σ' H' s' ∧ D.nx σ' H'
  | .brk => ∃ σ' H', Inv X pins σ' H' s' ∧ D.bk σ' H'
  | .cont => ∃ σ' H', Inv X pins σ' H' s' ∧ D.ct σ' H'
  | .ret u => ∃ v σ' H', Inv X pins σ' H' s' ∧ RelV v u ∧ D.rt v H'
def PE (X : Cx) (e : Expr) (t : TE) : Prop :=
  ∀ (pins : List (Addr × Obj)) (s : Shared) (σ : St) (H : Hp) (Q : VK), Inv X pins σ H s → t σ H Q → wpAny (model X.prog X.w) X.A (eval e X.env) (EP X pins σ Q) X.xe s
def PT (X : Cx) (e : Expr) (t : TT) : Prop :=
  ∀ (pins : List (Addr × Obj)) (s : Shared) (σ : St) (H : Hp) (Q : Bool → Hp → Prop), Inv X pins σ H s → t σ H Q → wpAny (model X.prog X.w) X.A (isTrue e X.env (eval e X.env)) (TP X pins σ Q) X.xe s
def PW (X : Cx) (e : Expr) (t : TT) : Prop :=
  ∀ (whole : Sem Value) (pins : List (Addr × Obj)) (s : Shared) (σ : St) (H : Hp) (Q : Bool → Hp → Prop), Inv X pins σ H s → t σ H Q → wpAny (model X.prog X.w) X.A (isTrue e X.env whole) (TP X pins σ Q) X.xe s
theorem PW.pt {X : Cx} {e : Expr} {t : TT} (h : PW X e t) : PT X e t := h _
def PA (X : Cx) (es : List Expr) (t : TA) : Prop :=
  ∀ (pos : Pos) (pins : List (Addr × Obj)) (s : Shared) (σ : St) (H : Hp) (Q : List V → Hp → Prop), Inv X pins σ H s → t σ H Q → wpAny (model X.prog X.w) X.A (spliced (backTo pos (starEach es X.env))) (AP X pins σ Q) X.xe s
def PS (X : Cx) (st : Stmt) (t : TS) : Prop :=
  ∀ (pins : List (Addr × Obj)) (s : Shared) (σ : St) (H : Hp) (D : Ends), Inv X pins σ H s → t D σ H → wpAny (model X.prog X.w) X.A (exec st X.env) (SP X pins D) X.xe s
def PSs (X : Cx) (st : List Stmt) (t : TS) : Prop :=
  ∀ (pins : List (Addr × Obj)) (s : Shared) (σ : St) (H : Hp) (D : Ends), Inv X pins σ H s → t D σ H → wpAny (model X.prog X.w) X.A (execs st X.env) (SP X pins D) X.xe s
theorem thn {α : Type} {t : Sem α} {Q Q' : α → Shared → Prop} {M : Model} {A : Around} {E : Value → Shared → Prop} {s : Shared} (h : wpAny M A t Q E s) (hQ : ∀ a s, Q a s → Q' a s) : wpAny M A t Q' E s := wpAny_mono h hQ fun _ _ x => x
end L2
namespace L2
open PySem PySem.Spec PyProof.Rows
section
variable {X : Cx}
def tVar (i : Nat) : TE := fun σ H Q => ∃ v, σ[i]? = some (some v) ∧ Q v H
def tC (v : V) : TE := fun _ H Q => Q v H
theorem pe_var {i : Nat} {x : Str} {pos : Pos} (hN : X.N[i]? = some x) (hv : Vis X.env.scope x) (hd : (x == ("__debug__" : Str)) = false := by decide) (hcd : (x == ("__classdict__" : Str)) = false := by decide) : PE X (.Name x pos) (tVar i) := by
  intro pins s σ H Q I h
  obtain ⟨v, e, h⟩ := h
  obtain ⟨m, hn, hl⟩ := I.loc
  obtain ⟨u, r, l⟩ := hl i x v hN e hv
  have fin : EP X pins σ Q u s := ⟨v, H, I, r, h⟩
  rcases l with ⟨hk, hm⟩ | ⟨hk, c, hc, hcell⟩
  · exact wpAny_Name (wpAny_loadName_local I.ok.kind hk hn hm fin) hd
  · rcases hk with hk | hk
    · exact wpAny_Name (wpAny_loadName_cell I.ok.kind hk hc hcell fin) hd
    · exact wpAny_Name (wpAny_loadName_free I.ok.kind hk hc hcell fin hcd) hd
theorem pe_int {i j pos} : PE X (.Constant (.int i) j pos) (tC (.int i)) := fun _ _ _ H _ I h => wpAny_Constant_int ⟨.int i, H, I.tok _, ⟨_, rfl⟩, h⟩
theorem pe_bl {b j pos} : PE X (.Constant (.bool b) j pos) (tC (.bl b)) := fun _ _ _ H _ I h => Constant_bool ⟨.bl b, H, I, rfl, h⟩
theorem pe_non {j pos} : PE X (.Constant .none j pos) (tC .non) := fun _ _ _ H _ I h => Constant_none ⟨.non, H, I, rfl, h⟩
def Gl (X : Cx) (x : Str) : Prop := X.env.kindOf x = some .globalImplicit
theorem ld_glob {E : Value → Shared → Prop} {pins : List (Addr × Obj)} {s : Shared} {σ : St} {H : Hp} {x : Str} {u : Value} {pos : Pos} {Q : Value → Shared → Prop} (I : Inv X pins σ H s) (hg : Gl X x) (hm : X.mg x = some u) (h : Q u s)
    (hd : (x == ("__debug__" : Str)) = false := by decide) : wpAny (model X.prog X.w) X.A (eval (.Name x pos) X.env) Q E s :=
  Calls.Name_function_global I.ok.kind hg (Calls.loadGlobal_global (by rw [I.ok.glob]; exact I.mod.glob.keeps I.bk) hm h) hd
theorem ld_blt {E : Value → Shared → Prop} {pins : List (Addr × Obj)} {s : Shared} {σ : St} {H : Hp} {x : Str} {u : Value} {pos : Pos} {Q : Value → Shared → Prop} (I : Inv X pins σ H s) (hg : Gl X x) (hm : X.mg x = none) (hv : bootBuiltins x = some u) (h : Q u s)
    (hn : x ≠ "__name__" := by decide) (hd : (x == ("__debug__" : Str)) = false := by decide) : wpAny (model X.prog X.w) X.A (eval (.Name x pos) X.env) Q E s := by
  obtain ⟨mb, h1, h2⟩ := I.mod.blt
  exact Calls.Name_function_global I.ok.kind hg (Calls.loadGlobal_builtin (by rw [I.ok.glob]; exact I.mod.glob.keeps I.bk) hm (by rw [I.ok.blt]; exact h1.keeps I.bk) ((h2 x hn).trans hv) h) hd
theorem pe_glob {x : Str} {v : V} {u : Value} {pos : Pos} (hg : Gl X x) (hm : X.mg x = some u) (r : RelV v u) (hd : (x == ("__debug__" : Str)) = false := by decide) : PE X (.Name x pos) (tC v) :=
  fun _ _ _ H _ I h => ld_glob I hg hm ⟨v, H, I, r, h⟩ hd
variable {a b : Expr} {ta tb : TE} {pos : Pos}
def PC (X : Cx) (op : CmpOp) (a b : Expr) (t : TE) : Prop :=
  ∀ (pins : List (Addr × Obj)) (s : Shared) (σ : St) (H : Hp) (Q : VK), Inv X pins σ H s → t σ H Q →
    wpAny (model X.prog X.w) X.A (eval a X.env) (fun v s₁ => wpAny (model X.prog X.w) X.A (eval b X.env) (fun u s₂ => wpAny (model X.prog X.w) X.A (compareOp op v u) (EP X pins σ Q) X.xe s₂) X.xe s₁) X.xe s
theorem nobehind (b : Expr) {op : CmpOp} (h : op ≠ .In) (h2 : op ≠ .NotIn) : behindInMarks op b = false := by
  have e1 : (op == CmpOp.In) = false := by cases op <;> first | rfl | exact absurd rfl h
  have e2 : (op == CmpOp.NotIn) = false := by cases op <;> first | rfl | exact absurd rfl h2
  cases b <;> simp [behindInMarks, e1, e2]
def tIsN (ta : TE) : TE := fun σ H Q => ta σ H fun x H1 => Q (.bl (decide (x = .non))) H1
def tNotN (ta : TE) : TE := fun σ H Q => ta σ H fun x H1 => Q (.bl (!decide (x = .non))) H1
theorem RelV.none_iff {x : V} {v : Value} (r : RelV x v) : (v == Value.none) = decide (x = .non) := by
  cases x with
  | non => cases r; rfl
  | bl _ => cases r; rfl
  | int _ => obtain ⟨t, rfl⟩ := r; rfl
  | str _ => obtain ⟨t, rfl⟩ := r; rfl
  | byt _ => obtain ⟨t, rfl⟩ := r; rfl
  | flt _ => obtain ⟨t, rfl⟩ := r; rfl
  | ref _ => cases r; rfl
  | ty _ => cases r; rfl
theorem pc_isN {j pos'} (ha : PE X a ta) : PC X .Is a (.Constant .none j pos') (tIsN ta) := by
  intro pins s σ H Q I h
  refine thn (ha pins s σ H _ I h) fun v s1 ⟨x, H1, I1, r1, q1⟩ => ?_
  exact Constant_none (is_none_gen ⟨.bl _, H1, I1, by rw [r1.none_iff]; rfl, q1⟩)
theorem pc_notN {j pos'} (ha : PE X a ta) : PC X .IsNot a (.Constant .none j pos') (tNotN ta) := by
  intro pins s σ H Q I h
  refine thn (ha pins s σ H _ I h) fun v s1 ⟨x, H1, I1, r1, q1⟩ => ?_
  exact Constant_none (isnot_none_gen ⟨.bl _, H1, I1, by rw [r1.none_iff]; rfl, q1⟩)
def tB (t : TE) : TT := fun σ H Q => t σ H fun x H1 => ∃ c, x = .bl c ∧ Q c H1
theorem pe_cmp {op : CmpOp} {t : TE} (h : PC X op a b t) (h1 : behindInMarks op b = false := by first | exact nobehind _ (by decide) (by decide) | rfl) : PE X (.Compare a [op] [b] pos) t := fun pins s σ H Q I hw => wpAny_Compare1 (h pins s σ H Q I hw) h1
theorem pt_cmp {op : CmpOp} {t : TE} (h : PC X op a b t) (h1 : behindInMarks op b = false := by first | exact nobehind _ (by decide) (by decide) | rfl) : PT X (.Compare a [op] [b] pos) (tB t) := by
  intro pins s σ H Q I hw
  refine wpAny_isTrue_Compare1 (thn (h pins s σ H _ I hw) fun v s1 h1 => thn h1 fun u s2 h2 => thn h2 fun c s3 ⟨x, H1, I1, r1, q1⟩ => ?_) h1
  obtain ⟨d, rfl, q⟩ := q1
  cases r1
  exact wpAny_truthy_bool ⟨H1, I1, q⟩
theorem pt_val {e : Expr} {t : TE} (h : PE X e t) (he : ∀ whole, isTrue e X.env whole = (do let v ← whole; standAt e.pos; holding [v] (truthy v)) := by intro _; rfl) : PT X e (tB t) := by
  intro pins s σ H Q I hw
  refine isTrue_plain (thn (h pins s σ H _ I hw) fun v s1 ⟨x, H1, I1, r1, q1⟩ => ?_) (he _)
  obtain ⟨d, rfl, q⟩ := q1
  cases r1
  exact wpAny_truthy_bool ⟨H1, I1, q⟩
variable {tA tB' : TT} {rest : List Expr}
def tOr (t u : TT) : TT := fun σ H Q => t σ H fun c H1 => if c = true then Q true H1 else u σ H1 Q
def tNot (t : TT) : TT := fun σ H Q => t σ H fun c H1 => Q (!c) H1
theorem pw_or1 (ha : PT X a tA) : PW X (.BoolOp .Or [a] pos) tA := by
  intro wh pins s σ H Q I h
  refine isTrue_or (thn (ha pins s σ H Q I h) fun c s1 e => ?_)
  cases c with
  | false => exact isTrue_or_nil e
  | true => exact e
theorem pw_or (ha : PT X a tA) (hb : PW X (.BoolOp .Or (b :: rest) pos) tB') : PW X (.BoolOp .Or (a :: b :: rest) pos) (tOr tA tB') := by
  intro wh pins s σ H Q I h
  refine isTrue_or (thn (ha pins s σ H _ I h) fun c s1 ⟨H1, I1, q1⟩ => ?_)
  cases c with
  | true => exact ⟨H1, I1, q1⟩
  | false => exact hb wh pins s1 σ H1 Q I1 q1
theorem pt_not (ha : PT X a tA) : PT X (.UnaryOp .Not a pos) (tNot tA) := by
  intro pins s σ H Q I h
  exact isTrue_not (ha pins s σ H (fun c H1 => Q (!c) H1) I h)
def tAndV (ta tb : TE) : TE := fun σ H Q => ta σ H fun x H1 => ∃ c, x = .bl c ∧ if c = true then tb σ H1 Q else Q (.bl false) H1
def tNotV (ta : TE) : TE := fun σ H Q => ta σ H fun x H1 => ∃ c, x = .bl c ∧ Q (.bl (!c)) H1
theorem pe_one {op} {t : TE} (h : PE X a t) : PE X (.BoolOp op [a] pos) t := fun pins s σ H Q I hw => BoolOp_one (h pins s σ H Q I hw)
theorem pe_and (ha : PE X a ta) (hb : PE X (.BoolOp .And (b :: rest) pos) tb) : PE X (.BoolOp .And (a :: b :: rest) pos) (tAndV ta tb) := by
  intro pins s σ H Q I h
  refine BoolOp_and (thn (ha pins s σ H _ I h) fun v s1 ⟨x, H1, I1, r1, q1⟩ => ?_)
  obtain ⟨c, rfl, q1⟩ := q1
  cases r1
  refine wpAny_truthy_bool ?_
  cases c with
  | true => exact hb pins s1 σ H1 Q I1 q1
  | false => exact ⟨.bl false, H1, I1, rfl, q1⟩
theorem pe_not (ha : PE X a ta) : PE X (.UnaryOp .Not a pos) (tNotV ta) := by
  intro pins s σ H Q I h
  refine UnaryOp_ (thn (ha pins s σ H _ I h) fun v s1 ⟨x, H1, I1, r1, q1⟩ => ?_)
  obtain ⟨c, rfl, q1⟩ := q1
  cases r1
  exact not_of (wpAny_truthy_bool ⟨.bl (!c), H1, I1, rfl, q1⟩)
def tIf (t : TT) (ta tb : TE) : TE := fun σ H Q => t σ H fun c H1 => if c = true then ta σ H1 Q else tb σ H1 Q
theorem pe_ifExp {c : Expr} (hc : PT X c tA) (ha : PE X a ta) (hb : PE X b tb) : PE X (.IfExp c a b pos) (tIf tA ta tb) := by
  intro pins s σ H Q I h
  refine wpAny_IfExp (thn (hc pins s σ H _ I h) fun d s1 ⟨H1, I1, q1⟩ => ?_)
  cases d with
  | true => exact ha pins s1 σ H1 Q I1 q1
  | false => exact hb pins s1 σ H1 Q I1 q1
end
end L2
namespace L2
open PySem PySem.Spec PyProof.Rows
def SqL (K : PySem.W.Frag) (H : Hp) (a : Addr) (xs : List V) : Prop :=
  Rd H a (.lst xs) ∨
    ∃ (o : Obj) (its : Array Value) (n : Nat), K.lookup a = some o ∧ o.cls = .type "list" ∧ o.dict = none ∧ o.data = .seq its n ∧ its.size ≤ sizeLine ∧ Vals xs its.toList
def SqT (K : PySem.W.Frag) (H : Hp) (a : Addr) (xs : List V) : Prop :=
  Rd H a (.tup xs) ∨
    ∃ (o : Obj) (its : Array Value) (n : Nat), K.lookup a = some o ∧ o.cls = .type "tuple" ∧ o.data = .seq its n ∧ its.size ≤ sizeLine ∧ Vals xs its.toList
def absV : Value → Option V
  | .none => some .non
  | .bool b => some (.bl b)
  | .int i _ => some (.int i)
  | .str x _ => some (.str x)
  | .bytes b _ => some (.byt b)
  | .float b _ => some (.flt b)
  | .ref a => some (.ref a)
  | .type n => some (.ty n)
  | _ => none
theorem RelV.abs {x : V} {u : Value} (r : RelV x u) : absV u = some x := by
  cases x with
  | non => cases r; rfl
  | bl _ => cases r; rfl
  | int _ => obtain ⟨t, rfl⟩ := r; rfl
  | str _ => obtain ⟨t, rfl⟩ := r; rfl
  | byt _ => obtain ⟨t, rfl⟩ := r; rfl
  | flt _ => obtain ⟨t, rfl⟩ := r; rfl
  | ref _ => cases r; rfl
  | ty _ => cases r; rfl
theorem RelV.inj {x y : V} {u : Value} (r : RelV x u) (q : RelV y u) : x = y := Option.some.inj (r.abs.symm.trans q.abs)
theorem Vals.inj : ∀ {xs ys : List V} {us : List Value}, Vals xs us → Vals ys us → xs = ys
  | _, _, _, .nil, .nil => rfl
  | _, _, _, .cons r t, .cons r' t' => by rw [r.inj r', Vals.inj t t']
section
variable {X : Cx} {pins : List (Addr × Obj)} {σ : St} {H : Hp} {s : Shared} {a : Addr} {xs ys : List V}
theorem SqL.of {K : PySem.W.Frag} (h : H a = some (.lst xs)) : SqL K H a xs := .inl (.inl h)
theorem SqT.of {K : PySem.W.Frag} (h : H a = some (.tup xs)) : SqT K H a xs := .inl (.inl h)
theorem Inv.list (I : Inv X pins σ H s) (h : SqL X.K H a xs) : ∃ its : List Value, Vals xs its ∧ PlainL s.heap a its.toArray ∧ xs.length ≤ sizeLine := by
  rcases h with h | ⟨o, its, n, hk, hc, hd, hs, hz, r⟩
  · obtain ⟨z, its, n, r, e⟩ := h.ok I.hok
    exact ⟨its, r, ⟨_, n, e, rfl, rfl, rfl⟩, z⟩
  · refine ⟨its.toList, r, ⟨o, n, I.kIn a o hk, hc, hd, by simpa using hs⟩, ?_⟩
    have e := r.length
    simp only [Array.length_toList] at e
    omega
theorem Inv.tuple (I : Inv X pins σ H s) (h : SqT X.K H a xs) : ∃ its : List Value, Vals xs its ∧ IsTup s.heap a its.toArray ∧ xs.length ≤ sizeLine := by
  rcases h with h | ⟨o, its, n, hk, hc, hs, hz, r⟩
  · obtain ⟨z, its, r, p⟩ := h.ok I.hok
    exact ⟨its, r, p, z⟩
  · refine ⟨its.toList, r, ⟨o, I.kIn a o hk, hc, n, by simpa using hs⟩, ?_⟩
    have e := r.length
    simp only [Array.length_toList] at e
    omega
theorem Inv.list_inj (I : Inv X pins σ H s) (h : SqL X.K H a xs) (h' : SqL X.K H a ys) : xs = ys := by
  obtain ⟨its, r, ⟨o, n, e, _, _, d⟩, _⟩ := I.list h
  obtain ⟨its', r', ⟨o', n', e', _, _, d'⟩, _⟩ := I.list h'
  rw [e] at e'; cases e'
  rw [d] at d'
  injection d' with d1 _
  have : its = its' := by simpa using congrArg Array.toList d1
  subst this
  exact r.inj r'
theorem Inv.tuple_inj (I : Inv X pins σ H s) (h : SqT X.K H a xs) (h' : SqT X.K H a ys) : xs = ys := by
  obtain ⟨its, r, ⟨o, e, _, n, d⟩, _⟩ := I.tuple h
  obtain ⟨its', r', ⟨o', e', _, n', d'⟩, _⟩ := I.tuple h'
  rw [e] at e'; cases e'
  rw [d] at d'
  injection d' with d1 _
  have : its = its' := by simpa using congrArg Array.toList d1
  subst this
  exact r.inj r'
end
abbrev Cx.wish (X : Cx) (E : Value → Shared → Prop) : Cx := { X with xe := E }
abbrev Cx.nox (X : Cx) : Cx := X.wish fun _ _ => False
theorem Cx.Ok.wish {X : Cx} (ok : X.Ok) (E : Value → Shared → Prop) : (X.wish E).Ok :=
  ⟨ok.mod, ok.kind, ok.glob, ok.blt, ok.above, ok.inj, ok.has, ok.cab, ok.hd, ok.frames, ok.stk, ok.exf, ok.bs, ok.bsz, ok.noex, ok.exfs, ok.funs, ok.frf⟩
theorem Cx.Ok.unwish {X : Cx} {E : Value → Shared → Prop} (ok : (X.wish E).Ok) : X.Ok :=
  ⟨ok.mod, ok.kind, ok.glob, ok.blt, ok.above, ok.inj, ok.has, ok.cab, ok.hd, ok.frames, ok.stk, ok.exf, ok.bs, ok.bsz, ok.noex, ok.exfs, ok.funs, ok.frf⟩
section
variable {X : Cx} {pins : List (Addr × Obj)} {σ : St} {H : Hp} {s : Shared} {E : Value → Shared → Prop}
theorem Inv.wish (I : Inv X pins σ H s) (E : Value → Shared → Prop) : Inv (X.wish E) pins σ H s := ⟨I.ok.wish E, I.os, I.bare, I.base, I.loc, I.cell, I.free, I.freeC, I.pin, I.hok, I.len⟩
theorem Inv.unwish (I : Inv (X.wish E) pins σ H s) : Inv X pins σ H s := ⟨I.ok.unwish, I.os, I.bare, I.base, I.loc, I.cell, I.free, I.freeC, I.pin, I.hok, I.len⟩
theorem SP.unwish {D : Ends} {f : Flow} {s' : Shared} (h : SP (X.wish E) pins D f s') : SP X pins D f s' := by
  cases f with
  | next => obtain ⟨σ', H', I, q⟩ := h; exact ⟨σ', H', I.unwish, q⟩
  | brk => obtain ⟨σ', H', I, q⟩ := h; exact ⟨σ', H', I.unwish, q⟩
  | cont => obtain ⟨σ', H', I, q⟩ := h; exact ⟨σ', H', I.unwish, q⟩
  | ret u => obtain ⟨v, σ', H', I, r, q⟩ := h; exact ⟨v, σ', H', I.unwish, r, q⟩
theorem PSs.nox {st : List Stmt} {t : TS} (h : PSs X.nox st t) : PSs X st t := fun pins s σ H D I hw =>
  wpAny_mono (h pins s σ H D (I.wish _) hw) (fun _ _ q => q.unwish) fun _ _ z => False.elim z
end
section
variable {X : Cx} {st : Stmt} {rest : List Stmt} {t u : TS} {e : Expr} {te : TE} {pos : Pos}
def tNext : TS := fun D σ H => D.nx σ H
def tSeq (t u : TS) : TS := fun D σ H => t { D with nx := u D } σ H
theorem pss_nil : PSs X [] tNext := fun _ _ σ H _ I h => wpAny_execs_nil ⟨σ, H, I, h⟩
theorem pss_cons (h1 : PS X st t) (h2 : PSs X rest u) : PSs X (st :: rest) (tSeq t u) := by
  intro pins s σ H D I h
  refine wpAny_execs_cons (thn (h1 pins s σ H { D with nx := u D } I h) fun f s1 q => ?_)
  cases f with
  | next =>
    obtain ⟨σ', H', I', q⟩ := q
    exact h2 pins s1 σ' H' D I' q
  | ret v => exact q
  | brk => exact q
  | cont => exact q
theorem pss_one (h1 : PS X st t) : PSs X [st] t := by
  intro pins s σ H D I h
  refine wpAny_execs_cons (thn (h1 pins s σ H D I h) fun f s1 q => ?_)
  cases f with
  | next => exact wpAny_execs_nil q
  | ret v => exact q
  | brk => exact q
  | cont => exact q
theorem Inv.quiet {pins : List (Addr × Obj)} {σ : St} {H : Hp} {s : Shared} (I : Inv X pins σ H s) : interactive X.env = false := by simp [interactive, I.ok.kind]
def tDrop (te : TE) : TS := fun D σ H => te σ H fun _ H1 => D.nx σ H1
theorem ps_expr (he : PE X e te) (hs : swapsWith e none pos.line X.env = pure false := by rfl) : PS X (.Expr e pos) (tDrop te) := by
  intro pins s σ H D I h
  exact wpAny_Expr_any (thn (he pins s σ H _ I h) fun v s1 ⟨x, H1, I1, r1, q1⟩ => ⟨σ, H1, I1, q1⟩) I.quiet hs
def tRet (te : TE) : TS := fun D σ H => te σ H D.rt
theorem ps_ret (he : PE X e te) : PS X (.Return (some e) pos) (tRet te) := by
  intro pins s σ H D I h
  exact wpAny_Return_some (thn (he pins s σ H _ I h) fun v s1 ⟨x, H1, I1, r1, q1⟩ => ⟨x, σ, H1, I1, r1, q1⟩)
def tIfS (c : TT) (t u : TS) : TS := fun D σ H => c σ H fun b H1 => if b = true then t D σ H1 else u D σ H1
theorem ps_if {c : Expr} {a b : List Stmt} {tc : TT} (hc : PT X c tc) (ha : PSs X a t) (hb : PSs X b u) : PS X (.If c a b pos) (tIfS tc t u) := by
  intro pins s σ H D I h
  refine wpAny_If (thn (hc pins s σ H _ I h) fun d s1 ⟨H1, I1, q1⟩ => ?_)
  cases d with
  | true => exact ha pins s1 σ H1 D I1 q1
  | false => exact hb pins s1 σ H1 D I1 q1
def tNever : TS := fun _ _ _ => False
theorem pss_never {sts : List Stmt} : PSs X sts tNever := fun _ _ _ _ _ _ h => h.elim
end
abbrev TG := V → St → Hp → (St → Hp → Prop) → Prop
abbrev TGs := List V → St → Hp → (St → Hp → Prop) → Prop
def PG (X : Cx) (target : Expr) (t : TG) : Prop :=
  ∀ (pins : List (Addr × Obj)) (s : Shared) (σ : St) (H : Hp) (v : V) (u : Value) (Q : St → Hp → Prop), Inv X pins σ H s → RelV v u → t v σ H Q →
    wpAny (model X.prog X.w) X.A (assign target X.env u) (fun _ s' => ∃ σ' H', Inv X pins σ' H' s' ∧ Q σ' H') X.xe s
def PGs (X : Cx) (ts : List Expr) (t : TGs) : Prop :=
  ∀ (pins : List (Addr × Obj)) (s : Shared) (σ : St) (H : Hp) (vs : List V) (us : List Value) (Q : St → Hp → Prop), Inv X pins σ H s → Vals vs us → t vs σ H Q →
    wpAny (model X.prog X.w) X.A (assignInOrder ((assignEach ts X.env).map (·.2)) us) (fun _ s' => ∃ σ' H', Inv X pins σ' H' s' ∧ Q σ' H') X.xe s
abbrev TSet := V → V → V → Hp → (Hp → Prop) → Prop
def PSet (X : Cx) (t : TSet) : Prop :=
  ∀ (pins : List (Addr × Obj)) (s : Shared) (σ : St) (H : Hp) (o i v : V) (ov iv u : Value) (Q : Hp → Prop), Inv X pins σ H s → RelV o ov → RelV i iv → RelV v u → t o i v H Q →
    wpAny (model X.prog X.w) X.A (setItem ov iv u) (fun _ s' => ∃ H', Inv X pins σ H' s' ∧ Q H') X.xe s
abbrev TIp := V → V → Hp → VK → Prop
def PIp (X : Cx) (op : Operator) (t : TIp) : Prop :=
  ∀ (pins : List (Addr × Obj)) (s : Shared) (σ : St) (H : Hp) (x y : V) (v u : Value) (Q : VK), Inv X pins σ H s → RelV x v → RelV y u → t x y H Q →
    wpAny (model X.prog X.w) X.A (inplaceOp op v u) (EP X pins σ Q) X.xe s
section
variable {X : Cx} {pos : Pos}
def gName (i : Nat) : TG := fun v σ H Q => Q (σ.set i (some v)) H
theorem pg_name {i : Nat} {x : Str} (hN : X.N.Nodup) (hi : X.N[i]? = some x) (hx : Loc X.env.scope x) (hf : X.fn x = true ∨ X.env.scope.names.lookup x = some .local := by first | exact .inl rfl | exact .inr rfl | assumption) : PG X (.Name x pos) (gName i) := by
  intro pins s σ H v u Q I r h
  exact wpAny_assign_Name (store_ok I hN hi hx r (fun s' I' => ⟨_, H, I', h⟩) hf)
def gNil : TGs := fun vs σ H Q => vs = [] ∧ Q σ H
def gCons (t : TG) (u : TGs) : TGs := fun vs σ H Q => ∃ v r, vs = v :: r ∧ t v σ H fun σ' H' => u r σ' H' Q
theorem pgs_nil : PGs X [] gNil := by
  intro pins s σ H vs us Q I r h
  obtain ⟨e, h⟩ := h
  subst e
  cases r
  exact assignInOrder_nil ⟨σ, H, I, h⟩
theorem pgs_cons {e : Expr} {es : List Expr} {t : TG} {u : TGs} (h1 : PG X e t) (h2 : PGs X es u)
    (hs : (assignEach (e :: es) X.env).map (·.2) = assign e X.env :: (assignEach es X.env).map (·.2) := by rfl) : PGs X (e :: es) (gCons t u) := by
  intro pins s σ H vs us Q I r h
  obtain ⟨v, vr, e1, h⟩ := h
  subst e1
  cases r with
  | cons r rr =>
    rw [hs]
    refine assignInOrder_cons (thn (h1 pins s σ H _ _ _ I r h) fun _ s1 ⟨σ1, H1, I1, q1⟩ => ?_)
    exact h2 pins s1 σ1 H1 _ _ Q I1 rr q1
def gTup (K : PySem.W.Frag) (n : Nat) (t : TGs) : TG := fun v σ H Q => ∃ a xs, v = .ref a ∧ SqT K H a xs ∧ xs.length = n ∧ t xs σ H Q
theorem pg_tup {es : List Expr} {k : Nat} {t : TGs} {n : Nat} (hc : X.calm = true) (h : PGs X es t)
    (hn : (assignEach es X.env).length = n := by rfl) (hst : (assignEach es X.env).findIdx? (·.1) = none := by rfl) : PG X (.Tuple es k pos) (gTup X.K n t) := by
  intro pins s σ H v u Q I r hw
  obtain ⟨a, xs, e1, hq, hl, hw⟩ := hw
  subst e1
  cases r
  obtain ⟨its, rv, ht, hz⟩ := I.tuple hq
  refine assign_Tuple_tuple (I.ok.hd hc) ht (by simp [hn, ← hl, rv.length]) hst fun h' hx => ?_
  have I1 : Inv X pins σ H { s with heap := h' } := I.kept (t' := s.toks) fun b o e => hx b o (Nat.ne_of_lt (Heap.lt_size e)) e
  exact h pins _ σ H xs _ Q I1 (by simpa using rv) hw
def gSub (to ti : TE) (t : TSet) : TG := fun v σ H Q => to σ H fun o H1 => ti σ H1 fun i H2 => t o i v H2 fun H3 => Q σ H3
theorem pg_sub {o i : Expr} {to ti : TE} {t : TSet} (ho : PE X o to) (hi : PE X i ti) (hs : PSet X t)
    (ha : ∀ v, assign (.Subscript o i pos) X.env v = (do
      let ov ← holding [v] (eval o X.env)
      let iv ← holding [v, ov] (eval i X.env)
      standAt pos
      holding [v, ov, iv] (setItem ov iv v)
      release [v, ov, iv] []) := by intro _; rfl) : PG X (.Subscript o i pos) (gSub to ti t) := by
  intro pins s σ H v u Q I r h
  rw [ha]
  refine wpAny_bind (wpAny_holding (thn (ho pins s σ H _ I h) fun ov s1 ⟨x, H1, I1, r1, q1⟩ => ?_))
  refine wpAny_bind (wpAny_holding (thn (hi pins s1 σ H1 _ I1 q1) fun iv s2 ⟨y, H2, I2, r2, q2⟩ => ?_))
  refine wpAny_bind (wpAny_standAt (wpAny_bind (wpAny_holding (thn (hs pins s2 σ H2 x y v ov iv u _ I2 r1 r2 r q2) fun _ s3 ⟨H3, I3, q3⟩ => ?_))))
  exact wpAny_release ⟨σ, H3, I3, q3⟩
def tAsg (te : TE) (g : TG) : TS := fun D σ H => te σ H fun x H1 => g x σ H1 D.nx
theorem ps_asg {tg e : Expr} {te : TE} {g : TG} (he : PE X e te) (hg : PG X tg g) (hs : swapsWithSole [tg] e pos.line X.env = pure false := by rfl) (hw : swappedStores [tg] e X.env = pure none := by rfl)
    (h1 : (assignEach [tg] X.env).map (·.2) = [assign tg X.env] := by rfl) : PS X (.Assign [tg] e pos) (tAsg te g) := by
  intro pins s σ H D I h
  refine wpAny_Assign_stores (thn (he pins s σ H _ I h) fun v s1 ⟨x, H1, I1, r1, q1⟩ => ?_) hs hw
  rw [h1]
  exact thn (hg pins s1 σ H1 x v _ I1 r1 q1) fun _ s2 q => q
theorem ps_set {i : Nat} {x : Str} {e : Expr} {te : TE} {pos' : Pos} (hN : X.N.Nodup) (hi : X.N[i]? = some x) (hx : Loc X.env.scope x) (he : PE X e te) (hs : swapsWith e (some (.Name x pos')) pos.line X.env = pure false := by rfl) (hf : X.fn x = true ∨ X.env.scope.names.lookup x = some .local := by first | exact .inl rfl | exact .inr rfl | assumption) :
    PS X (.Assign [.Name x pos'] e pos) (tAsg te (gName i)) := by
  intro pins s σ H D I h
  refine wpAny_Assign_Name (thn (he pins s σ H _ I h) fun v s1 ⟨y, H1, I1, r1, q1⟩ => ?_) hs
  exact store_ok I1 hN hi hx r1 (fun s2 I2 => ⟨_, H1, I2, q1⟩) hf
def tAug (i : Nat) (te : TE) (ti : TIp) : TS := fun D σ H => ∃ x, σ[i]? = some (some x) ∧ te σ H fun y H1 => ti x y H1 fun z H2 => D.nx (σ.set i (some z)) H2
theorem ps_aug {i : Nat} {x : Str} {e : Expr} {te : TE} {op : Operator} {ti : TIp} {pos' : Pos} (hN : X.N.Nodup) (hi : X.N[i]? = some x) (hx : Loc X.env.scope x) (he : PE X e te) (ho : PIp X op ti) (hf : X.fn x = true ∨ X.env.scope.names.lookup x = some .local := by first | exact .inl rfl | exact .inr rfl | assumption) :
    PS X (.AugAssign (.Name x pos') op e pos) (tAug i te ti) := by
  intro pins s σ H D I h
  obtain ⟨v, e1, h⟩ := h
  obtain ⟨m, hn, hl⟩ := I.loc
  have vis : Vis X.env.scope x := by rcases hx with k | k; exact .inl k; exact .inr (.inl k)
  obtain ⟨u, r, l⟩ := hl i x v hi e1 vis
  refine wpAny_AugAssign_Name ?_
  have go : wpAny (model X.prog X.w) X.A (eval e X.env) (fun w s₂ => wpAny (model X.prog X.w) X.A (inplaceOp op u w) (fun r s₃ => wpAny (model X.prog X.w) X.A (storeName X.env x r) (fun _ => SP X pins D .next) X.xe s₃) X.xe s₂) X.xe s := by
    refine thn (he pins s σ H _ I h) fun w s1 ⟨y, H1, I1, r1, q1⟩ => ?_
    refine thn (ho pins s1 σ H1 v y u w _ I1 r r1 q1) fun z s2 ⟨zv, H2, I2, r2, q2⟩ => ?_
    exact store_ok I2 hN hi hx r2 (fun s3 I3 => ⟨_, H2, I3, q2⟩) hf
  rcases l with ⟨hk, hm⟩ | ⟨hk, c, hc, hcell⟩
  · exact wpAny_loadName_local I.ok.kind hk hn hm go
  · rcases hk with hk | hk
    · exact wpAny_loadName_cell I.ok.kind hk hc hcell go
    · rcases hx with k | k
      · have : X.env.scope.names.lookup x = some .free := hk
        rw [k] at this; cases this
      · have : X.env.scope.names.lookup x = some .free := hk
        rw [k] at this; cases this
def tAugS (to ti te : TE) (tget : V → V → Hp → VK → Prop) (tip : TIp) (tset : TSet) : TS := fun D σ H => to σ H fun o H1 => ti σ H1 fun i H2 => tget o i H2 fun x H3 => te σ H3 fun y H4 => tip x y H4 fun z H5 => tset o i z H5 fun H6 => D.nx σ H6
def PGet (X : Cx) (t : V → V → Hp → VK → Prop) : Prop :=
  ∀ (pins : List (Addr × Obj)) (s : Shared) (σ : St) (H : Hp) (o i : V) (ov iv : Value) (Q : VK), Inv X pins σ H s → RelV o ov → RelV i iv → t o i H Q →
    wpAny (model X.prog X.w) X.A (getItem ov iv) (EP X pins σ Q) X.xe s
theorem ps_augS {o i e : Expr} {to ti te : TE} {tget : V → V → Hp → VK → Prop} {tip : TIp} {tset : TSet} {op : Operator} {tpos : Pos} (ho : PE X o to) (hi : PE X i ti) (hg : PGet X tget) (he : PE X e te) (hp : PIp X op tip) (hs : PSet X tset)
    (ha : ∀ ov iv new, augStore i ov iv new = (do holding [new, ov, iv] (setItem ov iv new); release [new, ov, iv] []; pure .next) := by intros; rfl) : PS X (.AugAssign (.Subscript o i tpos) op e pos) (tAugS to ti te tget tip tset) := by
  intro pins s σ H D I h
  refine wpAny_AugAssign_SubscriptAny (thn (ho pins s σ H _ I h) fun ov s1 ⟨x1, H1, I1, r1, q1⟩ => ?_) ha
  refine thn (hi pins s1 σ H1 _ I1 q1) fun iv s2 ⟨x2, H2, I2, r2, q2⟩ => ?_
  refine thn (hg pins s2 σ H2 x1 x2 ov iv _ I2 r1 r2 q2) fun old s3 ⟨x3, H3, I3, r3, q3⟩ => ?_
  refine thn (he pins s3 σ H3 _ I3 q3) fun v s4 ⟨x4, H4, I4, r4, q4⟩ => ?_
  refine thn (hp pins s4 σ H4 x3 x4 old v _ I4 r3 r4 q4) fun new s5 ⟨x5, H5, I5, r5, q5⟩ => ?_
  exact thn (hs pins s5 σ H5 x1 x2 x5 ov iv new _ I5 r1 r2 r5 q5) fun _ s6 ⟨H6, I6, q6⟩ => ⟨σ, H6, I6, q6⟩
def ipI (f : Int → Int → Int) : TIp := fun x y H Q => ∃ i j, x = .int i ∧ y = .int j ∧ Q (.int (f i j)) H
theorem ip_add : PIp X .Add (ipI fun i j => i + j) := by
  intro pins s σ H x y v u Q I r1 r2 h
  obtain ⟨i, j, e1, e2, q⟩ := h
  subst e1; subst e2
  obtain ⟨t, rfl⟩ := r1
  obtain ⟨t', rfl⟩ := r2
  exact iadd_int ⟨.int _, H, I.tok _, ⟨_, rfl⟩, q⟩
theorem ip_sub : PIp X .Sub (ipI fun i j => i - j) := by
  intro pins s σ H x y v u Q I r1 r2 h
  obtain ⟨i, j, e1, e2, q⟩ := h
  subst e1; subst e2
  obtain ⟨t, rfl⟩ := r1
  obtain ⟨t', rfl⟩ := r2
  exact isub_int ⟨.int _, H, I.tok _, ⟨_, rfl⟩, q⟩
end
section
variable {X : Cx} {pos : Pos}
def tWhile (c : TT) (tb : TS) : TS := fun D σ H => ∃ W : Nat → St → Hp → Prop, (∃ m, W m σ H) ∧ ∀ m σ H, W m σ H →
  c σ H fun b H1 => if b = true then ∃ N : St → Hp → Prop, (∀ σ' H', N σ' H' → ∃ m', m' < m ∧ W m' σ' H') ∧ tb { D with nx := N, ct := N, bk := D.nx } σ H1 else D.nx σ H1
theorem ps_while {c : Expr} {body : List Stmt} {tc : TT} {tb : TS} (hp : PassesOwn (model X.prog X.w) X.A X.env X.xe) (hc : PT X c tc) (hb : PSs X body tb) : PS X (.While c body [] pos) (tWhile tc tb) := by
  intro pins s σ H D I h
  obtain ⟨W, ⟨m0, w0⟩, turn⟩ := h
  refine wpAny_While (codeAny_whileLoop (fun n s' => ∃ σ' H', Inv X pins σ' H' s' ∧ W n σ' H') ?_ m0 ⟨σ, H, I, w0⟩)
  rintro n s1 ⟨σ1, H1, I1, w1⟩
  refine wpAny_passesOwn hp (thn (hc pins s1 σ1 H1 _ I1 (turn n σ1 H1 w1)) fun b s2 ⟨H2, I2, q2⟩ => ?_)
  cases b with
  | true =>
    obtain ⟨N, hN, q2⟩ := q2
    rw [if_pos rfl]
    refine wpAny_passesOwn hp (thn (hb pins s2 σ1 H2 _ I2 q2) fun f s3 q3 => ?_)
    cases f with
    | next =>
      obtain ⟨σ3, H3, I3, n3⟩ := q3
      obtain ⟨m', hm, w3⟩ := hN σ3 H3 n3
      exact ⟨m', hm, σ3, H3, I3, w3⟩
    | cont =>
      obtain ⟨σ3, H3, I3, n3⟩ := q3
      obtain ⟨m', hm, w3⟩ := hN σ3 H3 n3
      exact ⟨m', hm, σ3, H3, I3, w3⟩
    | brk => exact q3
    | ret v => exact q3
  | false =>
    rw [if_neg Bool.false_ne_true]
    exact wpAny_execs_nil ⟨σ1, H2, I2, q2⟩
end
structure It where
  go : Nat → Hp → Prop
  yld : Nat → Hp → V → Hp → Prop
  stop : Nat → Hp → Prop
def FpOk (X : Cx) (pins : List (Addr × Obj)) (H : Hp) (b : Addr) : Prop :=
  H b = none ∧ b ≠ X.env.locals ∧ b ∉ X.fs ∧ (b ∈ X.ex ∨ X.s_0.heap.objs.size ≤ b) ∧ (∀ x c, X.env.cells.lookup x = some c → c ≠ b) ∧ ∀ p ∈ X.pn ++ pins, p.1 ≠ b
theorem Inv.fpOk {X : Cx} {pins : List (Addr × Obj)} {σ : St} {H H' : Hp} {s : Shared} {b : Addr} (I : Inv X pins σ H s) (hb : s.heap.objs.size ≤ b) (hn : H' b = none) : FpOk X pins H' b := by
  refine ⟨hn, Nat.ne_of_gt (Nat.lt_of_lt_of_le I.lt hb), I.nofs hb, .inr (Nat.le_trans I.sz hb), fun x c e z => ?_, fun p hp z => ?_⟩
  · obtain ⟨v, q⟩ := I.cell x c e
    exact absurd (Nat.lt_of_lt_of_le q.lt (by rw [z]; exact hb)) (Nat.lt_irrefl _)
  · exact absurd (Nat.lt_of_lt_of_le (Heap.lt_size (I.pin p hp).1) (by rw [z]; exact hb)) (Nat.lt_irrefl _)
structure Turn (P : Program) (w : World) (K : PySem.W.Frag) (tg : Expr) (J : It) (fp : List Addr) (it : Addr) (tn : Nat → Heap → Prop) : Prop where
  mem : it ∈ fp
  obj : ∀ i h, tn i h → ∀ b ∈ fp, ∃ o, h.get? b = some o ∧ ∀ v, o.data ≠ .cell v
  keep : ∀ i h h', tn i h → (∀ b ∈ fp, ∀ o, h.get? b = some o → h'.get? b = some o) → tn i h'
  item : ∀ (X : Cx), X.prog = P → X.w = w → X.K = K → X.calm = true → ∀ (i : Nat) (pins : List (Addr × Obj)) (s : Shared) (σ : St) (H : Hp) (E : Value → Shared → Prop), Inv X pins σ H s → (∀ b ∈ fp, FpOk X pins H b) → tn i s.heap → J.go i H →
    wpAny (model P w) X.A (pyNext (.ref it)) (fun r s1 => ∃ u, r = some u ∧
      wpAny (model P w) X.A (letOwnedTupleGo tg (.ref it) u) (fun _ s2 => ∃ x H', Inv X pins σ H' s2 ∧ RelV x u ∧ J.yld i H x H' ∧ tn (i + 1) s2.heap ∧ ∀ b ∈ fp, H' b = none) E s1) E s
  done : ∀ (X : Cx), X.prog = P → X.w = w → X.K = K → X.calm = true → ∀ (i : Nat) (pins : List (Addr × Obj)) (s : Shared) (σ : St) (H : Hp) (E : Value → Shared → Prop), Inv X pins σ H s → (∀ b ∈ fp, FpOk X pins H b) → tn i s.heap → J.stop i H →
    wpAny (model P w) X.A (pyNext (.ref it)) (fun r s1 => r = none ∧ Inv X pins σ H s1) E s
  self : ∀ (A : Around) (i : Nat) (s : Shared) (Q : Value → Shared → Prop) (E : Value → Shared → Prop), tn i s.heap → Q (.ref it) s → wpAny (model P w) A (pyIter (.ref it)) Q E s
abbrev TI := St → Hp → (It → Hp → Prop) → Prop
def PIE (X : Cx) (pins : List (Addr × Obj)) (σ : St) (tg : Expr) (R : It → Hp → Prop) (itv : Value) (s2 : Shared) : Prop :=
  ∃ (it : Addr) (fp : List Addr) (tn : Nat → Heap → Prop) (J : It) (H' : Hp), itv = .ref it ∧ Inv X pins σ H' s2 ∧ Turn X.prog X.w X.K tg J fp it tn ∧ tn 0 s2.heap ∧ (∀ b ∈ fp, FpOk X pins H' b) ∧ R J H'
def PI (X : Cx) (tg iter : Expr) (wi : TI) : Prop :=
  ∀ (pins : List (Addr × Obj)) (s : Shared) (σ : St) (H : Hp) (R : It → Hp → Prop), Inv X pins σ H s → wi σ H R →
    wpAny (model X.prog X.w) X.A (eval iter X.env) (fun v s1 => wpAny (model X.prog X.w) X.A (pyIter v) (PIE X pins σ tg R) X.xe s1) X.xe s
theorem go_of {M : Model} {A : Around} {E : Value → Shared → Prop} {s : Shared} {tg : Expr} {it : Addr} {u : Value} {o : Obj} {n : String} {vs : Array Value} {Q : Unit → Shared → Prop} (ho : s.heap.get? it = some o) (hc : o.cls = .type n) (hd : o.data = .fields vs)
    (hn : ["enumerate", "zip", "dict_itemiterator", "dict_reverseitemiterator", "odict_iterator", "itertools.zip_longest", "itertools.pairwise"].contains n = false) (hQ : Q () s) : wpAny M A (letOwnedTupleGo tg (.ref it) u) Q E s := by
  unfold letOwnedTupleGo
  cases tg <;> first
    | exact wpAny_pure hQ
    | (cases u <;> first
        | exact wpAny_pure hQ
        | (refine wpAny_bind (wpAny_load ho ?_)
           rw [hc, hd]
           show wpAny M A (if (["enumerate", "zip", "dict_itemiterator", "dict_reverseitemiterator", "odict_iterator", "itertools.zip_longest", "itertools.pairwise"].contains n && vs[0]? == some (rawInt _)) = true then _ else _) Q E s
           rw [if_neg (by intro h; rw [hn, Bool.false_and] at h; cases h)]
           exact wpAny_pure hQ))
def Itl (K : PySem.W.Frag) (a : Addr) : It :=
  ⟨fun i H => ∃ xs x, SqL K H a xs ∧ xs[i]? = some x, fun i H x H' => H' = H ∧ ∀ xs, SqL K H a xs → xs[i]? = some x, fun i H => ∃ xs, SqL K H a xs ∧ xs.length ≤ i⟩
def Itt (K : PySem.W.Frag) (a : Addr) : It :=
  ⟨fun i H => ∃ xs x, SqT K H a xs ∧ xs[i]? = some x, fun i H x H' => H' = H ∧ ∀ xs, SqT K H a xs → xs[i]? = some x, fun i H => ∃ xs, SqT K H a xs ∧ xs.length ≤ i⟩
def Itr (lo : Int) (n : Nat) : It := ⟨fun i _ => i < n, fun i H x H' => H' = H ∧ x = .int (lo + i), fun i _ => n ≤ i⟩
theorem turn_list {P : Program} {w : World} {K : PySem.W.Frag} {tg : Expr} (a it : Addr) : Turn P w K tg (Itl K a) [it] it (fun i h => h.IsListIter it a i) where
  mem := by simp
  obj := fun i h st b hb => by
    have e : b = it := by simpa using hb
    subst e
    obtain ⟨o, e, c, d⟩ := st
    exact ⟨o, e, fun v z => by rw [d] at z; cases z⟩
  keep := fun i h h' st k => st.at fun o e => k it (by simp) o e
  item := by
    intro X hP hw hK hc i pins s σ H E I hf st hg
    subst hP hw hK
    obtain ⟨xs, x, hq, hx⟩ := hg
    obtain ⟨its, rv, p, hz⟩ := I.list hq
    obtain ⟨u, hu, ru⟩ := rv.get hx
    obtain ⟨f0, f1, f2, f3, f4, f5⟩ := hf it (by simp)
    refine wpAny_pyNext_list_item st p.isList (x := u) (by simpa using hu) fun h' st' sb => ?_
    have I1 : Inv X pins σ H { s with heap := h' } := I.turned (t' := s.toks) (fun b o hb e => (sb.2 b hb).trans e) f0 f1 f3 f4 f5
    obtain ⟨o, e, c, d⟩ := id st'
    exact ⟨u, rfl, go_of (s := { s with heap := h' }) e c d (by decide) ⟨x, H, I1, ru, ⟨rfl, fun ys hy => by rw [I.list_inj hy hq]; exact hx⟩, st', fun b hb => (hf b hb).1⟩⟩
  done := by
    intro X hP hw hK hc i pins s σ H E I hf st hg
    subst hP hw hK
    obtain ⟨xs, hq, hx⟩ := hg
    obtain ⟨its, rv, p, hz⟩ := I.list hq
    obtain ⟨f0, f1, f2, f3, f4, f5⟩ := hf it (by simp)
    have hl := rv.length
    exact wpAny_pyNext_list_end (I.ok.hd hc) st p.isList (by simp; omega) fun h' eb => ⟨rfl, I.turned (t' := s.toks) (fun b o hb e => eb b o hb e) f0 f1 f3 f4 f5⟩
  self := fun _ _ _ _ _ st h => wpAny_pyIter_listiter st h
theorem turn_tuple {P : Program} {w : World} {K : PySem.W.Frag} {tg : Expr} (a it : Addr) : Turn P w K tg (Itt K a) [it] it (fun i h => h.IsTupleIter it a i) where
  mem := by simp
  obj := fun i h st b hb => by
    have e : b = it := by simpa using hb
    subst e
    obtain ⟨o, e, c, d⟩ := st
    exact ⟨o, e, fun v z => by rw [d] at z; cases z⟩
  keep := fun i h h' st k => st.at fun o e => k it (by simp) o e
  item := by
    intro X hP hw hK hc i pins s σ H E I hf st hg
    subst hP hw hK
    obtain ⟨xs, x, hq, hx⟩ := hg
    obtain ⟨its, rv, p, hz⟩ := I.tuple hq
    obtain ⟨u, hu, ru⟩ := rv.get hx
    obtain ⟨f0, f1, f2, f3, f4, f5⟩ := hf it (by simp)
    refine wpAny_pyNext_tuple_item st (show s.heap.IsTuple a its.toArray from p) (x := u) (by simpa using hu) fun h' st' sb => ?_
    have I1 : Inv X pins σ H { s with heap := h' } := I.turned (t' := s.toks) (fun b o hb e => (sb.2 b hb).trans e) f0 f1 f3 f4 f5
    obtain ⟨o, e, c, d⟩ := id st'
    exact ⟨u, rfl, go_of (s := { s with heap := h' }) e c d (by decide) ⟨x, H, I1, ru, ⟨rfl, fun ys hy => by rw [I.tuple_inj hy hq]; exact hx⟩, st', fun b hb => (hf b hb).1⟩⟩
  done := by
    intro X hP hw hK hc i pins s σ H E I hf st hg
    subst hP hw hK
    obtain ⟨xs, hq, hx⟩ := hg
    obtain ⟨its, rv, p, hz⟩ := I.tuple hq
    obtain ⟨f0, f1, f2, f3, f4, f5⟩ := hf it (by simp)
    have hl := rv.length
    exact wpAny_pyNext_tuple_end (I.ok.hd hc) st (show s.heap.IsTuple a its.toArray from p) (by simp; omega) fun h' eb => ⟨rfl, I.turned (t' := s.toks) (fun b o hb e => eb b o hb e) f0 f1 f3 f4 f5⟩
  self := fun _ _ _ _ _ st h => wpAny_pyIter_tupleiter st h
theorem turn_range {P : Program} {w : World} {K : PySem.W.Frag} {tg : Expr} (it : Addr) (lo : Int) (n : Nat) : Turn P w K tg (Itr lo n) [it] it (fun i h => IsRangeIter h it (lo + (i : Nat) * 1) ((n : Int) - (i : Nat)) 1) where
  mem := by simp
  obj := fun i h st b hb => by
    have e : b = it := by simpa using hb
    subst e
    exact ⟨_, st, fun v z => by
      have z' : Data.fields _ = Data.cell v := z
      cases z'⟩
  keep := fun i h h' st k => k it (by simp) _ st
  item := by
    intro X hP hw hK hc i pins s σ H E I hf st hg
    subst hP hw hK
    obtain ⟨f0, f1, f2, f3, f4, f5⟩ := hf it (by simp)
    have W := Walks.range (prog := X.prog) (w := X.w) (I.ok.hd hc) it lo 1 n
    refine W.item i s _ _ hg st fun v h' tk hv st' kk => ?_
    obtain ⟨t, rfl⟩ := hv
    have I1 : Inv X pins σ H { s with heap := h', toks := tk } := I.turned (fun b o hb e => kk b o (by simpa using hb) e) f0 f1 f3 f4 f5
    refine ⟨_, rfl, go_of (s := { s with heap := h', toks := tk }) (n := "range_iterator") st' rfl rfl (by decide) ⟨.int (lo + i), H, I1, ⟨t, ?_⟩, ⟨rfl, rfl⟩, st', fun b hb => (hf b hb).1⟩⟩
    rw [Int.mul_one]
  done := by
    intro X hP hw hK hc i pins s σ H E I hf st hg
    subst hP hw hK
    obtain ⟨f0, f1, f2, f3, f4, f5⟩ := hf it (by simp)
    exact wpAny_pyNext_range_end (I.ok.hd hc) st (by have : n ≤ i := hg; omega) fun h' eb => ⟨rfl, I.turned (t' := s.toks) (fun b o hb e => eb b o hb e) f0 f1 f3 f4 f5⟩
  self := fun _ _ _ _ _ st h => wpAny_pyIter_rangeiter st h
end L2
namespace L2
open PySem PySem.Spec PyProof.Rows
section
variable {X : Cx} {tg : Expr}
def iList (K : PySem.W.Frag) (tl : TE) : TI := fun σ H R => tl σ H fun x H1 => ∃ a, x = .ref a ∧ (∃ xs, SqL K H1 a xs) ∧ R (Itl K a) H1
def iTup (K : PySem.W.Frag) (tl : TE) : TI := fun σ H R => tl σ H fun x H1 => ∃ a, x = .ref a ∧ (∃ xs, SqT K H1 a xs) ∧ R (Itt K a) H1
theorem pi_list {l : Expr} {tl : TE} (hl : PE X l tl) : PI X tg l (iList X.K tl) := by
  intro pins s σ H R I h
  refine thn (hl pins s σ H _ I h) fun v s1 ⟨x, H1, I1, r1, q1⟩ => ?_
  obtain ⟨a, e, ⟨xs, hq⟩, q⟩ := q1
  subst e
  cases r1
  obtain ⟨its, rv, p, hz⟩ := I1.list hq
  refine wpAny_pyIter_list p.isList ?_
  refine ⟨s1.heap.objs.size, [s1.heap.objs.size], _, _, H1, rfl, I1.kept (t' := s1.toks) fun b o e => Heap.get?_push_of_some _ e, turn_list a _, ⟨_, Heap.get?_push_size _ rfl, rfl, rfl⟩, fun b hb => ?_, q⟩
  have e : b = s1.heap.objs.size := by simpa using hb
  subst e
  exact I1.fpOk (Nat.le_refl _) (I1.hok.fresh (Nat.le_refl _))
theorem pi_tup {l : Expr} {tl : TE} (hl : PE X l tl) : PI X tg l (iTup X.K tl) := by
  intro pins s σ H R I h
  refine thn (hl pins s σ H _ I h) fun v s1 ⟨x, H1, I1, r1, q1⟩ => ?_
  obtain ⟨a, e, ⟨xs, hq⟩, q⟩ := q1
  subst e
  cases r1
  obtain ⟨its, rv, p, hz⟩ := I1.tuple hq
  refine wpAny_pyIter_tuple (show s1.heap.IsTuple a its.toArray from p) ?_
  refine ⟨s1.heap.objs.size, [s1.heap.objs.size], _, _, H1, rfl, I1.kept (t' := s1.toks) fun b o e => Heap.get?_push_of_some _ e, turn_tuple a _, ⟨_, Heap.get?_push_size _ rfl, rfl, rfl⟩, fun b hb => ?_, q⟩
  have e : b = s1.heap.objs.size := by simpa using hb
  subst e
  exact I1.fpOk (Nat.le_refl _) (I1.hok.fresh (Nat.le_refl _))
theorem range_it {pins : List (Addr × Obj)} {σ : St} {H : Hp} {s : Shared} {R : It → Hp → Prop} {E : Value → Shared → Prop} {lo hi : Int} {t u v : Tok} {tk : Nat} (I : Inv X pins σ H s) (h1 : -(2 ^ 62) ≤ lo) (h2 : lo < 2 ^ 62) (h3 : -(2 ^ 62) ≤ hi) (h4 : hi < 2 ^ 62)
    (q : R (Itr lo (hi - lo).toNat) H) : wpAny (model X.prog X.w) X.A (pyIter (.ref s.heap.objs.size)) (PIE X pins σ tg R) E { s with heap := s.heap.push { cls := .type "range", data := .fields #[.int lo t, .int hi u, .int 1 v] }, toks := tk } := by
  refine wpAny_pyIter_range (IsRange.new ..) (small_one h1 h2 h3 h4) ?_
  have I1 : Inv X pins σ H { s with heap := s.heap.push { cls := .type "range", data := .fields #[.int lo t, .int hi u, .int 1 v] }, toks := tk } := I.kept fun b o e => Heap.get?_push_of_some _ e
  refine ⟨(s.heap.push { cls := .type "range", data := .fields #[.int lo t, .int hi u, .int 1 v] }).objs.size, [(s.heap.push { cls := .type "range", data := .fields #[.int lo t, .int hi u, .int 1 v] }).objs.size], _, _, H, rfl,
    I1.kept (t' := tk) fun b o e => Heap.get?_push_of_some _ e, turn_range _ lo (hi - lo).toNat, ?_, fun b hb => ?_, q⟩
  · have e1 : lo + ((0 : Nat) : Int) * 1 = lo := by simp
    have e2 : (((hi - lo).toNat : Nat) : Int) - ((0 : Nat) : Int) = Builtin.Range.rangeSize lo hi 1 := by rw [rangeSize_one]; split <;> omega
    show IsRangeIter _ _ (lo + ((0 : Nat) : Int) * 1) ((((hi - lo).toNat : Nat) : Int) - ((0 : Nat) : Int)) 1
    rw [e1, e2]
    exact Heap.get?_push_size _ rfl
  · have e : b = (s.heap.push { cls := .type "range", data := .fields #[.int lo t, .int hi u, .int 1 v] }).objs.size := by simpa using hb
    subst e
    exact I1.fpOk (Nat.le_refl _) (I1.hok.fresh (Nat.le_refl _))
def iRng1 (ta : TA) : TI := fun σ H R => ta σ H fun vs H1 => ∃ j : Int, vs = [.int j] ∧ -(2 ^ 62) ≤ j ∧ j < 2 ^ 62 ∧ R (Itr 0 j.toNat) H1
def iRng2 (ta : TA) : TI := fun σ H R => ta σ H fun vs H1 => ∃ i j : Int, vs = [.int i, .int j] ∧ (-(2 ^ 62) ≤ i ∧ i < 2 ^ 62 ∧ -(2 ^ 62) ≤ j ∧ j < 2 ^ 62) ∧ R (Itr i (j - i).toNat) H1
theorem pi_range1 {a : Expr} {ta : TA} {p pos : Pos} (hg : Gl X "range") (hm : X.mg "range" = none) (ha : PA X [a] ta) (hs : starEach [a] X.env = [(false, eval a X.env)] := by rfl) : PI X tg (.Call (.Name "range" p) [a] [] pos) (iRng1 ta) := by
  intro pins s σ H R I h
  refine Call_ (ld_blt I hg hm boot_range (PyProof.Rows.callWith_type1 (thn (ha pos pins s σ H _ I h) fun us s1 ⟨vs, H1, I1, r1, q1⟩ => ?_) hs rfl))
  obtain ⟨j, e, q1, q2, q⟩ := q1
  subst e
  cases r1 with
  | cons r rr =>
    cases rr
    obtain ⟨t, rfl⟩ := r
    exact call_range_1 (range_it I1 (by omega) (by omega) q1 q2 (by simpa using q))
theorem pi_range2 {a b : Expr} {ta : TA} {p pos : Pos} (hg : Gl X "range") (hm : X.mg "range" = none) (ha : PA X [a, b] ta) (hs : starEach [a, b] X.env = [(false, eval a X.env), (false, eval b X.env)] := by rfl) (hs2 : starEach [b] X.env = [(false, eval b X.env)] := by rfl) :
    PI X tg (.Call (.Name "range" p) [a, b] [] pos) (iRng2 ta) := by
  intro pins s σ H R I h
  refine Call_ (ld_blt I hg hm boot_range (PyProof.Rows.callWith_type1 (thn (ha pos pins s σ H _ I h) fun us s1 ⟨vs, H1, I1, r1, q1⟩ => ?_) (by rw [hs, hs2]) (by rw [hs2]; rfl)))
  obtain ⟨i, j, e, ⟨q1, q2, q3, q4⟩, q⟩ := q1
  subst e
  cases r1 with
  | cons r rr =>
    cases rr with
    | cons r' rr =>
      cases rr
      obtain ⟨t, rfl⟩ := r
      obtain ⟨t', rfl⟩ := r'
      exact call_range_2 (range_it I1 q1 q2 q3 q4 q)
def tFor (wi : TI) (g : TG) (tb : TS) : TS := fun D σ H => wi σ H fun J H1 => ∃ W : Nat → Nat → St → Hp → Prop, (∃ m, W 0 m σ H1) ∧ ∀ i m σ H, W i m σ H →
  (J.stop i H ∧ D.nx σ H) ∨ (J.go i H ∧ ∃ N : St → Hp → Prop, (∀ σ' H', N σ' H' → ∃ m', m' < m ∧ W (i + 1) m' σ' H') ∧ ∀ x H', J.yld i H x H' → g x σ H' fun σ2 H2 => tb { D with nx := N, ct := N, bk := D.nx } σ2 H2)
def pinsAt (fp : List Addr) (h : Heap) : List (Addr × Obj) := fp.filterMap fun b => (h.get? b).map fun o => (b, o)
theorem mem_pinsAt {fp : List Addr} {h : Heap} {b : Addr} {o : Obj} (hb : b ∈ fp) (e : h.get? b = some o) : (b, o) ∈ pinsAt fp h := List.mem_filterMap.mpr ⟨b, hb, by rw [e]; rfl⟩
theorem of_pinsAt {fp : List Addr} {h : Heap} {p : Addr × Obj} (hp : p ∈ pinsAt fp h) : p.1 ∈ fp ∧ h.get? p.1 = some p.2 := by
  obtain ⟨b, hb, e⟩ := List.mem_filterMap.mp hp
  cases q : h.get? b with
  | none => rw [q] at e; cases e
  | some o =>
    rw [q] at e
    have e' : (b, o) = p := Option.some.inj e
    subst e'
    exact ⟨hb, q⟩
theorem Inv.pinned {pins : List (Addr × Obj)} {σ : St} {H : Hp} {s : Shared} {fp : List Addr} (I : Inv X pins σ H s) (hf : ∀ b ∈ fp, FpOk X pins H b) (ho : ∀ b ∈ fp, ∃ o, s.heap.get? b = some o ∧ ∀ v, o.data ≠ .cell v) : Inv X (pins ++ pinsAt fp s.heap) σ H s :=
  I.pins_of fun p hp => (List.mem_append.mp hp).elim (fun z => I.pin p (List.mem_append_right _ z)) fun z => by
    obtain ⟨hb, e⟩ := of_pinsAt z
    obtain ⟨f0, f1, f2, _⟩ := hf p.1 hb
    obtain ⟨o, e', d⟩ := ho p.1 hb
    rw [e] at e'; cases e'
    exact ⟨e, f0, f1, f2, d⟩
theorem Inv.unpinned {pins pl : List (Addr × Obj)} {σ : St} {H : Hp} {s : Shared} (I : Inv X (pins ++ pl) σ H s) : Inv X pins σ H s := I.pins_of fun p hp => I.pin p (List.mem_append_right _ (List.mem_append_left _ hp))
theorem ps_for {iter : Expr} {body : List Stmt} {wi : TI} {g : TG} {tb : TS} {pos : Pos} (hp : PassesOwn (model X.prog X.w) X.A X.env X.xe) (hc : X.calm = true) (hi : PI X tg iter wi) (hg : PG X tg g) (hb : PSs X body tb)
    (hs : ∀ x, foldedSetIterable iter X.env x = pure x := by intro _; rfl) : PS X (.For tg iter body [] pos) (tFor wi g tb) := by
  intro pins s σ H D I h
  refine wpAny_For (thn (hi pins s σ H _ I h) fun v s1 h1 => thn h1 fun itv s2 h2 => ?_) hs
  obtain ⟨it, fp, tn, J, H2, e, I2, T, st2, f2, W, ⟨m0, w0⟩, turn⟩ := h2
  subst e
  have stat : ∀ {H' : Hp}, (∀ b ∈ fp, H' b = none) → ∀ b ∈ fp, FpOk X pins H' b := fun hn b hb => ⟨hn b hb, (f2 b hb).2⟩
  refine codeAny_forLoop_any (fun n s' => ∃ i σ' H', Inv X pins σ' H' s' ∧ tn i s'.heap ∧ (∀ b ∈ fp, H' b = none) ∧ W i n σ' H') ?_ m0 ⟨0, σ, H2, I2, st2, fun b hb => (f2 b hb).1, w0⟩
  rintro n s3 ⟨i, σ3, H3, I3, st3, fr3, w3⟩
  rcases turn i n σ3 H3 w3 with ⟨stop, qn⟩ | ⟨go, N, hN, step⟩
  · refine wpAny_passesOwn hp (thn (T.done X rfl rfl rfl hc i pins s3 σ3 H3 X.xe I3 (stat fr3) st3 stop) fun r s4 ⟨hr, I4⟩ => ?_)
    subst hr
    exact wpAny_execs_nil ⟨σ3, H3, I4, qn⟩
  · refine wpAny_passesOwn hp (thn (T.item X rfl rfl rfl hc i pins s3 σ3 H3 X.xe I3 (stat fr3) st3 go) fun r s4 ⟨u, hr, h4⟩ => ?_)
    subst hr
    refine wpAny_passesOwn hp (thn h4 fun _ s5 ⟨x, H5, I5, r5, y5, st5, fr5⟩ => ?_)
    have I5' := I5.pinned (stat fr5) (T.obj _ _ st5)
    refine wpAny_passesOwn hp (thn (hg _ s5 σ3 H5 x u _ I5' r5 (step x H5 y5)) fun _ s6 ⟨σ6, H6, I6, q6⟩ => ?_)
    refine wpAny_passesOwn hp (thn (hb _ s6 σ6 H6 _ I6 q6) fun f s7 q7 => ?_)
    have again : ∀ {σ7 : St} {H7 : Hp}, Inv X (pins ++ pinsAt fp s5.heap) σ7 H7 s7 → N σ7 H7 → ∃ m, m < n ∧ ∃ i σ' H', Inv X pins σ' H' s7 ∧ tn i s7.heap ∧ (∀ b ∈ fp, H' b = none) ∧ W i m σ' H' := fun {σ7 H7} I7 n7 => by
      obtain ⟨m', hm, w7⟩ := hN σ7 H7 n7
      refine ⟨m', hm, i + 1, σ7, H7, I7.unpinned, T.keep _ _ _ st5 fun b hb o e => (I7.pin (b, o) (List.mem_append_right _ (List.mem_append_right _ (mem_pinsAt hb e)))).1, fun b hb => ?_, w7⟩
      obtain ⟨o, e, d⟩ := T.obj _ _ st5 b hb
      exact (I7.pin (b, o) (List.mem_append_right _ (List.mem_append_right _ (mem_pinsAt hb e)))).2.1
    cases f with
    | next => obtain ⟨σ7, H7, I7, n7⟩ := q7; exact again I7 n7
    | cont => obtain ⟨σ7, H7, I7, n7⟩ := q7; exact again I7 n7
    | brk => obtain ⟨σ7, H7, I7, q7⟩ := q7; exact ⟨σ7, H7, I7.unpinned, q7⟩
    | ret v => obtain ⟨x7, σ7, H7, I7, r7, q7⟩ := q7; exact ⟨x7, σ7, H7, I7.unpinned, r7, q7⟩
end
theorem for_list {K : PySem.W.Frag} {a : Addr} {xs : List V} {g : TG} {tb : TS} {D : Ends} {σ : St} {H : Hp} (Pv : Nat → St → Hp → Prop) (h0 : Pv 0 σ H) (hl : ∀ i σ H, i ≤ xs.length → Pv i σ H → SqL K H a xs)
    (hs : ∀ i x σ H, xs[i]? = some x → Pv i σ H → g x σ H fun σ2 H2 => tb { D with nx := Pv (i + 1), ct := Pv (i + 1), bk := D.nx } σ2 H2) (hd : ∀ σ H, Pv xs.length σ H → D.nx σ H) :
    ∃ W : Nat → Nat → St → Hp → Prop, (∃ m, W 0 m σ H) ∧ ∀ i m σ H, W i m σ H →
      ((Itl K a).stop i H ∧ D.nx σ H) ∨ ((Itl K a).go i H ∧ ∃ N : St → Hp → Prop, (∀ σ' H', N σ' H' → ∃ m', m' < m ∧ W (i + 1) m' σ' H') ∧ ∀ x H', (Itl K a).yld i H x H' → g x σ H' fun σ2 H2 => tb { D with nx := N, ct := N, bk := D.nx } σ2 H2) := by
  refine ⟨fun i m σ H => m = xs.length - i ∧ i ≤ xs.length ∧ Pv i σ H, ⟨xs.length, by simp, Nat.zero_le _, h0⟩, ?_⟩
  rintro i m σ H ⟨rfl, hi, p⟩
  have q := hl i σ H hi p
  by_cases hlt : i < xs.length
  · refine .inr ⟨⟨xs, xs[i], q, by simp [hlt]⟩, Pv (i + 1), fun σ' H' p' => ⟨xs.length - (i + 1), by omega, rfl, hlt, p'⟩, fun x H' y => ?_⟩
    obtain ⟨e, y⟩ := y
    subst e
    exact hs i x σ _ (y xs q) p
  · have e : i = xs.length := by omega
    subst e
    exact .inl ⟨⟨xs, q, Nat.le_refl _⟩, hd σ H p⟩
theorem for_tup {K : PySem.W.Frag} {a : Addr} {xs : List V} {g : TG} {tb : TS} {D : Ends} {σ : St} {H : Hp} (Pv : Nat → St → Hp → Prop) (h0 : Pv 0 σ H) (hl : ∀ i σ H, i ≤ xs.length → Pv i σ H → SqT K H a xs)
    (hs : ∀ i x σ H, xs[i]? = some x → Pv i σ H → g x σ H fun σ2 H2 => tb { D with nx := Pv (i + 1), ct := Pv (i + 1), bk := D.nx } σ2 H2) (hd : ∀ σ H, Pv xs.length σ H → D.nx σ H) :
    ∃ W : Nat → Nat → St → Hp → Prop, (∃ m, W 0 m σ H) ∧ ∀ i m σ H, W i m σ H →
      ((Itt K a).stop i H ∧ D.nx σ H) ∨ ((Itt K a).go i H ∧ ∃ N : St → Hp → Prop, (∀ σ' H', N σ' H' → ∃ m', m' < m ∧ W (i + 1) m' σ' H') ∧ ∀ x H', (Itt K a).yld i H x H' → g x σ H' fun σ2 H2 => tb { D with nx := N, ct := N, bk := D.nx } σ2 H2) := by
  refine ⟨fun i m σ H => m = xs.length - i ∧ i ≤ xs.length ∧ Pv i σ H, ⟨xs.length, by simp, Nat.zero_le _, h0⟩, ?_⟩
  rintro i m σ H ⟨rfl, hi, p⟩
  have q := hl i σ H hi p
  by_cases hlt : i < xs.length
  · refine .inr ⟨⟨xs, xs[i], q, by simp [hlt]⟩, Pv (i + 1), fun σ' H' p' => ⟨xs.length - (i + 1), by omega, rfl, hlt, p'⟩, fun x H' y => ?_⟩
    obtain ⟨e, y⟩ := y
    subst e
    exact hs i x σ _ (y xs q) p
  · have e : i = xs.length := by omega
    subst e
    exact .inl ⟨⟨xs, q, Nat.le_refl _⟩, hd σ H p⟩
theorem for_range {lo : Int} {n : Nat} {g : TG} {tb : TS} {D : Ends} {σ : St} {H : Hp} (Pv : Nat → St → Hp → Prop) (h0 : Pv 0 σ H)
    (hs : ∀ i σ H, i < n → Pv i σ H → g (.int (lo + i)) σ H fun σ2 H2 => tb { D with nx := Pv (i + 1), ct := Pv (i + 1), bk := D.nx } σ2 H2) (hd : ∀ σ H, Pv n σ H → D.nx σ H) :
    ∃ W : Nat → Nat → St → Hp → Prop, (∃ m, W 0 m σ H) ∧ ∀ i m σ H, W i m σ H →
      ((Itr lo n).stop i H ∧ D.nx σ H) ∨ ((Itr lo n).go i H ∧ ∃ N : St → Hp → Prop, (∀ σ' H', N σ' H' → ∃ m', m' < m ∧ W (i + 1) m' σ' H') ∧ ∀ x H', (Itr lo n).yld i H x H' → g x σ H' fun σ2 H2 => tb { D with nx := N, ct := N, bk := D.nx } σ2 H2) := by
  refine ⟨fun i m σ H => m = n - i ∧ i ≤ n ∧ Pv i σ H, ⟨n, by simp, Nat.zero_le _, h0⟩, ?_⟩
  rintro i m σ H ⟨rfl, hi, p⟩
  by_cases hlt : i < n
  · refine .inr ⟨hlt, Pv (i + 1), fun σ' H' p' => ⟨n - (i + 1), by omega, rfl, hlt, p'⟩, fun x H' y => ?_⟩
    obtain ⟨e, y⟩ := y
    subst e y
    exact hs i σ _ hlt p
  · have e : i = n := by omega
    subst e
    exact .inl ⟨Nat.le_refl _, hd σ H p⟩
theorem while_by {c : TT} {tb : TS} {D : Ends} {σ : St} {H : Hp} (Pv : St → Hp → Prop) (μ : St → Hp → Nat) (h0 : Pv σ H)
    (hs : ∀ σ H, Pv σ H → c σ H fun b H1 => if b = true then tb { D with nx := fun σ' H' => Pv σ' H' ∧ μ σ' H' < μ σ H, ct := fun σ' H' => Pv σ' H' ∧ μ σ' H' < μ σ H, bk := D.nx } σ H1 else D.nx σ H1)
    (mono : ∀ σ H Q Q', (∀ b H1, Q b H1 → Q' b H1) → c σ H Q → c σ H Q') : tWhile c tb D σ H := by
  refine ⟨fun m σ H => m = μ σ H ∧ Pv σ H, ⟨_, rfl, h0⟩, ?_⟩
  rintro m σ H ⟨rfl, p⟩
  refine mono σ H _ _ (fun b H1 q => ?_) (hs σ H p)
  cases b with
  | true => exact ⟨_, fun σ' H' ⟨p', l⟩ => ⟨_, l, rfl, p'⟩, q⟩
  | false => exact q
end L2
namespace L2
open PySem PySem.Spec PyProof.Rows
abbrev R2 := V → V → Hp → VK → Prop
def OpR (X : Cx) (f : Value → Value → Sem Value) (r : R2) : Prop :=
  ∀ (pins : List (Addr × Obj)) (s : Shared) (σ : St) (H : Hp) (x y : V) (v u : Value) (Q : VK), Inv X pins σ H s → RelV x v → RelV y u → r x y H Q →
    wpAny (model X.prog X.w) X.A (f v u) (EP X pins σ Q) X.xe s
def UnR (X : Cx) (f : Value → Sem Value) (r : V → Hp → VK → Prop) : Prop :=
  ∀ (pins : List (Addr × Obj)) (s : Shared) (σ : St) (H : Hp) (x : V) (v : Value) (Q : VK), Inv X pins σ H s → RelV x v → r x H Q →
    wpAny (model X.prog X.w) X.A (f v) (EP X pins σ Q) X.xe s
def CallR (X : Cx) (f : Value) (r : List V → Hp → VK → Prop) : Prop :=
  ∀ (pins : List (Addr × Obj)) (s : Shared) (σ : St) (H : Hp) (xs : List V) (us : List Value) (Q : VK), Inv X pins σ H s → Vals xs us → r xs H Q →
    wpAny (model X.prog X.w) X.A (call f us) (EP X pins σ Q) X.xe s
def tOp (r : R2) (ta tb : TE) : TE := fun σ H Q => ta σ H fun x H1 => tb σ H1 fun y H2 => r x y H2 Q
def tUn (r : V → Hp → VK → Prop) (ta : TE) : TE := fun σ H Q => ta σ H fun x H1 => r x H1 Q
def rI (C : Int → Int → Prop) (g : Int → Int → V) : R2 := fun x y H Q => ∃ i j, x = .int i ∧ y = .int j ∧ C i j ∧ Q (g i j) H
def rI0 (g : Int → Int → V) : R2 := fun x y H Q => ∃ i j, x = .int i ∧ y = .int j ∧ Q (g i j) H
def rU (g : Int → V) : V → Hp → VK → Prop := fun x H Q => ∃ i, x = .int i ∧ Q (g i) H
section
variable {X : Cx} {a b c : Expr} {ta tb tc : TE} {pos : Pos}
theorem binT (ha : PE X a ta) (hb : PE X b tb) {pins : List (Addr × Obj)} {s : Shared} {σ : St} {H : Hp} {R : V → V → Hp → Prop} (I : Inv X pins σ H s)
    (h : ta σ H fun x H1 => tb σ H1 fun y H2 => R x y H2) {Q : Value → Shared → Prop} {f : Value → Value → Sem Value}
    (hf : ∀ v u s2 x y H2, Inv X pins σ H2 s2 → RelV x v → RelV y u → R x y H2 → wpAny (model X.prog X.w) X.A (f v u) Q X.xe s2) :
    wpAny (model X.prog X.w) X.A (eval a X.env) (fun v s₁ => wpAny (model X.prog X.w) X.A (eval b X.env) (fun u s₂ => wpAny (model X.prog X.w) X.A (f v u) Q X.xe s₂) X.xe s₁) X.xe s := by
  refine thn (ha pins s σ H _ I h) fun v s1 ⟨x, H1, I1, r1, q1⟩ => ?_
  refine thn (hb pins s1 σ H1 _ I1 q1) fun u s2 ⟨y, H2, I2, r2, q2⟩ => ?_
  exact hf v u s2 x y H2 I2 r1 r2 q2
theorem pe_op {op : Operator} {r : R2} (ho : OpR X (binaryOp op) r) (ha : PE X a ta) (hb : PE X b tb) : PE X (.BinOp a op b pos) (tOp r ta tb) := by
  intro pins s σ H Q I h
  exact wpAny_BinOp (binT ha hb I h fun v u s2 x y H2 I2 rx ry q => ho pins s2 σ H2 x y v u Q I2 rx ry q)
theorem pe_un {op : UnaryOp} {r : V → Hp → VK → Prop} (ho : UnR X (unaryOp op) r) (ha : PE X a ta) : PE X (.UnaryOp op a pos) (tUn r ta) := by
  intro pins s σ H Q I h
  exact UnaryOp_ (thn (ha pins s σ H _ I h) fun v s1 ⟨x, H1, I1, r1, q1⟩ => ho pins s1 σ H1 x v Q I1 r1 q1)
theorem opI {f : Value → Value → Sem Value} {C : Int → Int → Prop} {g : Int → Int → Int}
    (rule : ∀ (i j : Int) (t u : Tok) (s : Shared) (Q : Value → Shared → Prop) (E : Value → Shared → Prop), C i j → Q (.int (g i j) s.toks) { s with toks := s.toks + 1 } → wpAny (model X.prog X.w) X.A (f (.int i t) (.int j u)) Q E s) :
    OpR X f (rI C fun i j => .int (g i j)) := by
  intro pins s σ H x y v u Q I rx ry h
  obtain ⟨i, j, rfl, rfl, hc, q⟩ := h
  obtain ⟨t, rfl⟩ := rx
  obtain ⟨t', rfl⟩ := ry
  exact rule i j t t' s _ _ hc ⟨.int (g i j), H, I.tok _, ⟨_, rfl⟩, q⟩
theorem opI0 {f : Value → Value → Sem Value} {g : Int → Int → Int}
    (rule : ∀ (i j : Int) (t u : Tok) (s : Shared) (Q : Value → Shared → Prop) (E : Value → Shared → Prop), Q (.int (g i j) s.toks) { s with toks := s.toks + 1 } → wpAny (model X.prog X.w) X.A (f (.int i t) (.int j u)) Q E s) :
    OpR X f (rI0 fun i j => .int (g i j)) := by
  intro pins s σ H x y v u Q I rx ry h
  obtain ⟨i, j, rfl, rfl, q⟩ := h
  obtain ⟨t, rfl⟩ := rx
  obtain ⟨t', rfl⟩ := ry
  exact rule i j t t' s _ _ ⟨.int (g i j), H, I.tok _, ⟨_, rfl⟩, q⟩
theorem opB0 {f : Value → Value → Sem Value} {g : Int → Int → Bool}
    (rule : ∀ (i j : Int) (t u : Tok) (s : Shared) (Q : Value → Shared → Prop) (E : Value → Shared → Prop), Q (.bool (g i j)) s → wpAny (model X.prog X.w) X.A (f (.int i t) (.int j u)) Q E s) :
    OpR X f (rI0 fun i j => .bl (g i j)) := by
  intro pins s σ H x y v u Q I rx ry h
  obtain ⟨i, j, rfl, rfl, q⟩ := h
  obtain ⟨t, rfl⟩ := rx
  obtain ⟨t', rfl⟩ := ry
  exact rule i j t t' s _ _ ⟨.bl (g i j), H, I, rfl, q⟩
def CMul (i j : Int) : Prop := (-(2 ^ 64) < i ∧ i < 2 ^ 64) ∨ (-(2 ^ 64) < j ∧ j < 2 ^ 64)
theorem CMul.ok {i j : Int} (h : CMul i j) : IntMulOk i j := by
  rcases h with ⟨h1, h2⟩ | ⟨h1, h2⟩
  · exact .of_left (intBits_le_64 h1 h2)
  · exact .of_right (intBits_le_64 h1 h2)
theorem op_add : OpR X (binaryOp .Add) (rI0 fun i j => .int (i + j)) := opI0 fun _ _ _ _ _ _ _ q => add_int q
theorem op_sub : OpR X (binaryOp .Sub) (rI0 fun i j => .int (i - j)) := opI0 fun _ _ _ _ _ _ _ q => sub_int q
theorem op_mul : OpR X (binaryOp .Mult) (rI CMul fun i j => .int (i * j)) := opI fun _ _ _ _ _ _ _ hc q => mul_int q hc.ok
theorem op_mod : OpR X (binaryOp .Mod) (rI (fun _ j => 0 < j) fun i j => .int (i % j)) := opI fun i j _ _ _ _ _ hc q => by
  have h1 : (0 : Int) < j := hc
  exact mod_int' (by omega) (by rw [Int.fmod_eq_emod_of_nonneg i (by omega)]; exact q)
theorem unI {f : Value → Sem Value} {g : Int → Int}
    (rule : ∀ (i : Int) (t : Tok) (s : Shared) (Q : Value → Shared → Prop) (E : Value → Shared → Prop), Q (.int (g i) s.toks) { s with toks := s.toks + 1 } → wpAny (model X.prog X.w) X.A (f (.int i t)) Q E s) :
    UnR X f (rU fun i => .int (g i)) := by
  intro pins s σ H x v Q I rx h
  obtain ⟨i, rfl, q⟩ := h
  obtain ⟨t, rfl⟩ := rx
  exact rule i t s _ _ ⟨.int (g i), H, I.tok _, ⟨_, rfl⟩, q⟩
theorem un_neg : UnR X (unaryOp .USub) (rU fun i => .int (-i)) := unI fun _ _ _ _ _ q => neg_int q
end
def scal : V → V → Bool
  | .non, .non => true | .non, .int _ => true | .int _, .non => true | .non, .bl _ => true | .bl _, .non => true | .non, .str _ => true | .str _, .non => true
  | .int _, .int _ => true | .bl _, .bl _ => true | .str _, .str _ => true | .byt _, .byt _ => true
  | .int _, .str _ => true | .str _, .int _ => true | .bl _, .str _ => true | .str _, .bl _ => true
  | _, _ => false
def rEq : R2 := fun x y H Q => scal x y = true ∧ Q (.bl (decide (x = y))) H
def rNe : R2 := fun x y H Q => scal x y = true ∧ Q (.bl (!decide (x = y))) H
theorem dec_int {i j : Int} : decide (V.int i = V.int j) = (i == j) := by
  rw [Bool.eq_iff_iff]
  simp
theorem dec_bl {i j : Bool} : decide (V.bl i = V.bl j) = (i == j) := by
  rw [Bool.eq_iff_iff]
  simp
theorem dec_str {i j : Str} : decide (V.str i = V.str j) = (i == j) := by
  rw [Bool.eq_iff_iff]
  simp
theorem dec_byt {i j : Array UInt8} : decide (V.byt i = V.byt j) = (i.toList == j.toList) := by
  rw [Bool.eq_iff_iff]
  cases i
  cases j
  simp
section
variable {X : Cx} {a b c : Expr} {ta tb tc : TE} {pos : Pos}
theorem fin_bl {pins : List (Addr × Obj)} {σ : St} {H : Hp} {s : Shared} {Q : VK} {k k' : Bool} (I : Inv X pins σ H s) (q : Q (.bl k) H) (e : k = k') : EP X pins σ Q (.bool k') s := by
  subst e
  exact ⟨.bl k, H, I, rfl, q⟩
theorem op_eq : OpR X (compareOp .Eq) rEq := by
  intro pins s σ H x y v u Q I rx ry h
  obtain ⟨hs, q⟩ := h
  cases x with
  | non =>
    cases rx
    cases y with
    | non => cases ry; exact PySem.EqNone.eq_none_none (fin_bl I q (by simp))
    | bl j => cases ry; exact PySem.EqNone.eq_none_bool (fin_bl I q (by simp))
    | int j => obtain ⟨t', rfl⟩ := ry; exact PySem.EqNone.eq_none_int (fin_bl I q (by simp))
    | str j => obtain ⟨t', rfl⟩ := ry; exact PySem.EqNone.eq_none_str (fin_bl I q (by simp))
    | _ => exact absurd (show false = true from hs) Bool.false_ne_true
  | bl i =>
    cases rx
    cases y with
    | non => cases ry; exact PySem.EqNone.eq_bool_none (fin_bl I q (by simp))
    | bl j => cases ry; exact eq_bool (fin_bl I q dec_bl)
    | str j => obtain ⟨t', rfl⟩ := ry; exact PySem.EqMixed.eq_bool_str (fin_bl I q (by simp))
    | _ => exact absurd (show false = true from hs) Bool.false_ne_true
  | int i =>
    obtain ⟨t, rfl⟩ := rx
    cases y with
    | non => cases ry; exact PySem.EqNone.eq_int_none (fin_bl I q (by simp))
    | int j => obtain ⟨t', rfl⟩ := ry; exact eq_int (fin_bl I q dec_int)
    | str j => obtain ⟨t', rfl⟩ := ry; exact PySem.EqMixed.eq_int_str (fin_bl I q (by simp))
    | _ => exact absurd (show false = true from hs) Bool.false_ne_true
  | str i =>
    obtain ⟨t, rfl⟩ := rx
    cases y with
    | non => cases ry; exact PySem.EqNone.eq_str_none (fin_bl I q (by simp))
    | bl j => cases ry; exact PySem.EqMixed.eq_str_bool (fin_bl I q (by simp))
    | int j => obtain ⟨t', rfl⟩ := ry; exact PySem.EqMixed.eq_str_int (fin_bl I q (by simp))
    | str j => obtain ⟨t', rfl⟩ := ry; exact eq_str (fin_bl I q dec_str)
    | _ => exact absurd (show false = true from hs) Bool.false_ne_true
  | byt i =>
    obtain ⟨t, rfl⟩ := rx
    cases y with
    | byt j => obtain ⟨t', rfl⟩ := ry; exact PySem.W.eq_bytes (fin_bl I q dec_byt)
    | _ => exact absurd (show false = true from hs) Bool.false_ne_true
  | _ => cases y <;> exact absurd (show false = true from hs) Bool.false_ne_true
theorem op_ne : OpR X (compareOp .NotEq) rNe := by
  intro pins s σ H x y v u Q I rx ry h
  obtain ⟨hs, q⟩ := h
  cases x with
  | non =>
    cases rx
    cases y with
    | non => cases ry; exact PySem.EqNone.ne_none_none (fin_bl I q (by simp))
    | bl j => cases ry; exact PySem.EqNone.ne_none_bool (fin_bl I q (by simp))
    | int j => obtain ⟨t', rfl⟩ := ry; exact PySem.EqNone.ne_none_int (fin_bl I q (by simp))
    | str j => obtain ⟨t', rfl⟩ := ry; exact PySem.EqNone.ne_none_str (fin_bl I q (by simp))
    | _ => exact absurd (show false = true from hs) Bool.false_ne_true
  | bl i =>
    cases rx
    cases y with
    | non => cases ry; exact PySem.EqNone.ne_bool_none (fin_bl I q (by simp))
    | bl j => cases ry; exact ne_bool (fin_bl I q (congrArg not dec_bl))
    | str j => obtain ⟨t', rfl⟩ := ry; exact PySem.EqMixed.ne_bool_str (fin_bl I q (by simp))
    | _ => exact absurd (show false = true from hs) Bool.false_ne_true
  | int i =>
    obtain ⟨t, rfl⟩ := rx
    cases y with
    | non => cases ry; exact PySem.EqNone.ne_int_none (fin_bl I q (by simp))
    | int j => obtain ⟨t', rfl⟩ := ry; exact ne_int (fin_bl I q (congrArg not dec_int))
    | str j => obtain ⟨t', rfl⟩ := ry; exact PySem.EqMixed.ne_int_str (fin_bl I q (by simp))
    | _ => exact absurd (show false = true from hs) Bool.false_ne_true
  | str i =>
    obtain ⟨t, rfl⟩ := rx
    cases y with
    | non => cases ry; exact PySem.EqNone.ne_str_none (fin_bl I q (by simp))
    | bl j => cases ry; exact PySem.EqMixed.ne_str_bool (fin_bl I q (by simp))
    | int j => obtain ⟨t', rfl⟩ := ry; exact PySem.EqMixed.ne_str_int (fin_bl I q (by simp))
    | str j => obtain ⟨t', rfl⟩ := ry; exact ne_str (fin_bl I q (congrArg not dec_str))
    | _ => exact absurd (show false = true from hs) Bool.false_ne_true
  | byt i =>
    obtain ⟨t, rfl⟩ := rx
    cases y with
    | byt j => obtain ⟨t', rfl⟩ := ry; exact PySem.W.ne_bytes (fin_bl I q (congrArg not dec_byt))
    | _ => exact absurd (show false = true from hs) Bool.false_ne_true
  | _ => cases y <;> exact absurd (show false = true from hs) Bool.false_ne_true
theorem op_lt : OpR X (compareOp .Lt) (rI0 fun i j => .bl (decide (i < j))) := opB0 fun _ _ _ _ _ _ _ q => lt_int q
theorem op_le : OpR X (compareOp .LtE) (rI0 fun i j => .bl (decide (i ≤ j))) := opB0 fun _ _ _ _ _ _ _ q => le_int q
theorem op_gt : OpR X (compareOp .Gt) (rI0 fun i j => .bl (decide (j < i))) := opB0 fun _ _ _ _ _ _ _ q => gt_int q
theorem op_ge : OpR X (compareOp .GtE) (rI0 fun i j => .bl (decide (j ≤ i))) := opB0 fun _ _ _ _ _ _ _ q => ge_int q
theorem nomark (b : Expr) {op : CmpOp} (h : op ≠ .In := by decide) (h2 : op ≠ .NotIn := by decide) : behindInMarks op b = false := by
  have e1 : (op == CmpOp.In) = false := by cases op <;> first | rfl | exact absurd rfl h
  have e2 : (op == CmpOp.NotIn) = false := by cases op <;> first | rfl | exact absurd rfl h2
  cases b <;> simp [behindInMarks, e1, e2]
theorem pe_cmpR {op : CmpOp} {r : R2} (ho : OpR X (compareOp op) r) (ha : PE X a ta) (hb : PE X b tb) (hm : behindInMarks op b = false) : PE X (.Compare a [op] [b] pos) (tOp r ta tb) := by
  intro pins s σ H Q I h
  exact wpAny_Compare1 (binT ha hb I h fun v u s2 x y H2 I2 rx ry q => ho pins s2 σ H2 x y v u Q I2 rx ry q) hm
def tTest (t : TE) : TT := fun σ H Q => t σ H fun x H' => ∃ k, x = .bl k ∧ Q k H'
theorem pt_cmpR {op : CmpOp} {r : R2} (ho : OpR X (compareOp op) r) (ha : PE X a ta) (hb : PE X b tb) (hm : behindInMarks op b = false) : PT X (.Compare a [op] [b] pos) (tTest (tOp r ta tb)) := by
  intro pins s σ H Q I h
  refine wpAny_isTrue_Compare1 (thn (ha pins s σ H _ I h) fun v s1 ⟨x, H1, I1, r1, q1⟩ => thn (hb pins s1 σ H1 _ I1 q1) fun u s2 ⟨y, H2, I2, r2, q2⟩ =>
    thn (ho pins s2 σ H2 x y v u _ I2 r1 r2 q2) fun c s3 ⟨z, H3, I3, r3, k, e, q3⟩ => ?_) hm
  subst e
  cases r3
  exact wpAny_truthy_bool ⟨H3, I3, q3⟩
theorem line63 : (sizeLine : Nat) < 2 ^ 63 := by rw [sizeLine_eq]; decide
theorem vals1 {x : V} {us : List Value} (r : Vals [x] us) : ∃ u, us = [u] ∧ RelV x u := by
  cases r with
  | cons r1 r2 => cases r2; exact ⟨_, rfl, r1⟩
theorem call_abs : CallR X (.builtin "abs") (fun xs H Q => ∃ i, xs = [.int i] ∧ Q (.int (if i < 0 then -i else i)) H) := by
  intro pins s σ H xs us Q I r h
  obtain ⟨i, rfl, q⟩ := h
  obtain ⟨u, rfl, t, rfl⟩ := vals1 r
  exact call_abs_int fun u tk => ⟨.int (if i < 0 then -i else i), H, I.tok _, ⟨_, rfl⟩, q⟩
end
end L2
namespace L2
open PySem PySem.Spec PyProof.Rows
structure ObjM (h : Heap) (x dx C : Addr) (mA : Str → Option Value) : Prop where
  obj : h.get? x = some (PySem.W.instObj C dx)
  ns : h.Ns1 dx mA
  ne : dx ≠ x
theorem lookIn_ns {h : Heap} {dx : Addr} {mA : Str → Option Value} (n : h.Ns1 dx mA) : ∃ od, h.get? dx = some od ∧ ∀ name, PySem.W.lookIn name od = some (mA name) := by
  obtain ⟨o, es, ep, ho, hd, hk, _, hm⟩ := n
  refine ⟨o, ho, fun name => ?_⟩
  have e := hm name
  unfold nsFind findBy at e
  rw [← Array.find?_toList] at e
  unfold PySem.W.lookIn
  rw [hd]
  dsimp only
  split
  · rename_i y q
    rw [q] at e
    exact congrArg some e
  · rename_i q
    rw [q] at e
    have a : es.toList.any (·.refKey) = false := by
      rw [List.any_eq_false]
      intro y hy
      obtain ⟨z, t, hkey⟩ := hk y (Array.mem_toList_iff.mp hy)
      simp [DictEntry.refKey, hkey]
    have a' : ¬ es.toList.any (·.refKey) = true := by rw [a]; exact Bool.false_ne_true
    rw [if_neg a']
    exact congrArg some e
theorem ObjM.look {h : Heap} {x dx C : Addr} {mA : Str → Option Value} (I : ObjM h x dx C mA) : ∃ od, PySem.W.InstAt h x (PySem.W.instObj C dx) C (some od) ∧ ∀ name, PySem.W.lookIn name od = some (mA name) :=
  let ⟨od, ho, hl⟩ := lookIn_ns I.ns
  ⟨od, ⟨I.obj, rfl, rfl, ho⟩, hl⟩
section
variable {prog : Program} {w : World} {A : Around} {E : Value → Shared → Prop} {s : Shared} {K : PySem.W.Frag} {x dx C f : Addr} {mA : Str → Option Value} {name : Str} {v : Value}
theorem get_map {expr : Bool} {Q : Value → Shared → Prop} (X : K.In s.heap) (I : ObjM s.heap x dx C mA) (hg : PySem.W.plainGet K C name = true) (hh : PySem.W.hasDictIn K C = true)
    (ha : PySem.W.findIn K (.ref C) name = some none) (hv : mA name = some v) (hv' : PySem.W.handedIn v = true) (h : Q v { s with toks := s.toks + 1 }) :
    wpAny (model prog w) A (getAttr (.ref x) name expr) Q E s := by
  obtain ⟨od, J, hl⟩ := I.look
  exact PySem.W.get_value X J (PySem.W.plainGet_of hg).1 (PySem.W.findObj_own hh ha rfl (by rw [hl, hv])) hv' h
theorem get_meth {pl : Sem Bool} {Q : Value × List Value → Shared → Prop} (X : K.In s.heap) (I : ObjM s.heap x dx C mA) (hg : PySem.W.plainGet K C name = true)
    (hf : PySem.W.findIn K (.ref C) name = some (some (.ref f))) (ht : PySem.W.isFn K (.ref f) = true) (hv : mA name = none) (h : Q (.ref f, [.ref x]) s) :
    wpAny (model prog w) A (getMethod (.ref x) name pl) Q E s := by
  obtain ⟨od, J, hl⟩ := I.look
  exact PySem.W.method_fn X J (PySem.W.plainGet_of hg).1 (PySem.W.plainGet_of hg).2 hf (beq_iff_eq.mp ht) (by show (PySem.W.lookIn name od).map (·.isSome) = some false; rw [hl, hv]; rfl) h
theorem set_map {ns : List Str} {Q : Unit → Shared → Prop} (X : K.In s.heap) (I : ObjM s.heap x dx C mA)
    (hs : PySem.W.findIn K (.ref C) "__setattr__" = some (some (.builtin "object.__setattr__"))) (hp : PySem.W.plainOver K C = true) (ht : PySem.W.takerIn K C name = some none) (hh : PySem.W.hasDictIn K C = true)
    (hw : PySem.Within mA ns) (hsz : ns.length ≤ sizeLine)
    (h : ∀ h', ObjM h' x dx C (fun y => if y = name then some v else mA y) → Heap.SameBut dx s.heap h' → Q () { s with heap := h', toks := s.toks + 2 }) :
    wpAny (model prog w) A (setAttr (.ref x) name v) Q E s := by
  obtain ⟨od, J, hl⟩ := I.look
  refine PySem.W.set_plain X J hs (PySem.W.osa_open (s := { s with toks := s.toks + 1 }) (r := none) X J hp ht fun b => ?_)
  obtain ⟨cd, hc, hd'⟩ := PySem.W.any_some hh
  have hx : s.heap.get? x = some ⟨.ref C, some dx, .plain, #[]⟩ := I.obj
  refine wpAny_bind (wpAny_pure (wpAny_bind (wpAny_bind (wpAny_loadPart hx (wpAny_bind (PySem.W.Looks.here (s := { s with toks := s.toks + 1 }) (PySem.W.looks_clsIn X hc) ?_))))))
  rw [hd']
  refine wpAny_pure (a := some dx) (wpAny_bind (wpAny_pure (wpAny_bind ?_)))
  refine wpAny_nsSet1 (s := { s with toks := s.toks + 1 }) I.ns fun h' hn2 hs2 => ?_
  obtain ⟨oD, esD, epD, hoD, hdD, hcD⟩ := hn2.count (PySem.Within.cons name v hw)
  refine wpAny_bind (wpAny_lookBehind hoD (by rw [hdD]; exact pastItsLine_dict (Nat.le_trans hcD (by rw [List.length_cons]; omega))) ?_)
  exact wpAny_pure (h _ ⟨(hs2.2 _ (Ne.symm I.ne)).trans I.obj, hn2, I.ne⟩ hs2)
theorem make_map {R : Result → Shared → Prop} {vs : List Value} {kw : List (Str × Value)} (X : K.In s.heap) (hm : PySem.W.makesIn K C = true)
    (hi : PySem.W.findIn K (.ref C) "__init__" = some (some (.ref f))) (hf : PySem.W.typeIn K (.ref f) = some (.type "function"))
    (h : codeAny (model prog w) (A.under (.builtin "type.__call__" ⟨.ref C :: vs, kw⟩)) (.call (.ref f) ⟨.ref (s.heap.objs.size + 1) :: vs, kw⟩) (PySem.W.InitBack (s.heap.objs.size + 1) R)
      { s with heap := (s.heap.push PySem.W.emptyDict).push (PySem.W.instObj C s.heap.objs.size) }) :
    codeAny (model prog w) A (.call (.ref C) ⟨vs, kw⟩) R s := by
  obtain ⟨hh, g, d, t, os⟩ := s
  exact PySem.W.make_core (PySem.W.makes_of X hm) (PySem.W.looks_findIn X hi) (fun self => PySem.W.bind_fn X self hf) (.inl rfl) h
end
def putF (f : Str) (v : V) : List (Str × V) → List (Str × V)
  | [] => [(f, v)]
  | (g, x) :: r => if g = f then (g, v) :: r else (g, x) :: putF f v r
theorem lookup_putF (f g : Str) (v : V) : ∀ fs : List (Str × V), (putF f v fs).lookup g = if g = f then some v else fs.lookup g
  | [] => by
    show List.lookup g [(f, v)] = _
    by_cases h : g = f
    · have hb : (g == f) = true := beq_iff_eq.mpr h
      simp only [List.lookup, hb, if_pos h]
    · have hb : (g == f) = false := beq_eq_false_iff_ne.mpr h
      simp only [List.lookup, hb, if_neg h]
  | (k, x) :: r => by
    have ih := lookup_putF f g v r
    rw [show putF f v ((k, x) :: r) = (if k = f then (k, v) :: r else (k, x) :: putF f v r) from rfl]
    by_cases hk : k = f
    · rw [if_pos hk]
      by_cases h : g = k
      · have hb : (g == k) = true := beq_iff_eq.mpr h
        simp only [List.lookup, hb, if_pos (h.trans hk)]
      · have hb : (g == k) = false := beq_eq_false_iff_ne.mpr h
        simp only [List.lookup, hb, if_neg (fun e : g = f => h (e.trans hk.symm))]
    · rw [if_neg hk]
      by_cases h : g = k
      · have hb : (g == k) = true := beq_iff_eq.mpr h
        simp only [List.lookup, hb, if_neg (fun e : g = f => hk (h.symm.trans e))]
      · have hb : (g == k) = false := beq_eq_false_iff_ne.mpr h
        simp only [List.lookup, hb]
        exact ih
theorem keys_putF (f : Str) (v : V) : ∀ fs : List (Str × V), f ∈ (putF f v fs).map (·.1) ∧ ∀ g, g ∈ fs.map (·.1) → g ∈ (putF f v fs).map (·.1)
  | [] => ⟨by simp [putF], fun g h => by simp at h⟩
  | (k, x) :: r => by
    obtain ⟨i1, i2⟩ := keys_putF f v r
    rw [show putF f v ((k, x) :: r) = (if k = f then (k, v) :: r else (k, x) :: putF f v r) from rfl]
    by_cases hk : k = f
    · rw [if_pos hk]
      subst hk
      exact ⟨by simp, fun g h => by simpa using h⟩
    · rw [if_neg hk]
      refine ⟨?_, fun g h => ?_⟩
      · rw [List.map_cons]
        exact List.mem_cons_of_mem _ i1
      · rw [List.map_cons] at h ⊢
        rcases List.mem_cons.mp h with e | e
        · exact List.mem_cons.mpr (.inl e)
        · exact List.mem_cons_of_mem _ (i2 g e)
theorem length_putF (f : Str) (v : V) : ∀ fs : List (Str × V), (putF f v fs).length ≤ fs.length + 1
  | [] => by simp [putF]
  | (k, x) :: r => by
    have ih := length_putF f v r
    rw [show putF f v ((k, x) :: r) = (if k = f then (k, v) :: r else (k, x) :: putF f v r) from rfl]
    by_cases hk : k = f
    · rw [if_pos hk, List.length_cons, List.length_cons]; omega
    · rw [if_neg hk, List.length_cons, List.length_cons]; omega
theorem RelO.some_of {v : V} {o : Option Value} (r : RelO (some v) o) : ∃ u, o = some u ∧ RelV v u := by
  cases o with
  | none => exact (show False from r).elim
  | some u => exact ⟨u, rfl, r⟩
theorem RelO.none_of {o : Option Value} (r : RelO none o) : o = none := by
  cases o with
  | none => rfl
  | some u => exact (show False from r).elim
theorem handed_of {v : V} {u : Value} (r : RelV v u) : PySem.W.handedIn u = true := by
  cases v with
  | non => cases (show u = Value.none from r); rfl
  | bl b => cases (show u = Value.bool b from r); rfl
  | int i => obtain ⟨t, e⟩ := (show ∃ t, u = Value.int i t from r); cases e; rfl
  | str x => obtain ⟨t, e⟩ := (show ∃ t, u = Value.str x t from r); cases e; rfl
  | byt b => obtain ⟨t, e⟩ := (show ∃ t, u = Value.bytes b t from r); cases e; rfl
  | flt b => obtain ⟨t, e⟩ := (show ∃ t, u = Value.float b t from r); cases e; rfl
  | ref a => cases (show u = Value.ref a from r); rfl
  | ty n => cases (show u = Value.type n from r); rfl
section
variable {P : Program} {w : World} {H H' : Hp} {h h' : Heap} {a C dx : Addr} {fs fs' : List (Str × V)}
theorem ins_get (hok : HOk P w H h) (e : H a = some (.ins C dx fs)) : ∃ mA, ObjM h a dx C mA ∧ (∀ f, RelO (fs.lookup f) (mA f)) ∧ PySem.Within mA (fs.map (·.1)) ∧ fs.length ≤ 1000 ∧ H dx = some (.own a) := by
  obtain ⟨d, z, ne, ob, mA, n, r, q⟩ := (show ObjOk P w H h a (.ins C dx fs) from hok a _ e)
  exact ⟨mA, ⟨ob, n, ne⟩, r, q, z, d⟩
end
structure Cls (K : PySem.W.Frag) (C : Addr) : Prop where
  pg : PySem.W.plainGet K C Str.empty = true
  hd : PySem.W.hasDictIn K C = true
  po : PySem.W.plainOver K C = true
  sa : PySem.W.findIn K (.ref C) "__setattr__" = some (some (.builtin "object.__setattr__"))
theorem Cls.get {K : PySem.W.Frag} {C : Addr} (c : Cls K C) (f : Str) : PySem.W.plainGet K C f = true := c.pg
def NoAttr (K : PySem.W.Frag) (C : Addr) (f : Str) : Prop := PySem.W.findIn K (.ref C) f = some none
theorem NoAttr.taker {K : PySem.W.Frag} {C : Addr} {f : Str} (n : NoAttr K C f) : PySem.W.takerIn K C f = some none := by
  unfold PySem.W.takerIn
  rw [show PySem.W.findIn K (.ref C) f = some none from n]
  rfl
structure Meth (K : PySem.W.Frag) (C : Addr) (m : Str) (f : Addr) : Prop where
  at_ : PySem.W.findIn K (.ref C) m = some (some (.ref f))
  fn : PySem.W.isFn K (.ref f) = true
  kp : PySem.W.keepIn K (.ref f) = true
section
variable {X : Cx} {pins : List (Addr × Obj)} {σ : St} {H : Hp} {s : Shared} {a C dx : Addr} {fs : List (Str × V)} {f : Str} {v : V} {A : Around} {E : Value → Shared → Prop}
theorem getattr_ok {b : Bool} {Q : Value → Shared → Prop} (I : Inv X pins σ H s) (e : H a = some (.ins C dx fs)) (c : Cls X.K C) (n : NoAttr X.K C f) (l : fs.lookup f = some v)
    (h : ∀ u s', Inv X pins σ H s' → RelV v u → Q u s') : wpAny (model X.prog X.w) A (getAttr (.ref a) f b) Q E s := by
  obtain ⟨mA, O, r, _, _, _⟩ := ins_get I.hok e
  obtain ⟨u, hu, ru⟩ := RelO.some_of (v := v) (o := mA f) (by rw [← l]; exact r f)
  exact get_map I.kIn O (c.get f) c.hd n hu (handed_of ru) (h u _ (I.tok _) ru)
theorem getmeth_ok {m : Str} {g : Addr} {pl : Sem Bool} {Q : Value × List Value → Shared → Prop} (I : Inv X pins σ H s) (e : H a = some (.ins C dx fs)) (c : Cls X.K C) (k : Meth X.K C m g) (l : fs.lookup m = none)
    (h : Q (.ref g, [.ref a]) s) : wpAny (model X.prog X.w) A (getMethod (.ref a) m pl) Q E s := by
  obtain ⟨mA, O, r, _, _, _⟩ := ins_get I.hok e
  have hn : mA m = none := RelO.none_of (by rw [← l]; exact r m)
  exact get_meth I.kIn O (c.get m) k.at_ k.fn hn h
theorem setattr_ok {y : V} {u : Value} {Q : Unit → Shared → Prop} (I : Inv X pins σ H s) (e : H a = some (.ins C dx fs)) (c : Cls X.K C) (n : NoAttr X.K C f) (hl : fs.length < 1000) (ry : RelV y u)
    (h : ∀ s', Inv X pins σ (upd H a (.ins C dx (putF f y fs))) s' → Q () s') : wpAny (model X.prog X.w) A (setAttr (.ref a) f u) Q E s := by
  obtain ⟨mA, O, r, wi, _, ho⟩ := ins_get I.hok e
  have hz : (fs.map (·.1)).length ≤ sizeLine := by rw [List.length_map, sizeLine_eq]; omega
  refine set_map I.kIn O c.sa c.po n.taker c.hd wi hz fun h' O' sb => h _ ?_
  have hd : ∃ o, h'.get? dx = some o := let ⟨o, _, _, e', _⟩ := O'.ns; ⟨o, e'⟩
  refine I.write (x := a) (e := dx) (by rw [e]; exact True.intro) (.inr ho) (fun b q hb z => (sb.2 b hb).trans z) hd ?_
  refine ⟨by rw [upd_ne O.ne]; exact ho, ?_, O.ne, O'.obj, _, O'.ns, fun g => ?_, fun g hg => ?_⟩
  · have := length_putF f y fs; omega
  · show RelO ((putF f y fs).lookup g) (if g = f then some u else mA g)
    rw [lookup_putF]
    by_cases q : g = f
    · rw [if_pos q, if_pos q]; exact ry
    · rw [if_neg q, if_neg q]; exact r g
  · by_cases q : g = f
    · rw [q]; exact (keys_putF f y fs).1
    · refine (keys_putF f y fs).2 g (wi g fun z => hg ?_)
      show (if g = f then some u else mA g) = none
      rw [if_neg q]; exact z
theorem Inv.made (I : Inv X pins σ H s) : Inv X pins σ (upd (upd H s.heap.objs.size (.own (s.heap.objs.size + 1))) (s.heap.objs.size + 1) (.ins C s.heap.objs.size []))
    { s with heap := (s.heap.push PySem.W.emptyDict).push (PySem.W.instObj C s.heap.objs.size) } := by
  have e1 : (s.heap.push PySem.W.emptyDict).get? s.heap.objs.size = some PySem.W.emptyDict := Heap.get?_push_size s.heap rfl
  have e2 : ((s.heap.push PySem.W.emptyDict).push (PySem.W.instObj C s.heap.objs.size)).get? (s.heap.objs.size + 1) = some (PySem.W.instObj C s.heap.objs.size) := by
    have := Heap.get?_push_size (s.heap.push PySem.W.emptyDict) (o := PySem.W.instObj C s.heap.objs.size) rfl
    rwa [Heap.size_push] at this
  have e3 : (s.heap.push PySem.W.emptyDict).Ns s.heap.objs.size (fun _ => none) := ⟨PySem.W.emptyDict, #[], _, e1, rfl, (fun e he => absurd he (by simp)), fun _ => rfl⟩
  have I1 := I.laid (a := s.heap.objs.size) (o := .own (s.heap.objs.size + 1)) (h' := s.heap.push PySem.W.emptyDict) (t' := s.toks) (fun b u q => Heap.get?_push_of_some _ q) (Nat.le_refl _) ⟨_, e1⟩
  refine I1.laid (a := s.heap.objs.size + 1) (o := .ins C s.heap.objs.size []) (t' := s.toks) (fun b u q => Heap.get?_push_of_some _ q) (Nat.le_of_eq (Heap.size_push _ _)) ?_
  have ne : s.heap.objs.size ≠ s.heap.objs.size + 1 := Nat.ne_of_lt (Nat.lt_succ_self _)
  refine ⟨by rw [upd_ne ne, upd_same], Nat.zero_le _, ne, e2, fun _ => none, (Heap.Ns1.of_empty e3).at fun o q => Heap.get?_push_of_some _ q, fun _ => True.intro, fun y hy => absurd rfl hy⟩
theorem attr_of {prog : Program} {w : World} {env : Env} {e : Expr} {f : Str} {pos : Pos} {s : Shared} {Q : Value → Shared → Prop} (hb : attributeBase e f env (eval e env) = eval e env)
    (h : wpAny (model prog w) A (eval e env) (fun o s₁ => wpAny (model prog w) A (getAttr o f true) Q E s₁) E s) : wpAny (model prog w) A (eval (.Attribute e f pos) env) Q E s :=
  Attribute_any_ h (by rw [arm_eval_Attribute, hb])
end
def tFld (K : PySem.W.Frag) (ta : TE) (f : Str) : TE := fun σ H Q => ta σ H fun x H1 => ∃ a C dx fs v, x = .ref a ∧ H1 a = some (.ins C dx fs) ∧ Cls K C ∧ NoAttr K C f ∧ fs.lookup f = some v ∧ Q v H1
def sFld (K : PySem.W.Frag) (ta tv : TE) (f : Str) : TS := fun D σ H => tv σ H fun y H1 => ta σ H1 fun x H2 => ∃ a C dx fs, x = .ref a ∧ H2 a = some (.ins C dx fs) ∧ Cls K C ∧ NoAttr K C f ∧ fs.length < 1000 ∧
  D.nx σ (upd H2 a (.ins C dx (putF f y fs)))
def InOp (X : Cx) (op : Operator) (rd : V → V → Hp → VK → Prop) : Prop :=
  ∀ (pins : List (Addr × Obj)) (s : Shared) (σ : St) (H : Hp) (x y : V) (u v : Value) (Q : VK), Inv X pins σ H s → RelV x u → RelV y v → rd x y H Q → wpAny (model X.prog X.w) X.A (inplaceOp op u v) (EP X pins σ Q) X.xe s
def sFldAug (K : PySem.W.Frag) (ta tv : TE) (rd : V → V → Hp → VK → Prop) (f : Str) : TS := fun D σ H => ta σ H fun x H1 => ∃ a C dx fs v, x = .ref a ∧ H1 a = some (.ins C dx fs) ∧ Cls K C ∧ NoAttr K C f ∧ fs.lookup f = some v ∧
  tv σ H1 fun y H2 => rd v y H2 fun z H3 => ∃ dx' fs', H3 a = some (.ins C dx' fs') ∧ fs'.length < 1000 ∧ D.nx σ (upd H3 a (.ins C dx' (putF f z fs')))
section
variable {X : Cx} {o e value : Expr} {f : Str} {pos pos' tpos : Pos} {ta tv : TE}
theorem pe_fld (he : PE X e ta) (hb : attributeBase e f X.env (eval e X.env) = eval e X.env) : PE X (.Attribute e f pos) (tFld X.K ta f) := by
  intro pins s σ H Q I h
  refine attr_of hb (thn (he pins s σ H _ I h) fun u s1 ⟨x, H1, I1, rx, a, C, dx, fs, v, ex, ea, c, n, l, q⟩ => ?_)
  subst ex
  obtain rfl : u = Value.ref a := rx
  exact getattr_ok I1 ea c n l fun u' s2 I2 ru => ⟨v, H1, I2, ru, q⟩
theorem ps_fld (ha : PE X o ta) (hv : PE X value tv) (hs : swapsWith value (some (.Attribute o f pos')) pos.line X.env = pure false) : PS X (.Assign [.Attribute o f pos'] value pos) (sFld X.K ta tv f) := by
  intro pins s σ H D I h
  refine plainObj_wpAny_Assign_Attribute (thn (hv pins s σ H _ I h) fun u s1 ⟨y, H1, I1, ry, q⟩ => thn (ha pins s1 σ H1 _ I1 q) fun ov s2 ⟨x, H2, I2, rx, a, C, dx, fs, ex, ea, c, n, l, q2⟩ => ?_) hs
  subst ex
  obtain rfl : ov = Value.ref a := rx
  exact setattr_ok I2 ea c n l ry fun s3 I3 => ⟨σ, _, I3, q2⟩
theorem ps_fldaug {op : Operator} {rd : V → V → Hp → VK → Prop} (ha : PE X o ta) (hv : PE X value tv) (hop : InOp X op rd) : PS X (.AugAssign (.Attribute o f tpos) op value pos) (sFldAug X.K ta tv rd f) := by
  intro pins s σ H D I h
  refine wpAny_AugAssign_AttributeAny (thn (ha pins s σ H _ I h) fun ov s1 ⟨x, H1, I1, rx, a, C, dx, fs, v, ex, ea, c, n, l, q⟩ => ?_)
  subst ex
  obtain rfl : ov = Value.ref a := rx
  refine getattr_ok I1 ea c n l fun u s2 I2 ru => thn (hv pins s2 σ H1 _ I2 q) fun w3 s3 ⟨y, H2, I3, ry, q3⟩ => thn (hop pins s3 σ H2 v y u w3 _ I3 ru ry q3) fun w4 s4 ⟨z, H3, I4, rz, dx', fs', ea', l', q4⟩ => ?_
  exact setattr_ok I4 ea' c n l' rz fun s5 I5 => ⟨σ, _, I5, q4⟩
def rAdd : V → V → Hp → VK → Prop := fun x y H Q => ∃ i j, x = .int i ∧ y = .int j ∧ Q (.int (i + j)) H
theorem in_add : InOp X .Add rAdd := by
  rintro pins s σ H x y u v Q I rx ry ⟨i, j, rfl, rfl, q⟩
  obtain ⟨t, rfl⟩ := (show ∃ t, u = Value.int i t from rx)
  obtain ⟨t', rfl⟩ := (show ∃ t', v = Value.int j t' from ry)
  exact PyProof.Rows.iadd_int ⟨.int (i + j), H, I.tok _, ⟨_, rfl⟩, q⟩
end
section
variable {X : Cx} {pins : List (Addr × Obj)} {σ : St} {H : Hp} {s : Shared} {A : Around} {E : Value → Shared → Prop} {Q : Value → Shared → Prop} {c : Value} {b : Bool}
end
end L2
namespace L2
open PySem PySem.Spec PyProof.Rows
structure Room (k : Nat) (A : Around) : Prop where
  hd : A.handled = none
  dp : A.depth + 3 * k + 5 < recursionLimit
  un : A.units + 16 * k + 200 < cLine
theorem Room.mono {j k : Nat} {A : Around} (r : Room k A) (h : j ≤ k) : Room j A := ⟨r.hd, by have := r.dp; omega, by have := r.un; omega⟩
theorem Room.deeper {k : Nat} {A : Around} (r : Room (k + 1) A) (env : Env) : Room k (A.deeper env) :=
  ⟨r.hd, by have := r.dp; show A.depth + 1 + 3 * k + 5 < _; omega, by have := r.un; show A.units + 3 + 16 * k + 200 < _; omega⟩
theorem make_depth {A : Around} {C : Addr} {us : List Value} {kw : List (Str × Value)} : (A.under (.builtin "type.__call__" ⟨.ref C :: us, kw⟩)).depth = A.depth + 1 := by
  first | rfl | simp [Around.under, Code.weight, Code.isCreation, Code.isGuard, Code.isCaller, Code.frames, Code.isFrame, guardIds]
theorem make_units {A : Around} {C : Addr} {us : List Value} {kw : List (Str × Value)} : (A.under (.builtin "type.__call__" ⟨.ref C :: us, kw⟩)).units = A.units + 1 := by
  first | rfl | simp [Around.under, Code.cUnits, Code.frames, Code.isFrame]
theorem Room.make {k : Nat} {A : Around} (r : Room (k + 1) A) (C : Addr) (us : List Value) (kw : List (Str × Value)) : Room k (A.under (.builtin "type.__call__" ⟨.ref C :: us, kw⟩)) :=
  ⟨r.hd, by have := r.dp; rw [make_depth]; omega, by have := r.un; rw [make_units]; omega⟩
theorem Room.depth {k : Nat} {A : Around} (r : Room k A) : A.depth < recursionLimit := by have := r.dp; omega
theorem Room.units {k : Nat} {A : Around} (r : Room k A) : A.units + 64 < cLine := by have := r.un; omega
def tNil : TA := fun _ H Q => Q [] H
def tCons (ta : TE) (tr : TA) : TA := fun σ H Q => ta σ H fun x H1 => tr σ H1 fun xs H2 => Q (x :: xs) H2
section
variable {X : Cx} {e : Expr} {es : List Expr} {te : TE} {t : TA} {pos : Pos}
theorem pa_nil : PA X [] tNil := fun _ _ _ _ H Q I h => Calls.spliced_nil ⟨[], H, I, .nil, h⟩
theorem pa_cons (ha : PE X e te) (hr : PA X es t) (hs : starEach (e :: es) X.env = (false, eval e X.env) :: starEach es X.env := by rfl) : PA X (e :: es) (tCons te t) := by
  intro pos pins s σ H Q I h
  rw [hs]
  show wpAny _ _ (spliced ((false, eval e X.env) :: backTo pos (starEach es X.env))) _ _ s
  refine Calls.spliced_cons (thn (ha pins s σ H _ I h) fun u s1 ⟨x, H1, I1, r1, q1⟩ => ?_)
  exact thn (hr pos pins s1 σ H1 _ I1 q1) fun us s2 ⟨xs, H2, I2, r2, q2⟩ => ⟨x :: xs, H2, I2, .cons r1 r2, q2⟩
def tTup (t : TA) : TE := fun σ H Q => t σ H fun xs H1 => xs.length ≤ sizeLine ∧ ∀ p, H1 p = none → Q (.ref p) (upd H1 p (.tup xs))
def tLst (t : TA) : TE := fun σ H Q => t σ H fun xs H1 => xs.length ≤ sizeLine ∧ ∀ p, H1 p = none → Q (.ref p) (upd H1 p (.lst xs))
theorem pe_tup {x1} (h : PA X es t) : PE X (.Tuple es x1 pos) (tTup t) := by
  intro pins s σ H Q I hq
  refine wpAny_Tuple_spliced (thn (h pos pins s σ H _ I hq) fun us s1 ⟨xs, H1, I1, r, z, q⟩ => ⟨by rw [← r.length]; exact z, ?_⟩)
  have hf : H1 s1.heap.objs.size = none := I1.hok.fresh (Nat.le_refl _)
  refine ⟨.ref s1.heap.objs.size, upd H1 s1.heap.objs.size (.tup xs), I1.laid (t' := s1.toks) (fun b u e => Heap.get?_push_of_some _ e) (Nat.le_refl _) ?_, rfl, q _ hf⟩
  exact ⟨z, us, r, ⟨_, Heap.get?_push_size _ rfl, rfl, _, rfl⟩⟩
theorem pe_lst (h : PA X es t) : PE X (.List es pos) (tLst t) := by
  intro pins s σ H Q I hq
  refine wpAny_List_spliced (thn (h pos pins s σ H _ I hq) fun us s1 ⟨xs, H1, I1, r, z, q⟩ => ⟨by rw [← r.length]; exact z, ?_⟩)
  have hf : H1 s1.heap.objs.size = none := I1.hok.fresh (Nat.le_refl _)
  refine ⟨.ref s1.heap.objs.size, upd H1 s1.heap.objs.size (.lst xs), I1.laid (t' := s1.toks) (fun b u e => Heap.get?_push_of_some _ e) (Nat.le_refl _) ?_, rfl, q _ hf⟩
  exact ⟨z, us, 0, r, Heap.get?_push_size _ rfl⟩
end
abbrev Sp := List V → Hp → VK → XK → Prop
abbrev CXT := List Env → Hp → Shared → XK → Value → Shared → Prop
structure Env0 (P : Program) (w : World) (K : PySem.W.Frag) (mg : Str → Option Value) (base : Heap) (A : Around) (outer : List Env) (s : Shared) (H : Hp) : Prop where
  frames : A.frames = some outer
  mod : Mod K mg base
  bs : ∀ b o, base.get? b = some o → s.heap.get? b = some o ∧ H b = none
  bsz : base.objs.size ≤ s.heap.objs.size
  funs : s.heap.FunFrames base outer
  frf : ∀ b ∈ frs outer, H b = none
  hok : HOk P w H s.heap
  bare : AllBare s.gens
def CE (outer : List Env) (P : Program) (w : World) (H : Hp) (s : Shared) (Q : VK) (u : Value) (s' : Shared) : Prop :=
  ∃ v H', s'.os = s.os ∧ AllBare s'.gens ∧ Un (frs outer) [] H H' s.heap s'.heap ∧ HOk P w H' s'.heap ∧ RelV v u ∧ Q v H'
def CR (CX : CXT) (outer : List Env) (P : Program) (w : World) (H : Hp) (s : Shared) (Q : VK) (E : XK) (r : Result) (s' : Shared) : Prop :=
  match r with
  | .ok (.ret u) => CE outer P w H s Q u s'
  | .ok _ => False
  | .error e => CX outer H s E e s'
structure FnOk (P : Program) (w : World) (K : PySem.W.Frag) (mg : Str → Option Value) (base : Heap) (CX : CXT) (k : Nat) (f : Addr) (fd : FuncData) (ps : List Str) (sp : Sp) : Prop where
  len : ∀ vs H Q E, sp vs H Q E → vs.length = ps.length
  run : ∀ (A : Around) (outer : List Env) (s : Shared) (H : Hp) (args : Args) (us : List Value) (vs : List V) (Q : VK) (E : XK), Room k A → Env0 P w K mg base A outer s H → BindsTo s fd args (ps.zip us) → Vals vs us → sp vs H Q E →
    codeAny (model P w) A (.call (.ref f) args) (CR CX outer P w H s Q E) s
theorem Env0.make {P : Program} {w : World} {K : PySem.W.Frag} {mg : Str → Option Value} {base : Heap} {A : Around} {outer : List Env} {s : Shared} {H : Hp} (e : Env0 P w K mg base A outer s H) (C : Addr) (us : List Value) (kw : List (Str × Value)) :
    Env0 P w K mg base (A.under (.builtin "type.__call__" ⟨.ref C :: us, kw⟩)) outer s H := ⟨by first | exact e.frames | (simpa [Around.under, Code.envs, Code.isFrame, pushEnvs] using e.frames), e.mod, e.bs, e.bsz, e.funs, e.frf, e.hok, e.bare⟩
section
variable {X : Cx} {pins : List (Addr × Obj)} {σ : St} {H : Hp} {s s' : Shared}
theorem Inv.env0 (I : Inv X pins σ H s) : Env0 X.prog X.w X.K X.mg X.base X.A X.stack s H :=
  ⟨I.ok.frames, I.ok.mod, I.bs, Nat.le_trans I.ok.bsz I.sz, I.stack, I.stkFree, I.hok, I.bare⟩
theorem Inv.after {Q : VK} {u : Value} (I : Inv X pins σ H s) (h : CE X.stack X.prog X.w H s Q u s') : EP X pins σ Q u s' := by
  obtain ⟨v, H', os, bare, un, hok, r, q⟩ := h
  obtain ⟨hh, g, d, t, os'⟩ := s'
  obtain rfl : os' = s.os := os
  exact ⟨v, H', I.call (h' := hh) (g' := g) (d' := d) (t' := t) (ch := []) un hok bare (fun b z => absurd z (by simp)), r, q⟩
end
def tCall (sp : Sp) (dvs : List V) (E : XK) (t : TA) : TE := fun σ H Q => t σ H fun vs H1 => sp (vs ++ dvs) H1 Q E
def tMeth (C : Addr) (m : Str) (sp : Sp) (dvs : List V) (E : XK) (ta : TE) (t : TA) : TE := fun σ H Q => ta σ H fun x H1 => ∃ a dx fs, x = .ref a ∧ H1 a = some (.ins C dx fs) ∧ fs.lookup m = none ∧
  t σ H1 fun vs H2 => sp (x :: (vs ++ dvs)) H2 Q E
def tMake (C : Addr) (sp : Sp) (dvs : List V) (E : XK) (t : TA) : TE := fun σ H Q => t σ H fun vs H1 => ∀ x dx, H1 x = none → H1 dx = none → dx ≠ x →
  sp (.ref x :: (vs ++ dvs)) (upd (upd H1 dx (.own x)) x (.ins C dx [])) (fun v H2 => v = .non ∧ Q (.ref x) H2) E
def Binds (K : PySem.W.Frag) (fd : FuncData) (ps : List Str) (ds : List Value) : Prop :=
  ∀ (s : Shared) (us : List Value), K.In s.heap → (us ++ ds).length = ps.length → BindsTo s fd ⟨us, []⟩ (ps.zip (us ++ ds))
theorem Binds.all {K : PySem.W.Frag} {fd : FuncData} {ps : List Str} (h : ∀ us : List Value, us.length = ps.length → bindArgs fd ⟨us, []⟩ = pure (ps.zip us)) : Binds K fd ps [] := fun s us _ hl => by
  rw [List.append_nil] at hl ⊢
  exact .of_eq (h us hl)
def Passes (CX : CXT) (X : Cx) (E : XK) : Prop := ∀ (pins : List (Addr × Obj)) (σ : St) (H : Hp) (s : Shared) (e : Value) (s' : Shared), Inv X pins σ H s → CX X.stack H s E e s' → X.xe e s'
section
variable {X : Cx} {CX : CXT} {k : Nat} {f C : Addr} {fd : FuncData} {ps : List Str} {sp : Sp} {dvs : List V} {ds : List Value} {E : XK} {x m : Str} {p pos apos : Pos} {e o : Expr} {es : List Expr} {ta : TE} {t : TA}
theorem run_fn {pins : List (Addr × Obj)} {σ : St} {H : Hp} {s : Shared} {Q : VK} {us : List Value} {vs : List V} (F : FnOk X.prog X.w X.K X.mg X.base CX k f fd ps sp) (hr : Room k X.A) (hb : Binds X.K fd ps ds) (hd : Vals dvs ds) (hx : Passes CX X E)
    (I : Inv X pins σ H s) (r : Vals vs us) (h : sp (vs ++ dvs) H Q E) : wpAny (model X.prog X.w) X.A (call (.ref f) us) (EP X pins σ Q) X.xe s := by
  have r2 : Vals (vs ++ dvs) (us ++ ds) := r.append hd
  have hl : (us ++ ds).length = ps.length := by rw [← r2.length]; exact F.len _ _ _ _ h
  refine wpAny_call (codeAny_mono (F.run X.A X.stack s H ⟨us, []⟩ (us ++ ds) (vs ++ dvs) Q E hr I.env0 (hb s us I.kIn hl) r2 h) fun r s' hq => ?_)
  cases r with
  | error e => exact hx pins σ H s e s' I hq
  | ok fl =>
    cases fl with
    | ret u => exact I.after hq
    | next => exact False.elim hq
    | brk => exact False.elim hq
    | cont => exact False.elim hq
theorem pe_call (F : FnOk X.prog X.w X.K X.mg X.base CX k f fd ps sp) (hr : Room k X.A) (hg : Gl X x) (hm : X.mg x = some (.ref f)) (hk : PySem.W.keepIn X.K (.ref f) = true) (hb : Binds X.K fd ps ds) (hd : Vals dvs ds) (hx : Passes CX X E)
    (ha : PA X (e :: es) t) (hdb : (x == ("__debug__" : Str)) = false := by decide) (he : starEach (e :: es) X.env = (false, eval e X.env) :: starEach es X.env := by rfl) (hpl : (backTo pos (starEach es X.env)).any (·.1) = false := by rfl) :
    PE X (.Call (.Name x p) (e :: es) [] pos) (tCall sp dvs E t) := by
  intro pins s σ H Q I h
  refine wpAny_Call_Name_kw (ld_glob I hg hm ?_ hdb)
  refine PySem.W.callWith_K (h₀ := X.base) I.ok.mod.kin hk (thn (ha pos pins s σ H _ I h) fun us s1 ⟨vs, H1, I1, r, q⟩ => ⟨I1.kIn, ?_⟩) he hpl
  exact run_fn F hr hb hd hx I1 r q
theorem pe_call0 (F : FnOk X.prog X.w X.K X.mg X.base CX k f fd ps sp) (hr : Room k X.A) (hg : Gl X x) (hm : X.mg x = some (.ref f)) (hk : PySem.W.keepIn X.K (.ref f) = true) (hb : Binds X.K fd ps ds) (hd : Vals dvs ds) (hx : Passes CX X E)
    (hdb : (x == ("__debug__" : Str)) = false := by decide) : PE X (.Call (.Name x p) [] [] pos) (tCall sp dvs E tNil) := by
  intro pins s σ H Q I h
  refine wpAny_Call_Name_kw (ld_glob I hg hm ?_ hdb)
  exact PySem.W.callWith_K0 I.kIn hk (run_fn (us := []) F hr hb hd hx I .nil h)
theorem pe_meth {pl : Sem Bool} (he : PE X o ta) (c : Cls X.K C) (hm : Meth X.K C m f) (F : FnOk X.prog X.w X.K X.mg X.base CX k f fd ps sp) (hr : Room k X.A) (hb : Binds X.K fd ps ds) (hd : Vals dvs ds) (hx : Passes CX X E) (ha : PA X (e :: es) t)
    (hst : starEach (e :: es) X.env = (false, eval e X.env) :: starEach es X.env := by rfl) (hpl : (backTo pos (starEach es X.env)).any (·.1) = false := by rfl)
    (ht : eval (.Call (.Attribute o m apos) (e :: es) [] pos) X.env = (do
      let ov ← eval o X.env
      standAt apos.atName
      let (f, first) ← holding [ov] (getMethod ov m pl)
      callWith pos f first (backTo pos (starEach (e :: es) X.env)) (backToKw pos (keywordEach [] X.env))) := by rfl) :
    PE X (.Call (.Attribute o m apos) (e :: es) [] pos) (tMeth C m sp dvs E ta t) := by
  intro pins s σ H Q I h
  refine PySem.W.methodCall_KW (pl := pl) (thn (he pins s σ H _ I h) fun u s1 ⟨x, H1, I1, rx, a, dx, fs, ex, ea, l, q⟩ => ?_) ht
  subst ex
  obtain rfl : u = Value.ref a := rx
  refine getmeth_ok I1 ea c hm l ?_
  refine PySem.W.callWith_K (first := [.ref a]) (h₀ := X.base) I.ok.mod.kin hm.kp (thn (ha pos pins s1 σ H1 _ I1 q) fun us s2 ⟨vs, H2, I2, r, q2⟩ => ⟨I2.kIn, ?_⟩) hst hpl
  exact run_fn (us := .ref a :: us) (vs := .ref a :: vs) F hr hb hd hx I2 (.cons rfl r) q2
theorem pe_meth0 {pl : Sem Bool} (he : PE X o ta) (c : Cls X.K C) (hm : Meth X.K C m f) (F : FnOk X.prog X.w X.K X.mg X.base CX k f fd ps sp) (hr : Room k X.A) (hb : Binds X.K fd ps ds) (hd : Vals dvs ds) (hx : Passes CX X E)
    (ht : eval (.Call (.Attribute o m apos) [] [] pos) X.env = (do
      let ov ← eval o X.env
      standAt apos.atName
      let (f, first) ← holding [ov] (getMethod ov m pl)
      callWith pos f first (backTo pos (starEach [] X.env)) (backToKw pos (keywordEach [] X.env))) := by rfl) :
    PE X (.Call (.Attribute o m apos) [] [] pos) (tMeth C m sp dvs E ta tNil) := by
  intro pins s σ H Q I h
  refine PySem.W.methodCall_KW (pl := pl) (thn (he pins s σ H _ I h) fun u s1 ⟨x, H1, I1, rx, a, dx, fs, ex, ea, l, q⟩ => ?_) ht
  subst ex
  obtain rfl : u = Value.ref a := rx
  refine getmeth_ok I1 ea c hm l ?_
  exact PySem.W.callWith_K0 (first := [.ref a]) I1.kIn hm.kp (run_fn (us := [.ref a]) (vs := [.ref a]) F hr hb hd hx I1 (.cons rfl .nil) q)
structure Mk (K : PySem.W.Frag) (C f : Addr) : Prop where
  makes : PySem.W.makesIn K C = true
  init : PySem.W.findIn K (.ref C) "__init__" = some (some (.ref f))
  fn : PySem.W.isFn K (.ref f) = true
  kp : PySem.W.keepIn K (.ref C) = true
theorem run_make {pins : List (Addr × Obj)} {σ : St} {H : Hp} {s : Shared} {Q : VK} {us : List Value} {vs : List V} (M : Mk X.K C f) (F : FnOk X.prog X.w X.K X.mg X.base CX k f fd ps sp) (hr : Room (k + 1) X.A) (hb : Binds X.K fd ps ds) (hd : Vals dvs ds)
    (hx : Passes CX X E) (I : Inv X pins σ H s) (r : Vals vs us)
    (h : ∀ x dx, H x = none → H dx = none → dx ≠ x → sp (.ref x :: (vs ++ dvs)) (upd (upd H dx (.own x)) x (.ins C dx [])) (fun v H2 => v = .non ∧ Q (.ref x) H2) E) :
    wpAny (model X.prog X.w) X.A (call (.ref C) us) (EP X pins σ Q) X.xe s := by
  have hq := h (s.heap.objs.size + 1) s.heap.objs.size (I.hok.fresh (Nat.le_succ _)) (I.hok.fresh (Nat.le_refl _)) (Nat.ne_of_lt (Nat.lt_succ_self _))
  have I2 := Inv.made (C := C) I
  have r2 : Vals (V.ref (s.heap.objs.size + 1) :: (vs ++ dvs)) (Value.ref (s.heap.objs.size + 1) :: (us ++ ds)) := .cons rfl (r.append hd)
  have hl : (Value.ref (s.heap.objs.size + 1) :: us ++ ds).length = ps.length := by
    have e := r2.length
    rw [F.len _ _ _ _ hq] at e
    exact e.symm
  refine wpAny_call (make_map (f := f) I.kIn M.makes M.init (beq_iff_eq.mp M.fn) (codeAny_mono (F.run _ X.stack _ _ ⟨Value.ref (s.heap.objs.size + 1) :: us, []⟩ (Value.ref (s.heap.objs.size + 1) :: (us ++ ds)) _ _ E (hr.make C us [])
    (I2.env0.make C us []) (hb _ (Value.ref (s.heap.objs.size + 1) :: us) I2.kIn hl) r2 hq) fun r s' hq' => ?_))
  cases r with
  | error e => exact hx pins σ _ _ e s' I2 hq'
  | ok fl =>
    cases fl with
    | ret u =>
      obtain ⟨v, H', I3, rv, ev, q3⟩ := I2.after hq'
      subst ev
      exact ⟨rv, ⟨V.ref (s.heap.objs.size + 1), H', I3, rfl, q3⟩⟩
    | next => exact False.elim hq'
    | brk => exact False.elim hq'
    | cont => exact False.elim hq'
theorem pe_make0 (M : Mk X.K C f) (F : FnOk X.prog X.w X.K X.mg X.base CX k f fd ps sp) (hr : Room (k + 1) X.A) (hg : Gl X x) (hm : X.mg x = some (.ref C)) (hb : Binds X.K fd ps ds) (hd : Vals dvs ds) (hx : Passes CX X E)
    (hdb : (x == ("__debug__" : Str)) = false := by decide) : PE X (.Call (.Name x p) [] [] pos) (tMake C sp dvs E tNil) := by
  intro pins s σ H Q I h
  refine wpAny_Call_Name_kw (ld_glob I hg hm ?_ hdb)
  exact PySem.W.callWith_K0 I.kIn M.kp (run_make (us := []) M F hr hb hd hx I .nil h)
end
section
variable {X : Cx} {CX : CXT} {k : Nat} {f C : Addr} {fd : FuncData} {ps ks : List Str} {sp : Sp} {E : XK} {x m : Str} {p pos apos kpos : Pos} {e o : Expr} {es : List Expr} {kws : List Keyword} {te ta : TE} {t tk : TA} {nm : Option Str}
variable {g : List Value → List Value → List Value} {gV : List V → List V → List V}
end
structure FnScope (N P : List Str) (sc : Scope) : Prop where
  kind : sc.kind = .function
  co : sc.isCoroutine = false
  gen : sc.isGenerator = false
  nd : N.Nodup
  pre : N.take P.length = P
  par : ∀ x ∈ P, sc.names.lookup x = some .local ∨ sc.names.lookup x = some .cell
  nofree : ∀ y ∈ sc.names, y.2 ≠ .free
theorem bindL_out {kindOf : Str → Option NameKind} {x : Str} : ∀ {binds : List (Str × Value)} {m : Str → Option Value}, (∀ v, (x, v) ∉ binds) → bindL kindOf binds m x = m x
  | [], _, _ => rfl
  | (n, v) :: r, m, h => by
    unfold bindL
    rw [bindL_out fun w hw => h w (List.mem_cons_of_mem _ hw)]
    split
    · have : x ≠ n := by rintro rfl; exact h v List.mem_cons_self
      simp [this]
    · rfl
theorem bindC_out {kindOf : Str → Option NameKind} {x : Str} : ∀ {binds : List (Str × Value)} {m : Str → Option Value}, (∀ v, (x, v) ∉ binds) → bindC kindOf binds m x = m x
  | [], _, _ => rfl
  | (n, v) :: r, m, h => by
    unfold bindC
    rw [bindC_out fun w hw => h w (List.mem_cons_of_mem _ hw)]
    split
    · rfl
    · have : x ≠ n := by rintro rfl; exact h v List.mem_cons_self
      simp [this]
theorem bindL_get {kindOf : Str → Option NameKind} {x : Str} {v : Value} : ∀ {P : List Str} {vs : List Value} {i : Nat} {m : Str → Option Value}, P.Nodup → P[i]? = some x → vs[i]? = some v → kindOf x = some .local →
    bindL kindOf (P.zip vs) m x = some v
  | [], _, _, _, _, h, _, _ => by simp at h
  | _ :: _, [], _, _, _, _, h, _ => by simp at h
  | p :: P, w :: vs, 0, m, nd, h1, h2, hk => by
    simp at h1 h2; subst h1; subst h2
    show bindL kindOf ((p, w) :: P.zip vs) m p = _
    unfold bindL
    rw [bindL_out fun v hv => (List.nodup_cons.mp nd).1 (List.of_mem_zip hv).1, if_pos hk]
    simp
  | p :: P, w :: vs, i + 1, m, nd, h1, h2, hk => by
    show bindL kindOf ((p, w) :: P.zip vs) m x = _
    unfold bindL
    exact bindL_get (i := i) (List.nodup_cons.mp nd).2 (by simpa using h1) (by simpa using h2) hk
theorem bindC_get {kindOf : Str → Option NameKind} {x : Str} {v : Value} : ∀ {P : List Str} {vs : List Value} {i : Nat} {m : Str → Option Value}, P.Nodup → P[i]? = some x → vs[i]? = some v → kindOf x ≠ some .local →
    bindC kindOf (P.zip vs) m x = some v
  | [], _, _, _, _, h, _, _ => by simp at h
  | _ :: _, [], _, _, _, _, h, _ => by simp at h
  | p :: P, w :: vs, 0, m, nd, h1, h2, hk => by
    simp at h1 h2; subst h1; subst h2
    show bindC kindOf ((p, w) :: P.zip vs) m p = _
    unfold bindC
    rw [bindC_out fun v hv => (List.nodup_cons.mp nd).1 (List.of_mem_zip hv).1, if_neg hk]
    simp
  | p :: P, w :: vs, i + 1, m, nd, h1, h2, hk => by
    show bindC kindOf ((p, w) :: P.zip vs) m x = _
    unfold bindC
    exact bindC_get (i := i) (List.nodup_cons.mp nd).2 (by simpa using h1) (by simpa using h2) hk
def start (N : List Str) (vs : List V) : St := vs.map some ++ List.replicate (N.length - vs.length) none
def cxOf (CX : CXT) (P : Program) (w : World) (K : PySem.W.Frag) (mg : Str → Option Value) (base : Heap) (N : List Str) (qual : Str) (scope : Scope) (f : Addr) (cd : Value) (A : Around) (outer : List Env) (s : Shared) (H : Hp) (E : XK) : Cx where
  prog := P
  w := w
  K := K
  mg := mg
  base := base
  A := A.deeper (envOfC qual scope s.heap.objs.size f cd)
  N := N
  s_0 := s
  H_0 := H
  env := envOfC qual scope s.heap.objs.size f cd
  outer := outer
  stack := envOfC qual scope s.heap.objs.size f cd :: outer
  ex := []
  calm := true
  fn := fun _ => true
  pn := []
  xe := fun e s' => wpAny (model P w) (A.deeper (envOfC qual scope s.heap.objs.size f cd)) (leaving (envOfC qual scope s.heap.objs.size f cd) e) (fun _ s'' => CX outer H s E e s'') (fun e' s'' => CX outer H s E e' s'') s'
theorem cell_has {sc : Scope} {n : Nat} {x : Str} (h : sc.names.lookup x = some .cell) : ∃ c, (cellsFrom n sc.names []).lookup x = some c := by
  have q := PySem.W.cellsFrom_some sc.names n [] (.inl h)
  exact Option.isSome_iff_exists.mp q
theorem inv_start {CX : CXT} {P : Program} {w : World} {K : PySem.W.Frag} {mg : Str → Option Value} {base : Heap} {N ps : List Str} {qual : Str} {scope : Scope} {f : Addr} {cd : Value} {A : Around} {outer : List Env} {s s1 : Shared} {H : Hp} {E : XK} {us : List Value} {vs : List V}
    (S : FnScope N ps scope) (hd : A.handled = none) (e0 : Env0 P w K mg base A outer s H) (hl : vs.length = ps.length) (r : Vals vs us)
    (x : InCallC s s.heap.objs.size (bindL (envOfC qual scope s.heap.objs.size f cd).kindOf (ps.zip us) fun _ => none) (cellsFrom (s.heap.objs.size + 1) scope.names []) (bindC (envOfC qual scope s.heap.objs.size f cd).kindOf (ps.zip us) fun _ => none) s1) :
    Inv (cxOf CX P w K mg base N qual scope f cd A outer s H E) [] (start N vs) H s1 := by
  have hpl : ps.length ≤ N.length := by have := congrArg List.length S.pre; rw [List.length_take] at this; omega
  obtain ⟨h1, tk, rfl, hk⟩ := x.done
  have noA : ∀ b : Addr, b ∉ (cxOf CX P w K mg base N qual scope f cd A outer s H E).ex := fun b z => absurd (show b ∈ ([] : List Addr) from z) (by simp)
  refine ⟨⟨e0.mod, S.kind, rfl, rfl, Nat.le_refl _, fun y z c h1 h2 => ?_, fun y hy => ?_, fun y c _ h => ?_, fun _ => hd, Around.frames_deeper e0.frames, .inr ⟨rfl, rfl⟩, fun b z => absurd z (noA b), e0.bs, e0.bsz, fun b _ _ => noA b, fun b z => absurd z (noA b), e0.funs, e0.frf⟩,
    rfl, e0.bare, Un.kept hk, ⟨_, x.toInCall.ns, fun i y v h1 h2 h3 => ?_⟩, fun y c h => ⟨_, x.cell y c h⟩, e0.hok.fresh (Nat.le_refl _), fun y c h => ?_, fun p hp => absurd (show p ∈ ([] : List (Addr × Obj)) from hp) (by simp), e0.hok.kept hk, ?_⟩
  · exact name_of_addr x.apart (PySem.mem_of_lookup h1) (PySem.mem_of_lookup h2)
  · have hy : scope.names.lookup y = some .cell ∨ scope.names.lookup y = some .free := hy
    rcases hy with hy | hy
    · exact cell_has hy
    · exact absurd rfl (S.nofree _ (PySem.mem_of_lookup hy))
  · exact Nat.le_of_lt (x.above y c (PySem.mem_of_lookup h))
  · have hi : i < vs.length := by
      unfold start at h2
      by_cases hi : i < vs.length
      · exact hi
      · rw [List.getElem?_append_right (by simpa using hi)] at h2
        rw [List.getElem?_replicate] at h2
        split at h2 <;> cases h2
    have ha : vs[i]? = some v := by
      unfold start at h2
      rw [List.getElem?_append_left (by simpa using hi), List.getElem?_map] at h2
      cases e : vs[i]? with
      | none => rw [e] at h2; cases h2
      | some a => rw [e] at h2; cases h2; rfl
    obtain ⟨u, hu, rv⟩ := r.get ha
    have hp : ps[i]? = some y := by
      rw [← S.pre, List.getElem?_take_of_lt (by omega)]; exact h1
    have ndP : ps.Nodup := by rw [← S.pre]; exact S.nd.sublist (List.take_sublist _ _)
    refine ⟨u, rv, ?_⟩
    rcases S.par y (List.mem_of_getElem? hp) with k | k
    · exact .inl ⟨k, bindL_get ndP hp hu k⟩
    · obtain ⟨c, e⟩ := cell_has (n := s.heap.objs.size + 1) k
      refine .inr ⟨.inl k, c, e, ?_⟩
      have q := x.cell y c e
      rw [bindC_get ndP hp hu (by show scope.names.lookup y ≠ _; rw [k]; decide)] at q
      exact q
  · exact e0.hok.fresh (Nat.le_of_lt (x.above y c (PySem.mem_of_lookup h)))
  · unfold start
    show _ = N.length
    rw [List.length_append, List.length_map, List.length_replicate]
    omega
theorem fn_of {CX : CXT} {P : Program} {w : World} {K : PySem.W.Frag} {mg : Str → Option Value} {base : Heap} {k : Nat} {f : Addr} {name qual : Str} {params : Arguments} {body : List Stmt} {scope : Scope} {dV kV doc pm cdv ct oc : Value} {an od : Option Addr}
    {osl : Array (Option Value)} {N ps : List Str} {sp : Sp} (lk : K.lookup f = some ⟨oc, od, .func (PySem.W.fnOf name qual params body scope dV kV doc pm an cdv ct), osl⟩) (hcd : PySem.W.codeIn K cdv qual = true) (S : FnScope N ps scope)
    (len : ∀ vs H Q E, sp vs H Q E → vs.length = ps.length)
    (hbody : ∀ (A : Around) (outer : List Env) (s : Shared) (H : Hp) (vs : List V) (Q : VK) (E : XK), Room k (A.deeper (envOfC qual scope s.heap.objs.size f cdv)) → sp vs H Q E →
      ∃ t, PSs (cxOf CX P w K mg base N qual scope f cdv A outer s H E) body t ∧ t { nx := fun _ H' => Q .non H', rt := Q } (start N vs) H) :
    FnOk P w K mg base CX (k + 1) f (PySem.W.fnOf name qual params body scope dV kV doc pm an cdv ct) ps sp := by
  refine ⟨len, fun A outer s H args us vs Q E hr e0 hb r hsp => ?_⟩
  have hl := len _ _ _ _ hsp
  have KX : K.In s.heap := e0.mod.kin.keeps fun b o e => (e0.bs b o e).1
  have lim : s.heap.NoLimit := e0.mod.nolimit.keeps fun b o e => (e0.bs b o e).1
  have hkind : ∀ y ∈ ps.zip us, scope.names.lookup y.1 = some .local ∨ (scope.names.lookup y.1 = some .cell ∧ ((cellsFrom (s.heap.objs.size + 1) scope.names []).lookup y.1).isSome = true) := fun ⟨n, v⟩ hy => by
    rcases S.par n (List.of_mem_zip hy).1 with q | q
    · exact .inl q
    · exact .inr ⟨q, PySem.W.cellsFrom_some _ _ _ (.inl q)⟩
  refine codeAny_call_function hr.depth (KX _ _ lk) rfl S.co S.gen rfl (PySem.W.codeRec_of KX hcd) (hb _ _ _ _ ?_)
  refine wpAny_newFunctionEnv_cells S.kind hkind fun env he s1 x => ?_
  subst he
  refine ⟨lim.keeps x.toInCall.keep, codeAny_func ?_⟩
  obtain ⟨t, ht, hq⟩ := hbody A outer s H vs Q E (hr.deeper _) hsp
  have I : Inv (cxOf CX P w K mg base N qual scope f cdv A outer s H E) [] (start N vs) H s1 := inv_start S hr.hd e0 hl r x
  refine wpAny_mono (ht [] s1 (start N vs) H _ I hq) (fun fl s' hs => ?_) fun e s' hs => hs
  have fin : ∀ {σ' : St} {H' : Hp} {v : V} {u : Value}, Inv (cxOf CX P w K mg base N qual scope f cdv A outer s H E) [] σ' H' s' → RelV v u → Q v H' → CE outer P w H s Q u s' :=
    fun {σ' H' v u} J rv q => ⟨v, H', J.os, J.bare, J.base, J.hok, rv, q⟩
  cases fl with
  | ret u =>
    obtain ⟨v, σ', H', J, rv, q⟩ := hs
    exact fin J rv q
  | next =>
    obtain ⟨σ', H', J, q⟩ := hs
    exact fin (v := V.non) (u := Value.none) J rfl q
  | brk =>
    obtain ⟨_, _, _, q⟩ := hs
    exact False.elim q
  | cont =>
    obtain ⟨_, _, _, q⟩ := hs
    exact False.elim q
end L2
namespace L2
open PySem PySem.Spec PyProof.Rows
section
variable {X : Cx} {x : Str} {p pos : Pos} {e : Expr} {es : List Expr} {t : TA} {id T : String} {r : List V → Hp → VK → Prop}
def tCB (r : List V → Hp → VK → Prop) (t : TA) : TE := fun σ H Q => t σ H fun vs H1 => r vs H1 Q
theorem pe_callB (hc : CallR X (.builtin id) r) (hg : Gl X x) (hm : X.mg x = none) (hv : bootBuiltins x = some (.builtin id)) (ha : PA X (e :: es) t) (hn : x ≠ "__name__" := by decide) (hdb : (x == ("__debug__" : Str)) = false := by decide)
    (he : starEach (e :: es) X.env = (false, eval e X.env) :: starEach es X.env := by rfl) (hpl : (backTo pos (starEach es X.env)).any (·.1) = false := by rfl) : PE X (.Call (.Name x p) (e :: es) [] pos) (tCB r t) := by
  intro pins s σ H Q I h
  refine wpAny_Call_Name_kw (ld_blt I hg hm hv ?_ hn hdb)
  exact PyProof.Rows.callWith_builtin1 (thn (ha pos pins s σ H _ I h) fun us s1 ⟨vs, H1, I1, r1, q1⟩ => hc pins s1 σ H1 vs us Q I1 r1 q1) he hpl
theorem pe_callTy (hc : CallR X (.type T) r) (hg : Gl X x) (hm : X.mg x = none) (hv : bootBuiltins x = some (.type T)) (ha : PA X (e :: es) t) (hn : x ≠ "__name__" := by decide) (hdb : (x == ("__debug__" : Str)) = false := by decide)
    (he : starEach (e :: es) X.env = (false, eval e X.env) :: starEach es X.env := by rfl) (hpl : (backTo pos (starEach es X.env)).any (·.1) = false := by rfl) : PE X (.Call (.Name x p) (e :: es) [] pos) (tCB r t) := by
  intro pins s σ H Q I h
  refine wpAny_Call_Name_kw (ld_blt I hg hm hv ?_ hn hdb)
  exact PyProof.Rows.callWith_type1 (thn (ha pos pins s σ H _ I h) fun us s1 ⟨vs, H1, I1, r1, q1⟩ => hc pins s1 σ H1 vs us Q I1 r1 q1) he hpl
end
end L2
namespace HT
open PySem PyProof.Rows
section
open PySem.SeqAt
open PySem.AutoSeq1 (wpAny_loadPart')
open PySem.MeetsSeq PySem.MeetsSeq2 PySem.MeetsSeq3
end
section
variable {prog : Program} {w : World} {A : Around} {E : Value → Shared → Prop} {s : Shared}
def sIx (n d : Nat) : Option Int → Nat
  | none => d
  | some v => if v < 0 then (v + (n : Int)).toNat else min v.toNat n
theorem sIx_nat (n d k : Nat) : sIx n d (some (k : Int)) = min k n := by
  show (if (k : Int) < 0 then ((k : Int) + (n : Int)).toNat else min (k : Int).toNat n) = min k n
  rw [if_neg (by omega), Int.toNat_natCast]
end
end HT
namespace L2
open PySem PySem.Spec PyProof.Rows
abbrev TO := St → Hp → (Option Int → Hp → Prop) → Prop
def PO (X : Cx) (e : Option Expr) (t : TO) : Prop :=
  ∀ (pins : List (Addr × Obj)) (s : Shared) (σ : St) (H : Hp) (Q : Option Int → Hp → Prop), Inv X pins σ H s → t σ H Q →
    wpAny (model X.prog X.w) X.A (evalPart e X.env) (fun u s' => ∃ o H', Inv X pins σ H' s' ∧ IsPart u o ∧ Q o H') X.xe s
def tNoPart : TO := fun _ H Q => Q none H
def tPart (t : TE) : TO := fun σ H Q => t σ H fun x H1 => ∃ i, x = .int i ∧ Q (some i) H1
section
variable {X : Cx} {e : Expr} {te : TE} {lo hi : Option Expr} {tl th : TO} {pos p2 : Pos}
theorem po_none : PO X none tNoPart := by
  intro pins s σ H Q I h
  rw [evalPart_none]
  exact wpAny_pure ⟨none, H, I, .none, h⟩
theorem po_some (h : PE X e te) : PO X (some e) (tPart te) := by
  intro pins s σ H Q I hw
  rw [evalPart_some]
  refine thn (h pins s σ H _ I hw) fun u s1 ⟨x, H1, I1, r1, q1⟩ => ?_
  obtain ⟨i, rfl, q⟩ := q1
  obtain ⟨t, rfl⟩ := r1
  exact ⟨some i, H1, I1, .int i t, q⟩
def SlR (X : Cx) (r : V → Option Int → Option Int → Hp → VK → Prop) : Prop :=
  ∀ (pins : List (Addr × Obj)) (s : Shared) (σ : St) (H : Hp) (x : V) (v vl vu : Value) (lo hi : Option Int) (sl : Addr) (Q : VK), Inv X pins σ H s → RelV x v → s.heap.IsSliceOf sl vl vu .none → IsPart vl lo → IsPart vu hi → r x lo hi H Q →
    ∃ T id, typeLookup (.type T) "__getitem__" = pure (some (.builtin id)) ∧ s.TypeIs v T ∧ wpAny (model X.prog X.w) X.A (getItem v (.ref sl)) (EP X pins σ Q) X.xe s
def tSl (r : V → Option Int → Option Int → Hp → VK → Prop) (te : TE) (tl th : TO) : TE := fun σ H Q => te σ H fun x H1 => tl σ H1 fun l H2 => th σ H2 fun u H3 => r x l u H3 Q
theorem pe_slice {r : V → Option Int → Option Int → Hp → VK → Prop} (hr : SlR X r) (he : PE X e te) (hl : PO X lo tl) (hu : PO X hi th) : PE X (.Subscript e (.Slice lo hi none p2) pos) (tSl r te tl th) := by
  intro pins s σ H Q I h
  refine Subscript_ (thn (he pins s σ H _ I h) fun v s1 ⟨x, H1, I1, r1, q1⟩ => ?_)
  refine wpAny_Slice (thn (hl pins s1 σ H1 _ I1 q1) fun vl s2 ⟨l, H2, I2, pl, q2⟩ => thn (hu pins s2 σ H2 _ I2 q2) fun vu s3 ⟨u, H3, I3, pu, q3⟩ => ?_)
  rw [evalPart_none]
  refine wpAny_pure ?_
  have I4 : Inv X pins σ H3 { s3 with heap := s3.heap.push { cls := .type "slice", data := .fields #[vl, vu, .none] } } := I3.kept (t' := s3.toks) fun b ob q => Heap.get?_push_of_some _ q
  obtain ⟨T, id, hT, ht, hg⟩ := hr pins { s3 with heap := s3.heap.push { cls := .type "slice", data := .fields #[vl, vu, .none] } } σ H3 x v vl vu l u s3.heap.objs.size Q I4 r1 (Heap.IsSliceOf.new ..) pl pu q3
  show wpAny (model X.prog X.w) X.A (subscriptTail e (.Slice lo hi none p2) v (.ref s3.heap.objs.size)) (EP X pins σ Q) X.xe { s3 with heap := s3.heap.push { cls := .type "slice", data := .fields #[vl, vu, .none] } }
  exact tail_any (ops := [.ref s3.heap.objs.size, v]) ht hT hg (by with_unfolding_all rfl)
def cutV (xs : List V) (lo hi : Option Int) : List V := (xs.drop (HT.sIx xs.length 0 lo)).take (HT.sIx xs.length xs.length hi - HT.sIx xs.length 0 lo)
theorem cutV_length (xs : List V) (lo hi : Option Int) : (cutV xs lo hi).length ≤ xs.length := by
  unfold cutV
  rw [List.length_take, List.length_drop]
  omega
end
end L2
namespace L2
open PySem PySem.Spec PyProof.Rows
def ixN (n : Nat) (i : Int) : Option Nat := if 0 ≤ i then (if i < n then some i.toNat else none) else if -(n : Int) ≤ i then some (i + n).toNat else none
def atI {α : Type} (xs : List α) (i : Int) : Option α := (ixN xs.length i).bind fun j => xs[j]?
theorem ixN_seq {n : Nat} {i : Int} {j : Nat} (h : ixN n i = some j) : seqIndex? i n = some j ∧ j < n ∧ -(n : Int) ≤ i ∧ i < n := by
  unfold ixN at h
  by_cases h0 : 0 ≤ i
  · rw [if_pos h0] at h
    by_cases h1 : i < n
    · rw [if_pos h1] at h
      have e : i.toNat = j := Option.some.inj h
      exact ⟨by rw [seqIndex_of h0 h1, e], by omega, by omega, h1⟩
    · rw [if_neg h1] at h; cases h
  · rw [if_neg h0] at h
    by_cases h1 : -(n : Int) ≤ i
    · rw [if_pos h1] at h
      have e : (i + n).toNat = j := Option.some.inj h
      exact ⟨by rw [seqIndex_neg (by omega) h1, e], by omega, h1, by omega⟩
    · rw [if_neg h1] at h; cases h
theorem atI_get {α : Type} {xs : List α} {i : Int} {v : α} (h : atI xs i = some v) : ∃ j, seqIndex? i xs.length = some j ∧ xs[j]? = some v ∧ j < xs.length ∧ -(xs.length : Int) ≤ i ∧ i < xs.length := by
  unfold atI at h
  cases e : ixN xs.length i with
  | none => rw [e] at h; cases h
  | some j =>
    rw [e] at h
    obtain ⟨h1, h2, h3, h4⟩ := ixN_seq e
    exact ⟨j, h1, h, h2, h3, h4⟩
theorem atI_nat {α : Type} {xs : List α} {j : Nat} {v : α} (h : xs[j]? = some v) : atI xs (j : Int) = some v := by
  have hj : j < xs.length := (List.getElem?_eq_some_iff.mp h).1
  have e : ixN xs.length (j : Int) = some j := by
    unfold ixN
    rw [if_pos (by omega), if_pos (by omega)]; simp
  unfold atI; rw [e]; exact h
def PlainIx (b : Expr) : Prop := ∀ o i, subscripted b false o i = operate [o, i] (getItem o i)
def IxR (X : Cx) (r : R2) : Prop :=
  ∀ (value slice : Expr) (pins : List (Addr × Obj)) (s : Shared) (σ : St) (H : Hp) (x y : V) (v u : Value) (Q : VK), Inv X pins σ H s → RelV x v → RelV y u → r x y H Q →
    subscripted slice false v u = operate [v, u] (getItem v u) → wpAny (model X.prog X.w) X.A (subscriptTail value slice v u) (EP X pins σ Q) X.xe s
def MtR (X : Cx) (id : String) (r : V → List V → Hp → VK → Prop) : Prop :=
  ∀ (pins : List (Addr × Obj)) (s : Shared) (σ : St) (H : Hp) (x : V) (xs : List V) (v : Value) (us : List Value) (Q : VK), Inv X pins σ H s → RelV x v → Vals xs us → r x xs H Q →
    wpAny (model X.prog X.w) X.A (call (.builtin id) (v :: us)) (EP X pins σ Q) X.xe s
section
variable {X : Cx} {a b : Expr} {ta tb : TE} {pos : Pos}
theorem pe_ix {r : R2} (hr : IxR X r) (ha : PE X a ta) (hb : PE X b tb) (hs : PlainIx b) : PE X (.Subscript a b pos) (tOp r ta tb) := by
  intro pins s σ H Q I h
  exact Subscript_ (binT ha hb I h fun v u s2 x y H2 I2 rx ry q => hr a b pins s2 σ H2 x y v u Q I2 rx ry q (hs _ _))
def rIxL (K : PySem.W.Frag) : R2 := fun x y H Q => ∃ p xs i v, x = .ref p ∧ y = .int i ∧ SqL K H p xs ∧ atI xs i = some v ∧ Q v H
theorem ix_list : IxR X (rIxL X.K) := by
  intro value slice pins s σ H x y v u Q I rx ry h hs
  obtain ⟨p, xs, i, z, rfl, rfl, hq, he, q⟩ := h
  cases rx
  obtain ⟨t, rfl⟩ := ry
  obtain ⟨its, r, pl, hz⟩ := I.list hq
  obtain ⟨j, h1, h2, h3, h4, h5⟩ := atI_get he
  obtain ⟨w, ew, rw'⟩ := r.get h2
  have hl := r.length
  have hn := line63
  have fin : EP X pins σ Q w s := ⟨z, H, I, rw', q⟩
  by_cases h0 : 0 ≤ i
  · have hj : i.toNat = j := by
      rw [seqIndex_of h0 h5] at h1
      exact Option.some.inj h1
    exact item_listR pl.isList h0 (by omega) (by rw [hj]; simpa using ew) fin hs
  · have hj : (i + (its.toArray.size : Int)).toNat = j := by
      rw [seqIndex_neg (by omega) h4] at h1
      rw [List.size_toArray, ← hl]
      exact Option.some.inj h1
    exact subscriptTail_builtinR (x := w) pl.isList.typeIs slot_list_getitem.lookup
      (wpAny_getItem_list_neg (Q := fun r s' => r = w ∧ EP X pins σ Q r s') pl.isList (by omega) (by rw [List.size_toArray] <;> omega) (by omega) (by rw [hj]; simpa using ew) ⟨rfl, fin⟩) hs
theorem mapSeq_set (its : List Value) (n j : Nat) (u : Value) : Obj.mapSeq (·.setIfInBounds j u) { cls := .type "list", data := .seq its.toArray n } = { cls := .type "list", data := .seq (its.set j u).toArray n } := by
  simp [Obj.mapSeq]
theorem Inv.lst {pins : List (Addr × Obj)} {σ : St} {H : Hp} {s : Shared} {p : Addr} {xs : List V} (I : Inv X pins σ H s) (h : H p = some (.lst xs)) :
    ∃ (its : List Value) (n : Nat), Vals xs its ∧ s.heap.get? p = some { cls := .type "list", data := .seq its.toArray n } ∧ xs.length ≤ sizeLine := by
  obtain ⟨z, its, n, r, e⟩ := I.hok p _ h
  exact ⟨its, n, r, e, z⟩
theorem Inv.lstUpd {pins : List (Addr × Obj)} {σ : St} {H : Hp} {s : Shared} {p : Addr} {xs ys : List V} {its its' : List Value} {n n' : Nat} {f : Obj → Obj} (I : Inv X pins σ H s) (h : H p = some (.lst xs))
    (ho : s.heap.get? p = some { cls := .type "list", data := .seq its.toArray n }) (hf : f { cls := .type "list", data := .seq its.toArray n } = { cls := .type "list", data := .seq its'.toArray n' }) (r : Vals ys its') (hz : ys.length ≤ sizeLine) (t : Nat) :
    Inv X pins σ (upd H p (.lst ys)) { s with heap := s.heap.update p f, toks := t } := by
  have e : (s.heap.update p f).get? p = some { cls := .type "list", data := .seq its'.toArray n' } := by
    rw [Heap.get?_update_self f ho (by rw [hf] <;> rfl), hf]
  refine I.write (x := p) (e := p) (by rw [h]; trivial) (.inl rfl) (fun b u hb q => (Heap.get?_update_other _ _ (Ne.symm hb)).trans q) ⟨_, e⟩ ?_
  exact ⟨hz, its', n', r, e⟩
def rSetL : V → V → V → Hp → (Hp → Prop) → Prop := fun o i v H Q => ∃ p xs k j, o = .ref p ∧ i = .int k ∧ H p = some (.lst xs) ∧ ixN xs.length k = some j ∧ Q (upd H p (.lst (xs.set j v)))
theorem set_list : PSet X rSetL := by
  intro pins s σ H o i v ov iv u Q I ro ri rv h
  obtain ⟨p, xs, k, j, rfl, rfl, hp, hj, q⟩ := h
  cases ro
  obtain ⟨t, rfl⟩ := ri
  obtain ⟨its, n, r, ho, hz⟩ := I.lst hp
  obtain ⟨h1, h2, h3, h4⟩ := ixN_seq hj
  have hl := r.length
  have hn := line63
  have I' : Inv X pins σ (upd H p (.lst (xs.set j v))) { s with heap := s.heap.update p (Obj.mapSeq (·.setIfInBounds j u)) } :=
    I.lstUpd hp ho (mapSeq_set its n j u) (r.set rv j) (by rw [List.length_set]; exact hz) s.toks
  by_cases h0 : 0 ≤ k
  · have hk : k.toNat = j := by
      rw [seqIndex_of h0 h4] at h1
      exact Option.some.inj h1
    exact PySem.W.ki_setAt ho h0 (by omega) (by rw [List.size_toArray, ← hl]; exact h4) (by rw [hk]; exact ⟨_, I', q⟩)
  · have hk : (k + (its.toArray.size : Int)).toNat = j := by
      rw [seqIndex_neg (by omega) h3] at h1
      rw [List.size_toArray, ← hl]
      exact Option.some.inj h1
    exact PySem.W.ki_setBack ho (by omega) (by rw [List.size_toArray, ← hl]; exact h3) (by omega) (by rw [hk]; exact ⟨_, I', q⟩)
theorem slice_bounds (lo hi : Option Int) (n : Nat) : (sliceBounds lo hi none n).1 = ((HT.sIx n 0 lo : Nat) : Int) ∧ (sliceBounds lo hi none n).2.1 = ((HT.sIx n n hi : Nat) : Int) ∧ (sliceBounds lo hi none n).2.2 = 1 := by
  refine ⟨?_, ?_, rfl⟩
  · cases lo with
    | none => simp [sliceBounds, HT.sIx]
    | some i =>
      simp only [sliceBounds, HT.sIx, Option.getD_none, show (1 : Int) > 0 by decide, if_true]
      by_cases h : i < 0
      · simp only [h, if_true] <;> omega
      · simp only [h, if_false] <;> omega
  · cases hi with
    | none => simp [sliceBounds, HT.sIx]
    | some i =>
      simp only [sliceBounds, HT.sIx, Option.getD_none, show (1 : Int) > 0 by decide, if_true]
      by_cases h : i < 0
      · simp only [h, if_true] <;> omega
      · simp only [h, if_false] <;> omega
theorem slicePick_cut (its : List Value) (lo hi : Option Int) : slicePick its.toArray lo hi none = ((its.drop (HT.sIx its.length 0 lo)).take (HT.sIx its.length its.length hi - HT.sIx its.length 0 lo)).toArray := by
  obtain ⟨h1, h2, h3⟩ := slice_bounds lo hi its.toArray.size
  unfold slicePick
  rw [h1, h2, h3]
  simp only [sliceRange_one, pick_run, List.size_toArray] <;> rfl
def rSlL (K : PySem.W.Frag) : V → Option Int → Option Int → Hp → VK → Prop := fun x lo hi H Q => ∃ a xs, x = .ref a ∧ SqL K H a xs ∧ ∀ p, H p = none → Q (.ref p) (upd H p (.lst (cutV xs lo hi)))
theorem sl_list : SlR X (rSlL X.K) := by
  intro pins s σ H x v vl vu lo hi sl Q I rx hs pl pu h
  obtain ⟨a, xs, rfl, hx, q⟩ := h
  cases rx
  obtain ⟨its, r, ht, hz⟩ := I.list hx
  have hlen := r.length
  refine ⟨"list", _, slot_list_getitem.lookup, ht.isList.typeIs, ?_⟩
  refine wpAny_getItem_list_slice ht.isList hs pl pu .none (by simp) ?_ (by rw [List.size_toArray] <;> omega)
  rw [slicePick_cut, ← hlen]
  refine ⟨.ref s.heap.objs.size, _, I.laid (t' := s.toks) (o := .lst (cutV xs lo hi)) (fun b ob q => Heap.get?_push_of_some _ q) (Nat.le_refl _) ?_, rfl, q _ (I.hok.fresh (Nat.le_refl _))⟩
  exact ⟨Nat.le_trans (cutV_length xs lo hi) hz, _, 0, (r.drop (HT.sIx xs.length 0 lo)).take (HT.sIx xs.length xs.length hi - HT.sIx xs.length 0 lo), Heap.get?_push_size _ rfl⟩
def flatV : V → Bool
  | .non => true
  | .bl _ => true
  | .int _ => true
  | .str _ => true
  | _ => false
def eqV : V → V → Bool
  | .non, .non => true
  | .bl a, .bl b => a == b
  | .bl a, .int b => (if a then 1 else 0) == b
  | .int a, .bl b => a == (if b then 1 else 0)
  | .int a, .int b => a == b
  | .str a, .str b => a == b
  | _, _ => false
theorem eqAt_V {A : Around} {s : Shared} {y x : V} {u v : Value} (ry : RelV y u) (rx : RelV x v) (fy : flatV y = true) (fx : flatV x = true) : SeqAt.EqAt A s u v (eqV y x) := by
  cases y with
  | non =>
    cases ry
    cases x with
    | non => cases rx; exact SeqAt.EqAt.same _
    | bl b => cases rx; exact SeqAt.EqAt.none_bool b
    | int b => obtain ⟨t, rfl⟩ := rx; exact SeqAt.EqAt.none_int b t
    | str b => obtain ⟨t, rfl⟩ := rx; exact SeqAt.EqAt.none_str b t
    | _ => exact absurd (show false = true from fx) Bool.false_ne_true
  | bl a =>
    cases ry
    cases x with
    | non => cases rx; exact SeqAt.EqAt.bool_none a
    | bl b => cases rx; exact SeqAt.EqAt.bool_bool a b
    | int b => obtain ⟨t, rfl⟩ := rx; exact SeqAt.EqAt.bool_int a b t
    | str b => obtain ⟨t, rfl⟩ := rx; exact SeqAt.EqAt.bool_str a b t
    | _ => exact absurd (show false = true from fx) Bool.false_ne_true
  | int a =>
    obtain ⟨t', rfl⟩ := ry
    cases x with
    | non => cases rx; exact SeqAt.EqAt.int_none a t'
    | bl b => cases rx; exact SeqAt.EqAt.int_bool a t' b
    | int b => obtain ⟨t, rfl⟩ := rx; exact SeqAt.EqAt.int_int a t' b t
    | str b => obtain ⟨t, rfl⟩ := rx; exact SeqAt.EqAt.int_str a t' b t
    | _ => exact absurd (show false = true from fx) Bool.false_ne_true
  | str a =>
    obtain ⟨t', rfl⟩ := ry
    cases x with
    | non => cases rx; exact SeqAt.EqAt.str_none a t'
    | bl b => cases rx; exact SeqAt.EqAt.str_bool a t' b
    | int b => obtain ⟨t, rfl⟩ := rx; exact SeqAt.EqAt.str_int a t' b t
    | str b => obtain ⟨t, rfl⟩ := rx; exact SeqAt.EqAt.str_str a t' b t
    | _ => exact absurd (show false = true from fx) Bool.false_ne_true
  | _ => exact absurd (show false = true from fy) Bool.false_ne_true
def eqU (x : V) (u : Value) : Bool := match u with
  | .none => eqV .non x
  | .bool b => eqV (.bl b) x
  | .int i _ => eqV (.int i) x
  | .str z _ => eqV (.str z) x
  | _ => false
theorem eqU_of {x y : V} {u : Value} (r : RelV y u) (f : flatV y = true) : eqU x u = eqV y x := by
  cases y with
  | non => cases r; rfl
  | bl b => cases r; rfl
  | int i => obtain ⟨t, rfl⟩ := r; rfl
  | str z => obtain ⟨t, rfl⟩ := r; rfl
  | _ => exact absurd (show false = true from f) Bool.false_ne_true
theorem any_eqU {x : V} : ∀ {xs : List V} {us : List Value}, Vals xs us → xs.all flatV = true → us.any (eqU x) = xs.any fun y => eqV y x
  | _, _, .nil, _ => rfl
  | y :: xs, u :: us, .cons r t, f => by
    rw [List.all_cons, Bool.and_eq_true] at f
    rw [List.any_cons, List.any_cons, eqU_of r f.1, any_eqU t f.2]
theorem mem_eqAt {A : Around} {s : Shared} {x : V} {v : Value} (rx : RelV x v) (fx : flatV x = true) : ∀ {xs : List V} {us : List Value}, Vals xs us → xs.all flatV = true → ∀ u ∈ us, SeqAt.EqAt A s u v (eqU x u)
  | _, _, .nil, _ => fun u hu => by cases hu
  | y :: xs, u :: us, .cons r t, f => fun u' hu => by
    rw [List.all_cons, Bool.and_eq_true] at f
    rcases List.mem_cons.mp hu with rfl | hu
    · rw [eqU_of r f.1]; exact eqAt_V r rx f.1 fx
    · exact mem_eqAt rx fx t f.2 u' hu
def inV (x : V) (xs : List V) : Bool := xs.any fun y => eqV y x
def rIn (K : PySem.W.Frag) (neg : Bool) : R2 := fun x y H Q => ∃ p xs, y = .ref p ∧ (SqL K H p xs ∨ SqT K H p xs) ∧ flatV x = true ∧ xs.all flatV = true ∧ Q (.bl (if neg then !inV x xs else inV x xs)) H
theorem op_notIn_seq : OpR X (compareOp .NotIn) (rIn X.K true) := by
  intro pins s σ H x y v u Q I rx ry h
  obtain ⟨p, xs, rfl, hq, fx, fs, q⟩ := h
  cases ry
  rcases hq with hq | hq
  · obtain ⟨its, r, pl, hz⟩ := I.list hq
    refine SeqAt.notIn_listAt (eqU x) pl.isList (fun w hw => mem_eqAt rx fx r fs w (by simpa using hw)) ⟨.bl _, H, I, rfl, ?_⟩
    rw [show its.toArray.any (eqU x) = its.any (eqU x) by simp, any_eqU r fs]
    exact q
  · obtain ⟨its, r, pl, hz⟩ := I.tuple hq
    refine SeqAt.notIn_tupleAt (eqU x) pl (fun w hw => mem_eqAt rx fx r fs w (by simpa using hw)) ⟨.bl _, H, I, rfl, ?_⟩
    rw [show its.toArray.any (eqU x) = its.any (eqU x) by simp, any_eqU r fs]
    exact q
theorem call_len_seq : CallR X (.builtin "len") (fun xs H Q => ∃ p ys, xs = [.ref p] ∧ (SqL X.K H p ys ∨ SqT X.K H p ys) ∧ Q (.int ys.length) H) := by
  intro pins s σ H xs us Q I r h
  obtain ⟨p, ys, rfl, hq, q⟩ := h
  obtain ⟨u, rfl, rx⟩ := vals1 r
  cases rx
  have hn := line63
  rcases hq with hq | hq
  · obtain ⟨its, r', pl, hz⟩ := I.list hq
    have hlen := r'.length
    exact Calls.call_len_list pl.isList (by simp only [List.size_toArray] <;> omega) ⟨.int ys.length, H, I.tok _, ⟨s.toks + 1, by rw [List.size_toArray, hlen]⟩, q⟩
  · obtain ⟨its, r', pl, hz⟩ := I.tuple hq
    have hlen := r'.length
    exact len_tuple pl (by simp only [List.size_toArray] <;> omega) ⟨.int ys.length, H, I.tok _, ⟨s.toks + 1, by rw [List.size_toArray, hlen]⟩, q⟩
def tyV (K : PySem.W.Frag) (T : String) (x : V) (H : Hp) : Prop := match x with
  | .str _ => T = "str"
  | .int _ => T = "int"
  | .ref p => (T = "list" ∧ ∃ xs, SqL K H p xs) ∨ (T = "tuple" ∧ ∃ o, K.lookup p = some o ∧ o.cls = .type "tuple" ∧ o.dict = none) ∨
      (T = "dict" ∧ ((∃ kvs, H p = some (.dK kvs)) ∨ ∃ kvs, H p = some (.dT kvs))) ∨ (T = "set" ∧ ∃ S n, H p = some (.set S n))
  | _ => False
theorem tyV_is {pins : List (Addr × Obj)} {σ : St} {H : Hp} {s : Shared} {T : String} {x : V} {v : Value} (I : Inv X pins σ H s) (r : RelV x v) (ty : tyV X.K T x H) :
    s.TypeIs v T ∧ ∀ a, v = .ref a → ∃ ob, s.heap.get? a = some ob ∧ ob.dict = none := by
  cases x with
  | str z =>
    obtain ⟨t, rfl⟩ := r
    cases (show T = "str" from ty)
    exact ⟨typeIs_str s z t, fun _ e => nomatch e⟩
  | int i =>
    obtain ⟨t, rfl⟩ := r
    cases (show T = "int" from ty)
    exact ⟨typeIs_int s i t, fun _ e => nomatch e⟩
  | ref p =>
    cases r
    rcases ty with ⟨rfl, xs, hq⟩ | ⟨rfl, o, hk, hc, hd⟩ | ⟨rfl, hk⟩ | ⟨rfl, S, n, hk⟩
    · obtain ⟨its, _, pl, _⟩ := I.list hq
      refine ⟨pl.isList.typeIs, fun a e => ?_⟩
      cases e
      obtain ⟨o, n, e, c, hd, _⟩ := pl
      exact ⟨o, e, hd⟩
    · refine ⟨⟨o, I.kIn p o hk, hc⟩, fun a e => ?_⟩
      cases e
      exact ⟨o, I.kIn _ o hk, hd⟩
    · have z : ∃ o, s.heap.get? p = some o ∧ o.ExactDict := by
        rcases hk with ⟨kvs, hk⟩ | ⟨kvs, hk⟩
        · obtain ⟨_, _, _, _, o, _, _, e, ex, _⟩ := I.hok p _ hk
          exact ⟨o, e, ex⟩
        · obtain ⟨_, _, _, _, o, _, _, e, ex, _⟩ := I.hok p _ hk
          exact ⟨o, e, ex⟩
      obtain ⟨o, e, ex⟩ := z
      refine ⟨⟨o, e, ex.1⟩, fun a e2 => ?_⟩
      cases e2
      exact ⟨o, e, ex.2.1⟩
    · obtain ⟨o, _, _, _, e, ex, _⟩ := I.hok p _ hk
      refine ⟨⟨o, e, ex.1⟩, fun a e2 => ?_⟩
      cases e2
      exact ⟨o, e, ex.2.1⟩
  | _ => exact False.elim ty
def tBM (K : PySem.W.Frag) (T : String) (r : V → List V → Hp → VK → Prop) (to : TE) (t : TA) : TE := fun σ H Q => to σ H fun x H1 => tyV K T x H1 ∧ t σ H1 fun xs H2 => r x xs H2 Q
variable {o e : Expr} {es : List Expr} {to : TE} {t : TA} {name : Str} {apos cpos : Pos} {T id : String} {r : V → List V → Hp → VK → Prop}
theorem pe_bm (pa : PlainAttrs T) (slot : Slot T name id) (hty : typeOf (.builtin id) = pure (.type "method_descriptor")) (hm : MtR X id r) (ho : PE X o to) (ha : PA X (e :: es) t)
    (hbase : attributeBase o name X.env (eval o X.env) = eval o X.env := by rfl)
    (hfew : ((backTo cpos (starEach (e :: es) X.env)).all (fun x => !x.1) && (backToKw cpos (keywordEach [] X.env)).all (fun x => x.1.isSome)
      && decide ((e :: es).length + ([] : List Keyword).length + (if ([] : List Keyword).isEmpty then 0 else 1) < 30)) = true := by rfl)
    (hline : (apos.endLine == cpos.line) = true := by rfl) (hs : starEach (e :: es) X.env = (false, eval e X.env) :: starEach es X.env := by rfl) (hplain : (backTo cpos (starEach es X.env)).any (·.1) = false := by rfl) :
    PE X (.Call (.Attribute o name apos) (e :: es) [] cpos) (tBM X.K T r to t) := by
  intro pins s σ H Q I h
  refine wpAny_Call_method_late hbase hfew hline rfl (thn (ho pins s σ H _ I h) fun v s1 ⟨x, H1, I1, r1, ty, q1⟩ => ?_)
  obtain ⟨h1, h2⟩ := tyV_is I1 r1 ty
  refine ⟨T, id, pa, slot, hty, h1, h2, ?_⟩
  have hA := ha cpos pins s1 σ H1 _ I1 q1
  rw [hs] at hA ⊢
  refine Calls.callWith_builtin (by show (false || (backTo cpos (starEach es X.env)).any (·.1)) = false; rw [hplain] <;> rfl) (Calls.evalArgs_plain ?_)
  exact thn hA fun us s2 ⟨vs, H2, I2, r2, q2⟩ => hm pins s2 σ H2 x vs v us Q I2 r1 r2 q2
end
end L2
namespace L2
open PySem PySem.Spec PyProof.Rows
def MtM (X : Cx) (id : String) (r : V → List V → Hp → VK → Prop) : Prop :=
  ∀ (pins : List (Addr × Obj)) (s : Shared) (σ : St) (H : Hp) (x : V) (xs : List V) (v : Value) (us : List Value) (Q : VK), Inv X pins σ H s → RelV x v → Vals xs us → r x xs H Q →
    wpAny (model X.prog X.w) X.A (call (.builtin id) (v :: us)) (EP X pins σ Q) X.xe s
theorem Vals.one : ∀ {x : V} {us : List Value}, Vals [x] us → ∃ u, us = [u] ∧ RelV x u
  | _, _, .cons r .nil => ⟨_, rfl, r⟩
theorem Vals.rep {xs : List V} {us : List Value} (h : Vals xs us) : ∀ k : Nat, Vals (List.replicate k xs).flatten (List.replicate k us).flatten
  | 0 => .nil
  | k + 1 => by
    rw [List.replicate_succ, List.replicate_succ, List.flatten_cons, List.flatten_cons]
    exact Vals.append h (Vals.rep h k)
theorem foldl_rep (its : List Value) : ∀ (k : Nat) (acc : List Value),
    List.foldl (fun x1 x2 => x1 ++ x2) acc.toArray (List.replicate k its.toArray) = (acc ++ (List.replicate k its).flatten).toArray
  | 0, acc => by simp
  | k + 1, acc => by
    have e : acc.toArray ++ its.toArray = (acc ++ its).toArray := by simp
    have e2 : (acc ++ its) ++ (List.replicate k its).flatten = acc ++ (List.replicate (k + 1) its).flatten := by
      rw [List.replicate_succ, List.flatten_cons, List.append_assoc]
    rw [← e2, ← foldl_rep its k (acc ++ its), ← e, List.replicate_succ, List.foldl_cons]
section
variable {X : Cx} {pins : List (Addr × Obj)} {σ : St} {H : Hp} {s : Shared} {l b : Addr} {xs ys zs : List V}
theorem Inv.lset {its its' : List Value} {n : Nat} {f : Array Value → Array Value} {t' : Nat} (I : Inv X pins σ H s) (hH : H l = some (.lst xs))
    (e : s.heap.get? l = some { cls := .type "list", data := .seq its.toArray n }) (hf : f its.toArray = its'.toArray) (hv : Vals ys its') (hz : ys.length ≤ sizeLine) :
    Inv X pins σ (upd H l (.lst ys)) { s with heap := s.heap.update l (Obj.mapSeq f), toks := t' } := by
  have q := PySem.IsL.update e f
  rw [hf] at q
  refine I.write (x := l) (e := l) (by rw [hH]; exact trivial) (.inl rfl) (fun b' u hb hu => (Heap.get?_update_other s.heap (Obj.mapSeq f) (Ne.symm hb)).trans hu) ⟨_, q⟩ ?_
  exact ⟨hz, its', _, hv, q⟩
theorem Inv.lnew {its : List Value} {t' : Nat} (I : Inv X pins σ H s) (hv : Vals ys its) (hz : ys.length ≤ sizeLine) :
    Inv X pins σ (upd H s.heap.objs.size (.lst ys)) { s with heap := s.heap.push { cls := .type "list", data := .seq its.toArray }, toks := t' } :=
  I.laid (fun _ _ q => Heap.get?_push_of_some _ q) (Nat.le_refl _) ⟨hz, its, 0, hv, Heap.get?_push_size _ rfl⟩
theorem Inv.fresh (I : Inv X pins σ H s) : H s.heap.objs.size = none := I.hok.fresh (Nat.le_refl _)
theorem Inv.lstM (I : Inv X pins σ H s) (hH : H l = some (.lst xs)) : xs.length ≤ sizeLine ∧ ∃ (its : List Value) (n : Nat), Vals xs its ∧ xs.length = its.length ∧ s.heap.get? l = some { cls := .type "list", data := .seq its.toArray n } := by
  obtain ⟨z, its, n, r, e⟩ := I.hok l _ hH
  exact ⟨z, its, n, r, r.length, e⟩
theorem notLongL {n : Nat} (h : n ≤ sizeLine) : Builtin.List.listTooLong n = false := by
  unfold Builtin.List.listTooLong
  exact decide_eq_false (by omega)
end
section
variable {X : Cx}
def rAppend : V → List V → Hp → VK → Prop := fun x vs H Q => ∃ l xs y, x = .ref l ∧ vs = [y] ∧ H l = some (.lst xs) ∧ xs.length < sizeLine ∧ Q .non (upd H l (.lst (xs ++ [y])))
theorem mt_append : MtM X "list.append" rAppend := by
  intro pins s σ H x vs v us Q I rx rv h
  obtain ⟨l, xs, y, rfl, rfl, hH, hz, q⟩ := h
  cases rx
  obtain ⟨u, rfl, ru⟩ := rv.one
  obtain ⟨z, its, n, r, hl, e⟩ := I.lstM hH
  refine call_meets F.slot_list_append ⟨_, e, rfl⟩ F.entry_list_append (F.args_list_append_2 _ _) (PySem.list_append l its.toArray n u (by rw [List.size_toArray]; omega)) ⟨e, ?_⟩
  refine ⟨.non, _, I.lset (its' := its ++ [u]) hH e (by simp) (r.append (.cons ru .nil)) ?_, rfl, q⟩
  rw [List.length_append, List.length_singleton]
  omega
def rExtend : V → List V → Hp → VK → Prop := fun x vs H Q => ∃ l b xs zs, x = .ref l ∧ vs = [.ref b] ∧ H l = some (.lst xs) ∧ H b = some (.lst zs) ∧ xs.length + zs.length ≤ sizeLine ∧ Q .non (upd H l (.lst (xs ++ zs)))
theorem mt_extend : MtM X "list.extend" rExtend := by
  intro pins s σ H x vs v us Q I rx rv h
  obtain ⟨l, b, xs, zs, rfl, rfl, hH, hB, hz, q⟩ := h
  cases rx
  obtain ⟨u, rfl, ru⟩ := rv.one
  cases ru
  obtain ⟨z, its, n, r, hl, e⟩ := I.lstM hH
  obtain ⟨z2, its2, n2, r2, hl2, e2⟩ := I.lstM hB
  have hsz : its.toArray.size + its2.toArray.size ≤ sizeLine := by rw [List.size_toArray, List.size_toArray]; omega
  have hlong : ¬ (!its.toArray.isEmpty && Builtin.List.listTooLong (its.toArray.size + its2.toArray.size)) = true := by
    rw [notLongL hsz, Bool.and_false]
    exact Bool.false_ne_true
  refine call_meets F.slot_list_extend ⟨_, e, rfl⟩ F.entry_list_extend (F.args_list_extend_2 _ _)
    (AutoSeq1.list_extend_list_list_0 l its.toArray n b its2.toArray n2 hlong (by rw [List.size_toArray]; omega) (by omega)) ⟨e, e2, ?_⟩
  refine ⟨.non, _, I.lset (its' := its ++ its2) hH e (by simp) (r.append r2) ?_, rfl, q⟩
  rw [List.length_append]
  omega
def rCat : R2 := fun x y H Q => ∃ l b xs zs, x = .ref l ∧ y = .ref b ∧ H l = some (.lst xs) ∧ H b = some (.lst zs) ∧ xs.length + zs.length ≤ sizeLine ∧ ∀ p, H p = none → Q (.ref p) (upd H p (.lst (xs ++ zs)))
theorem op_cat : OpR X (binaryOp .Add) rCat := by
  intro pins s σ H x y v u Q I rx ry h
  obtain ⟨l, b, xs, zs, rfl, rfl, hH, hB, hz, q⟩ := h
  cases rx
  cases ry
  obtain ⟨z, its, n, r, hl, e⟩ := I.lstM hH
  obtain ⟨z2, its2, n2, r2, hl2, e2⟩ := I.lstM hB
  refine PySem.P.add_list e e2 ?_ (by rw [List.size_toArray, List.size_toArray]; omega)
  have ea : its.toArray ++ its2.toArray = (its ++ its2).toArray := by simp
  rw [ea]
  exact ⟨.ref _, _, I.lnew (t' := s.toks) (r.append r2) (by rw [List.length_append]; omega), rfl, q _ I.fresh⟩
def rRep : R2 := fun x y H Q => ∃ l k xs, x = .ref l ∧ y = .int k ∧ H l = some (.lst xs) ∧ -(2 ^ 63) ≤ k ∧ k < 2 ^ 63 ∧ xs.length * k.toNat ≤ sizeLine ∧
  ∀ p, H p = none → Q (.ref p) (upd H p (.lst (List.replicate k.toNat xs).flatten))
theorem len_rep {α : Type} (xs : List α) (k : Nat) : (List.replicate k xs).flatten.length = k * xs.length := by
  induction k with
  | zero => simp
  | succ k ih => rw [List.replicate_succ, List.flatten_cons, List.length_append, ih, Nat.succ_mul, Nat.add_comm]
theorem op_rep : OpR X (binaryOp .Mult) rRep := by
  intro pins s σ H x y v u Q I rx ry h
  obtain ⟨l, k, xs, rfl, rfl, hH, h1, h2, hz, q⟩ := h
  cases rx
  obtain ⟨t, rfl⟩ := ry
  obtain ⟨z, its, n, r, hl, e⟩ := I.lstM hH
  have hlen : its.toArray.size * k.toNat ≤ sizeLine := by rw [List.size_toArray, ← hl]; exact hz
  have hcap : ¬ its.toArray.size * k.toNat > (2 ^ 63 - 1) / 8 := by
    have : (sizeLine : Nat) ≤ (2 ^ 63 - 1) / 8 := by decide
    omega
  have hfit : ¬ (!Builtin.List.listFitsIndex k) = true := by
    rw [fitsIndex_both h1 h2]
    exact Bool.false_ne_true
  have hlong : ¬ Builtin.List.listTooLong (its.toArray.size * k.toNat) = true := by
    rw [notLongL hlen]
    exact Bool.false_ne_true
  have hnew : List.foldl (fun x1 x2 => x1 ++ x2) #[] (List.replicate (if its.toArray.isEmpty = true then 0 else k.toNat) its.toArray) = (List.replicate k.toNat its).flatten.toArray := by
    have f0 : ∀ m : Nat, List.foldl (fun x1 x2 => x1 ++ x2) #[] (List.replicate m its.toArray) = (List.replicate m its).flatten.toArray := fun m => by
      have := foldl_rep its m []
      rw [List.nil_append] at this
      exact this
    rw [f0]
    cases its with
    | nil => simp
    | cons a r' => rw [if_neg (by simp)]
  refine wpAny_binaryOp_repeat_ref (T := "list") (U := "int") (by decide) ⟨_, e, rfl⟩ (fun s' => typeIs_int s' k t) noFill_list_mul F.fills_int_mul F.slot_int_rmul repeat_list F.slot_int_index.lookup
    (call_meets F.slot_int_rmul (typeIs_int s k t) F.entry_int_rmul (F.args_int_rmul_2 _ _) (int___rmul___int_list k t l its.toArray n)
      ⟨e, rfl, ⟨_, e, rfl⟩, call_meets F.slot_list_mul ⟨_, e, rfl⟩ F.entry_list_mul (F.args_list_mul_2 _ _) (AutoListH.list___mul___list_int_3 l its.toArray n k t hfit hcap hlong) ⟨e, ?_⟩⟩)
  rw [hnew]
  exact ⟨.ref _, _, I.lnew (t' := s.toks) (r.rep k.toNat) (by rw [len_rep, Nat.mul_comm]; exact hz), rfl, q _ I.fresh⟩
end
section
variable {prog : Program} {w : World} {A : Around} {E : Value → Shared → Prop} {s : Shared}
end
section
variable {X : Cx}
end
end L2
namespace L2
open PySem PySem.Spec PyProof.Rows
theorem Vals.ints : ∀ {ns : List Int} {us : List Value}, Vals (ns.map V.int) us → IntsAre us ns
  | [], us, h => by
    rw [List.map_nil] at h
    cases h
    exact IntsAre.nil
  | n :: ns, us, h => by
    rw [List.map_cons] at h
    cases h with
    | cons r t =>
      obtain ⟨k, rfl⟩ := r
      exact IntsAre.cons n k (Vals.ints t)
theorem vals_of_ints : ∀ {us : List Value} {ns : List Int}, IntsAre us ns → Vals (ns.map V.int) us
  | _, _, .nil => by rw [List.map_nil]; exact Paired.nil
  | _, _, .cons n t h => by rw [List.map_cons]; exact Paired.cons (show RelV (V.int n) (Value.int n t) from ⟨t, rfl⟩) (vals_of_ints h)
theorem Vals.bls : ∀ {bs : List Bool} {us : List Value}, Vals (bs.map V.bl) us → us = bs.map Value.bool
  | [], us, h => by
    rw [List.map_nil] at h
    cases h
    rfl
  | b :: bs, us, h => by
    rw [List.map_cons] at h
    cases h with
    | cons r t =>
      cases r
      rw [Vals.bls t, List.map_cons]
theorem Vals.ref1 {a : Addr} {us : List Value} (r : Vals [V.ref a] us) : us = [Value.ref a] := by
  cases r with
  | cons r t =>
    cases t
    cases r
    rfl
section
variable {prog : Program} {w : World} {A : Around} {E : Value → Shared → Prop} {s : Shared} {l : Addr} {its : List Value} {ns : List Int} {Q : Value → Shared → Prop}
theorem sum_raw (hh : A.handled = none) (hl : s.heap.IsList l its.toArray) (hi : IntsAre its ns)
    (h : ∀ h' tk t', (∀ b o, s.heap.get? b = some o → h'.get? b = some o) → Q (.int ns.sum t') { s with heap := h', toks := tk }) : wpAny (model prog w) A (call (.builtin "sum") [.ref l]) Q E s := by
  obtain ⟨xs, e⟩ := hi.allInts.items
  have hn : numsOf (intItems xs).toList = ns := by rw [← e]; exact hi.numsOf
  rw [nums_intItems] at hn
  rw [e] at hl
  refine PySem.sum_intListG hh hl fun h' tk t' hk => ?_
  have := h h' tk t' hk
  rw [preSum_eq, List.take_of_length_le (by simp), hn]; exact this
end
section
variable {X : Cx}
def rSum (K : PySem.W.Frag) : List V → Hp → VK → Prop := fun vs H Q => ∃ (a : Addr) (ns : List Int), vs = [V.ref a] ∧ SqL K H a (ns.map V.int) ∧ Q (.int ns.sum) H
theorem cr_sum (hc : X.calm = true) : CallR X (.builtin "sum") (rSum X.K) := by
  intro pins s σ H vs us Q I r h
  obtain ⟨a, ns, rfl, hs, q⟩ := h
  obtain ⟨its, rv, hl, _⟩ := I.list hs
  rw [Vals.ref1 r]
  exact sum_raw (I.ok.hd hc) hl.isList rv.ints fun h' tk t' hk => ⟨.int _, H, I.kept hk, ⟨_, rfl⟩, q⟩
end
section
variable {X : Cx}
end
section
variable {X : Cx}
end
theorem iter_any {prog : Program} {w : World} {A : Around} {E : Value → Shared → Prop} {s : Shared} {l : Addr} {items : Array Value} {Q : Value → Shared → Prop} (hl : s.heap.IsList l items)
    (h : ∀ s₂ : Shared, s₂ = { s with heap := s.heap.push { cls := .type "list_iterator", data := .fields #[.ref l, .int 0 0] } } →
      (s₂.heap.IsListIter s.heap.objs.size l 0 ∧ s₂.heap.IsList l items) → l ≠ s.heap.objs.size → Q (.ref s.heap.objs.size) s₂) : wpAny (model prog w) A (pyIter (.ref l)) Q E s := by
  have hlt : l < s.heap.objs.size := by obtain ⟨_, e, _⟩ := hl; exact Heap.lt_size e
  exact wpAny_pyIter_list hl (h _ rfl ⟨⟨_, Heap.get?_push_size _ rfl, rfl, rfl⟩, hl.push _⟩ (Nat.ne_of_lt hlt))
theorem truth_bools {prog : Program} {w : World} {A : Around} {bs : List Bool} {its : List Value} (e : its = bs.map Value.bool) :
    TruthOf prog w A (fun i v => its.toArray[i]? = some v) (fun i => bs.getD i false) := fun i v s Q E hv hq => by
  have hv' : its[i]? = some v := by simpa using hv
  rw [e, List.getElem?_map] at hv'
  obtain ⟨b, hb, rfl⟩ := Option.map_eq_some_iff.mp hv'
  have hg : bs.getD i false = b := by rw [List.getD_eq_getElem?_getD, hb] <;> rfl
  have hq' : Q (bs.getD i false) s := hq
  rw [hg] at hq'
  exact wpAny_truthy_bool hq'
theorem any_range : ∀ bs : List Bool, (List.range bs.length).any (fun i => bs.getD i false) = bs.any id
  | [] => rfl
  | b :: bs => by
    rw [List.length_cons, List.range_succ_eq_map, List.any_cons, List.any_map, List.any_cons, ← any_range bs]
    all_goals rfl
theorem all_range : ∀ bs : List Bool, (List.range bs.length).all (fun i => bs.getD i false) = bs.all id
  | [] => rfl
  | b :: bs => by
    rw [List.length_cons, List.range_succ_eq_map, List.all_cons, List.all_map, List.all_cons, ← all_range bs]
    all_goals rfl
section
variable {X : Cx}
def rAny (K : PySem.W.Frag) : List V → Hp → VK → Prop := fun vs H Q => ∃ (a : Addr) (bs : List Bool), vs = [V.ref a] ∧ SqL K H a (bs.map V.bl) ∧ Q (.bl (bs.any id)) H
def rAll (K : PySem.W.Frag) : List V → Hp → VK → Prop := fun vs H Q => ∃ (a : Addr) (bs : List Bool), vs = [V.ref a] ∧ SqL K H a (bs.map V.bl) ∧ Q (.bl (bs.all id)) H
theorem cr_any (hc : X.calm = true) : CallR X (.builtin "any") (rAny X.K) := by
  intro pins s σ H vs us Q I r h
  obtain ⟨a, bs, rfl, hs, q⟩ := h
  obtain ⟨its, rv, hl, _⟩ := I.list hs
  rw [Vals.ref1 r]
  have hb := rv.bls
  refine call_any_walk (iter_any hl.isList fun s₂ e2 st hne => ?_)
  subst e2
  refine ⟨_, _, _, _, _, _, _, rfl, Walks.list (A := X.A.in1) (I.ok.hd hc) _ a hne its.toArray, st, truth_bools hb, fun h' tk hk => ?_⟩
  refine ⟨.bl _, H, I.kept fun b o eo => hk b o (fun hmem => ?_) (Heap.get?_push_of_some _ eo), ?_, q⟩
  · rcases List.mem_cons.mp hmem with e1 | hmem
    · exact absurd (e1 ▸ Heap.lt_size eo) (Nat.lt_irrefl _)
    · cases hmem
  · show Value.bool _ = Value.bool _
    rw [← any_range, hb, List.size_toArray, List.length_map]
theorem cr_all (hc : X.calm = true) : CallR X (.builtin "all") (rAll X.K) := by
  intro pins s σ H vs us Q I r h
  obtain ⟨a, bs, rfl, hs, q⟩ := h
  obtain ⟨its, rv, hl, _⟩ := I.list hs
  rw [Vals.ref1 r]
  have hb := rv.bls
  refine call_all_walk (iter_any hl.isList fun s₂ e2 st hne => ?_)
  subst e2
  refine ⟨_, _, _, _, _, _, _, rfl, Walks.list (A := X.A.in1) (I.ok.hd hc) _ a hne its.toArray, st, truth_bools hb, fun h' tk hk => ?_⟩
  refine ⟨.bl _, H, I.kept fun b o eo => hk b o (fun hmem => ?_) (Heap.get?_push_of_some _ eo), ?_, q⟩
  · rcases List.mem_cons.mp hmem with e1 | hmem
    · exact absurd (e1 ▸ Heap.lt_size eo) (Nat.lt_irrefl _)
    · cases hmem
  · show Value.bool _ = Value.bool _
    rw [← all_range, hb, List.size_toArray, List.length_map]
end
mutual
inductive Dp (K : PySem.W.Frag) (H : Hp) : V → PyData → Prop
  | non : Dp K H .non .none
  | bl (b : Bool) : Dp K H (.bl b) (.bool b)
  | int (i : Int) : Dp K H (.int i) (.int i)
  | str (x : Str) : Dp K H (.str x) (.str x)
  | lst {a : Addr} {xs : List V} {ds : List PyData} : SqL K H a xs → DpAll K H xs ds → Dp K H (.ref a) (.list ds)
  | tup {a : Addr} {xs : List V} {ds : List PyData} : SqT K H a xs → DpAll K H xs ds → Dp K H (.ref a) (.tuple ds)
inductive DpAll (K : PySem.W.Frag) (H : Hp) : List V → List PyData → Prop
  | nil : DpAll K H [] []
  | cons {v : V} {vs : List V} {d : PyData} {ds : List PyData} : Dp K H v d → DpAll K H vs ds → DpAll K H (v :: vs) (d :: ds)
end
section
variable {X : Cx} {pins : List (Addr × Obj)} {σ : St} {H : Hp} {s : Shared}
mutual
theorem Dp.reads (I : Inv X pins σ H s) : ∀ (d : PyData) (v : V) (u : Value), Dp X.K H v d → RelV v u → ∃ as, Reads s.heap u d as
  | .none, _, _, h, r => by
    cases h
    cases r
    exact ⟨_, Reads.none⟩
  | .bool b, _, _, h, r => by
    cases h
    cases r
    exact ⟨_, Reads.bool b⟩
  | .int i, _, _, h, r => by
    cases h
    obtain ⟨t, rfl⟩ := r
    exact ⟨_, Reads.int i t⟩
  | .str x, _, _, h, r => by
    cases h
    obtain ⟨t, rfl⟩ := r
    exact ⟨_, Reads.str x t⟩
  | .list ds, _, _, h, r => by
    cases h with
    | lst hs ha =>
      cases r
      obtain ⟨its, rv, ⟨o, n, ho, hc, _, hd⟩, _⟩ := I.list hs
      obtain ⟨as, hr⟩ := Dp.readsAll I ds _ its ha rv
      exact ⟨_, Reads.list ho hc hd hr⟩
  | .tuple ds, _, _, h, r => by
    cases h with
    | tup hs ha =>
      cases r
      obtain ⟨its, rv, ⟨o, ho, hc, n, hd⟩, _⟩ := I.tuple hs
      obtain ⟨as, hr⟩ := Dp.readsAll I ds _ its ha rv
      exact ⟨_, Reads.tuple ho hc hd hr⟩
  | .dict _, _, _, h, _ => by cases h
theorem Dp.readsAll (I : Inv X pins σ H s) : ∀ (ds : List PyData) (vs : List V) (us : List Value), DpAll X.K H vs ds → Vals vs us → ∃ as, ReadsAll s.heap us ds as
  | [], _, _, h, r => by
    cases h
    cases r
    exact ⟨_, ReadsAll.nil⟩
  | d :: ds, _, _, h, r => by
    cases h with
    | cons h1 h2 =>
      cases r with
      | cons r1 r2 =>
        obtain ⟨as, q1⟩ := Dp.reads I d _ _ h1 r1
        obtain ⟨bs, q2⟩ := Dp.readsAll I ds _ _ h2 r2
        exact ⟨_, ReadsAll.cons q1 q2⟩
end
end
section
variable {X : Cx}
def rEqD (K : PySem.W.Frag) : R2 := fun x y H Q => ∃ d e, Dp K H x d ∧ Dp K H y e ∧ SeqAt.shaped d = true ∧ SeqAt.shaped e = true ∧ Q (.bl (PyData.eqv d e)) H
theorem op_eqD (hu : X.A.units + 64 < cLine) : OpR X (compareOp .Eq) (rEqD X.K) := by
  intro pins s σ H x y v u Q I rx ry h
  obtain ⟨d, e, hd, he, sd, se, q⟩ := h
  obtain ⟨as, r1⟩ := Dp.reads I d x v hd rx
  obtain ⟨bs, r2⟩ := Dp.reads I e y u he ry
  exact SeqAt.compareEq_shaped r1 r2 sd se hu ⟨.bl _, H, I, rfl, q⟩
end
end L2
namespace L2
open PySem PySem.Spec PyProof.Rows
abbrev CellAt (h : Heap) (c : Addr) (v : Option Value) : Prop := h.IsCell c v
def relS (scope sc : Scope) : Scope :=
  { scope with names := scope.names.map fun (n, k) => if (k == .free && sc.kind == .function && sc.names.lookup n == some .cell) then (n, .cell) else (n, k) }
def cloFrom (cells : List (Str × Addr)) : List (Str × NameKind) → List (Str × Addr) → List (Str × Addr)
  | [], acc => acc
  | (n, k) :: r, acc => if k == .free then cloFrom cells r ((n, (cells.lookup n).getD 0) :: acc) else cloFrom cells r acc
theorem closure_loop (env : Env) (f : Str × NameKind → List (Str × Addr) → Sem (ForInStep (List (Str × Addr))))
    (hf : ∀ n k c, f (n, k) c = if k == .free then (do let a ← cellOf env n; pure (.yield ((n, a) :: c))) else pure (.yield c)) :
    ∀ (names : List (Str × NameKind)) (acc : List (Str × Addr)), (∀ y ∈ names, y.2 = .free → ∃ c, env.cells.lookup y.1 = some c) → forIn names acc f = pure (cloFrom env.cells names acc)
  | [], acc, _ => by rw [List.forIn_nil]; rfl
  | (n, k) :: r, acc, h => by
    rw [List.forIn_cons, hf]
    have ih := fun acc => closure_loop env f hf r acc fun y hy => h y (List.mem_cons_of_mem _ hy)
    unfold cloFrom
    by_cases hk : (k == NameKind.free) = true
    · rw [if_pos hk, if_pos hk]
      obtain ⟨c, hc⟩ := h (n, k) List.mem_cons_self (by simpa using hk)
      have e : cellOf env n = pure c := by unfold cellOf; rw [hc]
      rw [e]
      have e2 : (env.cells.lookup n).getD 0 = c := by rw [hc]; rfl
      rw [e2]
      exact ih _
    · rw [if_neg hk, if_neg hk]
      exact ih _
theorem closure_ok {scope : Scope} {env : Env} (h : ∀ y ∈ scope.names, y.2 = .free → ∃ c, env.cells.lookup y.1 = some c) : closureFor scope env = pure (cloFrom env.cells scope.names []) := by
  simp only [closureFor]
  rw [closure_loop env _ (fun n k c => rfl) scope.names [] h]
  rfl
theorem mem_lookup {α : Type} : ∀ {l : List (Str × α)} {n : Str} {c : α}, (n, c) ∈ l → ∃ c', l.lookup n = some c'
  | (k, v) :: r, n, c, h => by
    rw [List.lookup_cons]
    cases hb : n == k with
    | true => exact ⟨_, rfl⟩
    | false =>
      rcases List.mem_cons.mp h with e | h
      · cases e; simp at hb
      · exact mem_lookup h
theorem cloFrom_mem {cells : List (Str × Addr)} : ∀ {names : List (Str × NameKind)} {acc : List (Str × Addr)} {n : Str} {c : Addr}, (n, c) ∈ cloFrom cells names acc → (n, c) ∈ acc ∨ ((n, .free) ∈ names ∧ c = (cells.lookup n).getD 0)
  | [], _, _, _, h => .inl h
  | (m, k) :: r, acc, n, c, h => by
    unfold cloFrom at h
    split at h
    · rename_i hk
      have hk : k = .free := by simpa using hk
      rcases cloFrom_mem h with h | ⟨h1, h2⟩
      · rcases List.mem_cons.mp h with e | h
        · cases e; exact .inr ⟨hk ▸ List.mem_cons_self, rfl⟩
        · exact .inl h
      · exact .inr ⟨List.mem_cons_of_mem _ h1, h2⟩
    · rcases cloFrom_mem h with h | ⟨h1, h2⟩
      · exact .inl h
      · exact .inr ⟨List.mem_cons_of_mem _ h1, h2⟩
theorem cloFrom_acc {cells : List (Str × Addr)} : ∀ {names : List (Str × NameKind)} {acc : List (Str × Addr)} {p : Str × Addr}, p ∈ acc → p ∈ cloFrom cells names acc
  | [], _, _, h => h
  | (m, k) :: r, acc, p, h => by
    unfold cloFrom
    split
    · exact cloFrom_acc (List.mem_cons_of_mem _ h)
    · exact cloFrom_acc h
theorem cloFrom_has {cells : List (Str × Addr)} : ∀ {names : List (Str × NameKind)} {acc : List (Str × Addr)} {n : Str}, (n, .free) ∈ names → (n, (cells.lookup n).getD 0) ∈ cloFrom cells names acc
  | (m, k) :: r, acc, n, h => by
    unfold cloFrom
    rcases List.mem_cons.mp h with e | h
    · cases e
      exact cloFrom_acc List.mem_cons_self
    · split
      · exact cloFrom_has h
      · exact cloFrom_has h
theorem cells_mem : ∀ {names : List (Str × NameKind)} {h : Heap} {acc : List (Str × Addr)} {x : Str} {c : Addr}, (x, c) ∈ cellsFrom h.objs.size names acc →
    (x, c) ∈ acc ∨ ((x, .cell) ∈ names ∧ h.objs.size ≤ c ∧ CellAt (pushCells h names) c none)
  | [], _, _, _, _, h => .inl h
  | (n, k) :: r, h, acc, x, c, hm => by
    unfold cellsFrom at hm
    unfold pushCells
    split at hm
    · rename_i hk
      rw [if_pos hk]
      have hk : k = .cell := by simpa using hk
      rw [← Heap.size_push h { cls := .type "cell", data := .cell none }] at hm
      rcases cells_mem hm with hm | ⟨h1, h2, h3⟩
      · rcases List.mem_cons.mp hm with e | hm
        · cases e
          exact .inr ⟨hk ▸ List.mem_cons_self, Nat.le_refl _, _, pushCells_keeps r _ _ _ (Heap.get?_push_size _ rfl), rfl⟩
        · exact .inl hm
      · rw [Heap.size_push] at h2
        exact .inr ⟨List.mem_cons_of_mem _ h1, Nat.le_of_succ_le h2, h3⟩
    · rename_i hk
      rw [if_neg hk]
      rcases cells_mem hm with hm | ⟨h1, h2, h3⟩
      · exact .inl hm
      · exact .inr ⟨List.mem_cons_of_mem _ h1, h2, h3⟩
theorem cells_acc : ∀ {names : List (Str × NameKind)} {n : Nat} {acc : List (Str × Addr)} {p : Str × Addr}, p ∈ acc → p ∈ cellsFrom n names acc
  | [], _, _, _, h => h
  | (m, k) :: r, n, acc, p, h => by
    unfold cellsFrom
    split
    · exact cells_acc (List.mem_cons_of_mem _ h)
    · exact cells_acc h
theorem cells_has : ∀ {names : List (Str × NameKind)} {n : Nat} {acc : List (Str × Addr)} {x : Str}, (x, .cell) ∈ names → ∃ c, (x, c) ∈ cellsFrom n names acc
  | (m, k) :: r, n, acc, x, h => by
    unfold cellsFrom
    rcases List.mem_cons.mp h with e | h
    · cases e
      exact ⟨n, cells_acc List.mem_cons_self⟩
    · split
      · exact cells_has h
      · exact cells_has h
theorem cells_inj : ∀ {names : List (Str × NameKind)} {h : Heap} {acc : List (Str × Addr)} {x y : Str} {c : Addr}, (∀ p ∈ acc, p.2 < h.objs.size) → (∀ x y c, (x, c) ∈ acc → (y, c) ∈ acc → x = y) →
    (x, c) ∈ cellsFrom h.objs.size names acc → (y, c) ∈ cellsFrom h.objs.size names acc → x = y
  | [], _, _, _, _, _, _, hi, h1, h2 => hi _ _ _ h1 h2
  | (n, k) :: r, h, acc, x, y, c, hl, hi, h1, h2 => by
    unfold cellsFrom at h1 h2
    split at h1
    · rename_i hk
      rw [if_pos hk] at h2
      rw [← Heap.size_push h { cls := .type "cell", data := .cell none }] at h1 h2
      refine cells_inj (h := h.push _) (fun p hp => ?_) (fun x y c a b => ?_) h1 h2
      · rw [Heap.size_push]
        rcases List.mem_cons.mp hp with rfl | hp
        · exact Nat.lt_succ_self _
        · exact Nat.lt_succ_of_lt (hl p hp)
      · rcases List.mem_cons.mp a with e | a <;> rcases List.mem_cons.mp b with e' | b
        · cases e; cases e'; rfl
        · cases e; exact absurd (hl _ b) (Nat.lt_irrefl _)
        · cases e'; exact absurd (hl _ a) (Nat.lt_irrefl _)
        · exact hi _ _ _ a b
    · rename_i hk
      rw [if_neg hk] at h2
      exact cells_inj hl hi h1 h2
theorem newEnv_comp {M : Model} {A : Around} {E : Value → Shared → Prop} {s : Shared} {scope : Scope} {globals : Addr} {closure : List (Str × Addr)} {qual : Str} {func : Option Addr} {code : Value} {around : Env} {builtins : Addr} {Q : Env → Shared → Prop}
    (h : Q (newEnv scope s.heap.objs.size globals (cellsFrom (s.heap.objs.size + 1) scope.names closure) qual func code (some around) builtins)
      { s with heap := pushCells (s.heap.push { cls := .type "dict", data := .dict #[] }) scope.names }) :
    wpAny M A (newFunctionEnv scope globals closure [] qual func code (some around) builtins) Q E s := by
  simp only [newFunctionEnv, Option.isSome_some, if_true]
  refine wpAny_bind (wpAny_alloc ?_)
  refine wpAny_bind (wpAny_layCells _ (fun n k c => rfl) scope.names closure _ _ ?_)
  rw [show ({ s with heap := s.heap.push { cls := .type "dict", data := .dict #[] } } : Shared).heap.objs.size = s.heap.objs.size + 1 from Heap.size_push ..]
  rw [List.forIn_nil]
  exact wpAny_bind (wpAny_pure (wpAny_pure h))
theorem lookup_relS {sc : Scope} : ∀ {names : List (Str × NameKind)} {x : Str} {k : NameKind},
    (names.map fun (n, k) => if (k == NameKind.free && sc.kind == .function && sc.names.lookup n == some .cell) then (n, NameKind.cell) else (n, k)).lookup x = some k →
    ∃ k', names.lookup x = some k' ∧ (k = k' ∨ (k' = .free ∧ k = .cell))
  | [], _, _, h => by simp at h
  | (n, k₀) :: r, x, k, h => by
    have ih := @lookup_relS sc r x k
    have h' : List.lookup x ((if (k₀ == NameKind.free && sc.kind == .function && sc.names.lookup n == some .cell) = true then (n, NameKind.cell) else (n, k₀)) :: (r.map _)) = some k := h
    cases hx : x == n with
    | true =>
      simp only [List.lookup_cons, hx]
      by_cases hc : (k₀ == NameKind.free && sc.kind == .function && sc.names.lookup n == some .cell) = true
      · rw [if_pos hc] at h'
        simp only [List.lookup_cons, hx] at h'
        cases h'
        simp only [Bool.and_eq_true, beq_iff_eq] at hc
        exact ⟨k₀, rfl, .inr ⟨hc.1.1, rfl⟩⟩
      · rw [if_neg hc] at h'
        simp only [List.lookup_cons, hx] at h'
        cases h'
        exact ⟨_, rfl, .inl rfl⟩
    | false =>
      simp only [List.lookup_cons, hx]
      by_cases hc : (k₀ == NameKind.free && sc.kind == .function && sc.names.lookup n == some .cell) = true
      · rw [if_pos hc] at h'
        simp only [List.lookup_cons, hx] at h'
        exact ih h'
      · rw [if_neg hc] at h'
        simp only [List.lookup_cons, hx] at h'
        exact ih h'
structure BlkOk (N : List Str) (sc scope : Scope) (own : List (Str × Nat)) : Prop where
  kind : scope.kind = .function
  uniq : ∀ y ∈ scope.names, scope.names.lookup y.1 = some y.2
  ix : ∀ p ∈ own, N[p.2]? = some p.1
  free : ∀ y ∈ scope.names, y.2 = .free → sc.names.lookup y.1 = some .cell ∨ sc.names.lookup y.1 = some .free
  own : ∀ y ∈ scope.names, y.2 = .local ∨ y.2 = .cell → y.1 ∈ own.map (·.1) ∨ y.1 ∉ N
def wipe (σ : St) : List Nat → St
  | [] => σ
  | v :: vs => (wipe σ vs).set v none
theorem wipe_length (σ : St) : ∀ vs : List Nat, (wipe σ vs).length = σ.length
  | [] => rfl
  | v :: vs => by unfold wipe; rw [List.length_set, wipe_length σ vs]
theorem wipe_some {σ : St} {i : Nat} {x : V} : ∀ {vs : List Nat}, (wipe σ vs)[i]? = some (some x) → σ[i]? = some (some x) ∧ i ∉ vs
  | [], h => ⟨h, by simp⟩
  | v :: vs, h => by
    unfold wipe at h
    by_cases hi : v = i
    · subst hi
      by_cases hv : v < (wipe σ vs).length
      · rw [List.getElem?_set_self hv] at h; cases h
      · rw [List.getElem?_eq_none (by simpa using hv)] at h; cases h
    · rw [List.getElem?_set_ne hi] at h
      obtain ⟨h1, h2⟩ := wipe_some h
      exact ⟨h1, by simp only [List.mem_cons, not_or]; exact ⟨fun e => hi e.symm, h2⟩⟩
abbrev Cx.blk (X : Cx) (s : Shared) (H : Hp) (scope : Scope) (cenv : Env) (fp : List Addr) : Cx := { X with s_0 := s, H_0 := H, env := cenv, outer := X.stack, ex := fp, fn := fun x => scope.names.lookup x == some .cell, pn := [], xe := fun _ _ => False }
section
variable {X : Cx} {pins : List (Addr × Obj)} {σ : St} {H : Hp} {s : Shared}
theorem block_start {scope : Scope} {own : List (Str × Nat)} {fp : List Addr} (I : Inv X pins σ H s) (ok : BlkOk X.N X.env.scope scope own) (hN : X.N.Nodup) (hfp : ∀ b ∈ fp, FpOk X pins H b ∧ b < s.heap.objs.size) :
    Inv (X.blk s H scope (compEnvC scope (cellsFrom (s.heap.objs.size + 1) scope.names (cloFrom X.env.cells scope.names [])) s.heap.objs.size X.env) fp) [] (wipe σ (own.map (·.2))) H { s with heap := pushCells (s.heap.push { cls := .type "dict", data := .dict #[] }) scope.names } := by
  have hfree : ∀ y ∈ scope.names, y.2 = .free → ∃ c, X.env.cells.lookup y.1 = some c := fun y hy e => by
    rcases ok.free y hy e with k | k
    · exact I.ok.has _ (.inl k)
    · exact I.ok.has _ (.inr k)
  generalize hcenv : compEnvC scope (cellsFrom (s.heap.objs.size + 1) scope.names (cloFrom X.env.cells scope.names [])) s.heap.objs.size X.env = cenv
  have kp : ∀ b o, s.heap.get? b = some o → (pushCells (s.heap.push { cls := .type "dict", data := .dict #[] }) scope.names).get? b = some o := fun b o e => pushCells_keeps _ _ _ _ (Heap.get?_push_of_some _ e)
  have hL : cenv.locals = s.heap.objs.size := by rw [← hcenv]; rfl
  have hcl : cenv.cells = cellsFrom (s.heap.objs.size + 1) scope.names (cloFrom X.env.cells scope.names []) := by rw [← hcenv]; rfl
  have hsc : cenv.scope = relS scope X.env.scope := by rw [← hcenv]; rfl
  rw [← Heap.size_push s.heap { cls := .type "dict", data := .dict #[] }] at hcl
  have cm : ∀ {y c}, (y, c) ∈ cloFrom X.env.cells scope.names [] → X.env.cells.lookup y = some c ∧ c < s.heap.objs.size := fun {y c} hm => by
    rcases cloFrom_mem hm with hm | ⟨h1, rfl⟩
    · cases hm
    · obtain ⟨c, hc⟩ := hfree _ h1 rfl
      rw [hc]
      obtain ⟨w, z⟩ := I.cell _ _ hc
      exact ⟨rfl, z.lt⟩
  have mem : ∀ {y c}, cenv.cells.lookup y = some c → (X.env.cells.lookup y = some c ∧ c < s.heap.objs.size) ∨ (s.heap.objs.size + 1 ≤ c ∧ CellAt (pushCells (s.heap.push { cls := .type "dict", data := .dict #[] }) scope.names) c none) := fun {y c} e => by
    rw [hcl] at e
    rcases cells_mem (PySem.mem_of_lookup e) with hm | ⟨_, h2, h3⟩
    · exact .inl (cm hm)
    · rw [Heap.size_push] at h2; exact .inr ⟨h2, h3⟩
  have look : ∀ {y}, scope.names.lookup y = some .free → ∃ c, cenv.cells.lookup y = some c ∧ X.env.cells.lookup y = some c := fun {y} hl => by
    have hy : (y, NameKind.free) ∈ scope.names := PySem.mem_of_lookup hl
    obtain ⟨c', e'⟩ := mem_lookup (cells_acc (names := scope.names) (n := (s.heap.push { cls := .type "dict", data := .dict #[] }).objs.size) (cloFrom_has (cells := X.env.cells) (acc := []) hy))
    rw [← hcl] at e'
    refine ⟨c', e', ?_⟩
    rw [hcl] at e'
    rcases cells_mem (PySem.mem_of_lookup e') with hm | ⟨h1, _, _⟩
    · exact (cm hm).1
    · have := ok.uniq _ h1
      rw [hl] at this; cases this
  have okB : (X.blk s H scope cenv fp).Ok := by
    refine ⟨I.ok.mod, by show cenv.scope.kind = _; rw [hsc]; exact ok.kind, by show cenv.globals = _; rw [← hcenv]; exact I.ok.glob, by show cenv.builtins = _; rw [← hcenv]; exact I.ok.blt, by show s.heap.objs.size ≤ cenv.locals; rw [hL]; exact Nat.le_refl _,
      fun y z c e1 e2 => ?_, fun y hy => ?_, fun y c z e => ?_, I.ok.hd, I.ok.frames, .inl rfl, fun b hb => ⟨?_, fun y c e z => ?_⟩, I.bs, Nat.le_trans I.ok.bsz I.sz, fun b o e hb => ?_, fun b hb z => ?_, I.stack, I.stkFree⟩
    · have e1 : cenv.cells.lookup y = some c := e1
      have e2 : cenv.cells.lookup z = some c := e2
      rw [hcl] at e1 e2
      refine cells_inj (fun p hp => ?_) (fun y z c a b => I.ok.inj y z c (cm a).1 (cm b).1) (PySem.mem_of_lookup e1) (PySem.mem_of_lookup e2)
      rw [Heap.size_push]
      exact Nat.lt_succ_of_lt (cm (y := p.1) (c := p.2) hp).2
    · show ∃ c, cenv.cells.lookup y = some c
      have key : ∀ k, cenv.kindOf y = some k → (k = .cell ∨ k = .free) → ∃ c, cenv.cells.lookup y = some c := fun k hk hk' => by
        unfold Env.kindOf at hk
        rw [hsc] at hk
        obtain ⟨k', e, r⟩ := lookup_relS hk
        have : k' = .cell ∨ k' = .free := by
          rcases r with rfl | ⟨rfl, _⟩
          · exact hk'
          · exact .inr rfl
        rcases this with rfl | rfl
        · obtain ⟨c, hm⟩ := cells_has (n := (s.heap.push { cls := .type "dict", data := .dict #[] }).objs.size) (acc := cloFrom X.env.cells scope.names []) (PySem.mem_of_lookup e)
          obtain ⟨c', e'⟩ := mem_lookup hm
          exact ⟨c', by rw [hcl]; exact e'⟩
        · obtain ⟨c, h1, _⟩ := look e
          exact ⟨c, h1⟩
      rcases hy with hy | hy
      · exact key _ hy (.inl rfl)
      · exact key _ hy (.inr rfl)
    · have z : (scope.names.lookup y == some NameKind.cell) = true := z
      have z : scope.names.lookup y = some .cell := by simpa using z
      have e : cenv.cells.lookup y = some c := e
      rw [hcl] at e
      rcases cells_mem (PySem.mem_of_lookup e) with hm | ⟨_, h2, _⟩
      · rcases cloFrom_mem hm with hm | ⟨h1, _⟩
        · cases hm
        · have q := ok.uniq _ h1
          rw [z] at q; cases q
      · rw [Heap.size_push] at h2
        exact Nat.le_of_succ_le h2
    · show b ≠ cenv.locals
      rw [hL]; exact Nat.ne_of_lt (hfp b hb).2
    · have e : cenv.cells.lookup y = some c := e
      rcases mem e with ⟨h1, _⟩ | ⟨h1, _⟩
      · exact (hfp b hb).1.2.2.2.2.1 y c h1 z
      · have h2 : s.heap.objs.size + 1 ≤ b := by rw [← z]; exact h1
        exact absurd (Nat.lt_of_lt_of_le (hfp b hb).2 (Nat.le_of_succ_le h2)) (Nat.lt_irrefl _)
    · rcases (hfp b hb).1.2.2.2.1 with z | z
      · exact I.ok.noex b o e z
      · exact absurd (Nat.lt_of_lt_of_le (Heap.lt_size e) (Nat.le_trans I.ok.bsz z)) (Nat.lt_irrefl _)
    · rcases List.mem_cons.mp (I.stkSub b z) with z | z
      · exact (hfp b hb).1.2.1 z
      · exact (hfp b hb).1.2.2.1 z
  refine ⟨okB, rfl, I.bare, Un.kept kp, ⟨fun _ => none, ?_, fun i y av e1 e2 e3 => ?_⟩, fun y c e => ?_, ?_, fun y c e => ?_, fun p hp => ?_, I.hok.kept kp, by rw [wipe_length]; exact I.len⟩
  · show Heap.Ns _ cenv.locals _
    rw [hL]
    exact Heap.Ns.keeps (Heap.Ns.new ..) fun b o e => pushCells_keeps _ _ _ _ e
  · obtain ⟨e2, hne⟩ := wipe_some e2
    have hfr : scope.names.lookup y = some .free ∧ (cenv.kindOf y = some .cell ∨ cenv.kindOf y = some .free) := by
      have key : ∀ k, cenv.scope.names.lookup y = some k → k = .local ∨ k = .cell ∨ k = .free → scope.names.lookup y = some .free ∧ (cenv.kindOf y = some .cell ∨ cenv.kindOf y = some .free) := fun k hk hk' => by
        have hk0 := hk
        rw [hsc] at hk
        obtain ⟨k', e, r⟩ := lookup_relS hk
        have no : ¬ (k' = .local ∨ k' = .cell) := fun hh => by
          rcases ok.own _ (PySem.mem_of_lookup e) hh with e' | e'
          · obtain ⟨p, hp, hpy⟩ := List.mem_map.mp e'
            have e3 := ok.ix p hp
            have : p.1 = y := hpy
            rw [this] at e3
            exact hne (List.mem_map.mpr ⟨p, hp, nodup_ix hN e3 e1⟩)
          · exact e' (List.mem_of_getElem? e1)
        rcases r with rfl | ⟨rfl, rfl⟩
        · rcases hk' with rfl | rfl | rfl
          · exact absurd (.inl rfl) no
          · exact absurd (.inr rfl) no
          · exact ⟨e, .inr hk0⟩
        · exact ⟨e, .inl hk0⟩
      have e3 : Vis cenv.scope y := e3
      rcases e3 with e3 | e3 | e3
      · exact key _ e3 (.inl rfl)
      · exact key _ e3 (.inr (.inl rfl))
      · exact key _ e3 (.inr (.inr rfl))
    obtain ⟨m, hn, hl⟩ := I.loc
    have hvis : Vis X.env.scope y := (ok.free _ (PySem.mem_of_lookup hfr.1) rfl).elim (fun k => .inr (.inl k)) (fun k => .inr (.inr k))
    obtain ⟨w, r, q⟩ := hl i y av e1 e2 hvis
    refine ⟨w, r, .inr ⟨hfr.2, ?_⟩⟩
    obtain ⟨c, h1, h2⟩ := look hfr.1
    rcases q with ⟨k, _⟩ | ⟨_, c', e', z⟩
    · have k : X.env.scope.names.lookup y = some .local := k
      rcases ok.free _ (PySem.mem_of_lookup hfr.1) rfl with k' | k' <;> rw [show X.env.scope.names.lookup y = _ from k'] at k <;> cases k
    · rw [h2] at e'; cases e'
      exact ⟨c, h1, z.keeps kp⟩
  · have e : cenv.cells.lookup y = some c := e
    rcases mem e with ⟨h1, _⟩ | ⟨_, z⟩
    · obtain ⟨w, z⟩ := I.cell y c h1
      exact ⟨w, z.keeps kp⟩
    · exact ⟨_, z⟩
  · show H cenv.locals = none
    rw [hL]; exact I.hok.fresh (Nat.le_refl _)
  · have e : cenv.cells.lookup y = some c := e
    rcases mem e with ⟨h1, _⟩ | ⟨h1, _⟩
    · exact I.freeC y c h1
    · exact I.hok.fresh (Nat.le_of_succ_le h1)
  · exact absurd (show p ∈ ([] : List (Addr × Obj)) ++ [] from hp) (by simp)
theorem app_ok {E : Value → Shared → Prop} {D : Addr} {xs : List V} {y : V} {v : Value} {Q : Value → Shared → Prop} (I : Inv X pins σ H s) (hD : H D = some (.lst xs)) (hz : xs.length < sizeLine) (r : RelV y v)
    (h : ∀ s', Inv X pins σ (upd H D (.lst (xs ++ [y]))) s' → Q .none s') : wpAny (model X.prog X.w) X.A (call (.builtin "list.append") [.ref D, v]) Q E s := by
  obtain ⟨hz', its, n, ri, e⟩ := I.hok D _ hD
  have hl := ri.length
  refine append_at (hsz := by rw [List.size_toArray]; omega) e fun h' sb ho' => ?_
  refine h { s with heap := h' } (I.write (t' := s.toks) (by rw [hD]; trivial) (.inl rfl) (fun b u hb q => (sb.2 b hb).trans q) ⟨_, ho'⟩ ⟨by rw [List.length_append]; exact hz, its ++ [v], n + 1, ri.append (.cons r .nil), ?_⟩)
  rw [ho']
  simp
def PTs (X : Cx) (ifs : List Expr) (t : TT) : Prop :=
  ∀ (pins : List (Addr × Obj)) (s : Shared) (σ : St) (H : Hp) (Q : Bool → Hp → Prop), Inv X pins σ H s → t σ H Q →
    wpAny (model X.prog X.w) X.A (forIn ifs true fun c r => if r = true then do let ok ← isTrue c X.env (eval c X.env); pure (ForInStep.yield ok) else pure (ForInStep.yield r)) (TP X pins σ Q) X.xe s
def tYes : TT := fun _ H Q => Q true H
theorem pts_nil : PTs X [] tYes := fun _ _ _ H _ I h => wpAny_tests_nil ⟨H, I, h⟩
theorem pts_one {c : Expr} {t : TT} (h : PT X c t) : PTs X [c] t := fun pins s σ H Q I hw => wpAny_tests_one (h pins s σ H Q I hw)
end
theorem thnF {α : Type} {t : Sem α} {Q Q' : α → Shared → Prop} {M : Model} {A : Around} {E : Value → Shared → Prop} {s : Shared} (h : wpAny M A t Q (fun _ _ => False) s) (hQ : ∀ a s, Q a s → Q' a s) : wpAny M A t Q' E s := wpAny_mono h hQ fun _ _ z => False.elim z
theorem compLoop_any {prog : Program} {w : World} {A : Around} {R : Result → Shared → Prop} {s : Shared} {elt target iter : Expr} {ifs : List Expr} {scope : Scope} {pos : Pos} {it acc : Value} {env : Env} (I : Nat → Shared → Prop)
    (turn : ∀ n s, I n s → wpAny (model prog w) A (pyNext it) (fun r s₁ => match r with
      | none => R (.ok .next) s₁
      | some v => wpAny (model prog w) A (letOwnedTupleGo target it v) (fun _ s₁' => wpAny (model prog w) A (assign target env v) (fun _ s₂ =>
          wpAny (model prog w) A (forIn ifs true fun c r => if r = true then do let ok ← isTrue c env (eval c env); pure (ForInStep.yield ok) else pure (ForInStep.yield r)) (fun ok s₃ =>
            if ok = true then wpAny (model prog w) A (eval elt env) (fun x s₄ =>
              wpAny (model prog w) A (call (.builtin "list.append") [acc, x]) (fun _ s₅ => ∃ m, m < n ∧ I m s₅) (notedBy (model prog w) A env fun e s' => R (.error e) s') s₄) (notedBy (model prog w) A env fun e s' => R (.error e) s') s₃
            else ∃ m, m < n ∧ I m s₃) (notedBy (model prog w) A env fun e s' => R (.error e) s') s₂) (notedBy (model prog w) A env fun e s' => R (.error e) s') s₁') (notedBy (model prog w) A env fun e s' => R (.error e) s') s₁) (notedBy (model prog w) A env fun e s' => R (.error e) s') s)
    (n : Nat) (h : I n s) :
    codeAny (model prog w) A (.compLoop (.ListComp elt [⟨target, iter, ifs, 0⟩] scope pos) 0 it acc env) R s := by
  refine codeAny_loop rfl I (fun n s hI => ?_) n h
  show wpAny _ A ((compTurn (.ListComp elt [⟨target, iter, ifs, 0⟩] scope pos) 0 it acc env).onRaise (fun x => do noteFrame x env; theTreesLotGoes x)) _ _ s
  refine wpAny_noted ?_
  rw [compTurn_list]
  refine wpAny_bind (wpAny_standAt (wpAny_bind (wpAny_mono (turn n s hI) (fun r s₁ h₁ => ?_) fun _ _ h' => h')))
  cases r with
  | none => exact wpAny_pure h₁
  | some v =>
    refine wpAny_bind (wpAny_mono h₁ (fun _ s₁' h₁' => ?_) fun _ _ h' => h')
    refine wpAny_bind (wpAny_mono h₁' (fun _ s₂ h₂ => wpAny_bind (wpAny_mono h₂ (fun ok s₃ h₃ => ?_) fun _ _ h' => h')) fun _ _ h' => h')
    cases ok with
    | false => exact wpAny_pure ⟨rfl, h₃⟩
    | true =>
      exact wpAny_bind (wpAny_bind (wpAny_mono h₃ (fun x s₄ h₄ => wpAny_bind (wpAny_mono h₄ (fun _ s₅ h₅ => wpAny_pure (wpAny_pure ⟨rfl, h₅⟩)) fun _ _ h' => h')) fun _ _ h' => h'))
section
variable {X : Cx}
def tLc (wi : TI) (g : TG) (tt : TT) (te : TE) (vs : List Nat) : TE := fun σ H Q => wi σ H fun J H1 => ∀ D, H1 D = none → ∃ W : Nat → Nat → Hp → Prop, (∃ m, W 0 m (upd H1 D (.lst []))) ∧ ∀ i m H, W i m H →
  (J.stop i H ∧ Q (.ref D) H) ∨ (J.go i H ∧ ∃ Nx : Hp → Prop, (∀ H', Nx H' → ∃ m', m' < m ∧ W (i + 1) m' H') ∧ ∀ x H', J.yld i H x H' → g x (wipe σ vs) H' fun σ2 H2 => wipe σ2 vs = wipe σ vs ∧ tt σ2 H2 fun b H3 =>
    if b = true then te σ2 H3 fun y H4 => ∃ acc, H4 D = some (.lst acc) ∧ acc.length < sizeLine ∧ Nx (upd H4 D (.lst (acc ++ [y]))) else Nx H3)
theorem lc_core {pins : List (Addr × Obj)} {s : Shared} {σ : St} {H : Hp} {Q : VK} {elt tg iter : Expr} {ifs : List Expr} {scope : Scope} {own : List (Str × Nat)} {pos pos' : Pos} {wi : TI} {g : TG} {tt : TT} {te : TE} {use : Option (Value → Sem Unit)} {Qf : Value → Shared → Prop}
    (hc : X.calm = true) (hN : X.N.Nodup) (I : Inv X pins σ H s) (hi : PI X tg iter wi) (ok : BlkOk X.N X.env.scope scope own)
    (hg : ∀ (s : Shared) (H : Hp) (C : Addr) (cl : List (Str × Addr)) (fp : List Addr), PG (X.blk s H scope (compEnvC scope cl C X.env) fp) tg g) (ht : ∀ (s : Shared) (H : Hp) (C : Addr) (cl : List (Str × Addr)) (fp : List Addr), PTs (X.blk s H scope (compEnvC scope cl C X.env) fp) ifs tt)
    (he : ∀ (s : Shared) (H : Hp) (C : Addr) (cl : List (Str × Addr)) (fp : List Addr), PE (X.blk s H scope (compEnvC scope cl C X.env) fp) elt te) (hs : ∀ x, foldedSetIterable iter X.env x = pure x)
    (h : tLc wi g tt te (own.map (·.2)) σ H Q)
    (hRR : ∀ D C s' m H', Inv X pins σ H' s' → Q (.ref D) H' → s'.heap.Ns C m → FpOk X pins H' C → compPost (model X.prog X.w) X.A X.xe use Qf (.ref D) C (.ok .next) s') :
    wpAny (model X.prog X.w) X.A (comprehension (.ListComp elt [⟨tg, iter, ifs, 0⟩] scope pos) scope X.env pos' (newList []) false (eval iter X.env) use) Qf X.xe s := by
  have hfree : ∀ y ∈ scope.names, y.2 = .free → ∃ c, X.env.cells.lookup y.1 = some c := fun y hy e => by
    rcases ok.free y hy e with k | k
    · exact I.ok.has _ (.inl k)
    · exact I.ok.has _ (.inr k)
  refine wpAny_comprehension_free (use := use) rfl hs (closure_ok hfree) ok.kind (fun y hy e => by rw [ok.uniq y hy, e])
    (thn (hi pins s σ H _ I h) fun xv s1 hx => thn hx fun itv s2 h2 => ?_)
  obtain ⟨it, fp, tn, J, H2, e, I2, T, st2, f2, q⟩ := h2
  subst e
  refine wpAny_newObj_type (newEnv_comp ?_) (by show 0 ≤ sizeLine; decide)
  generalize hD : s2.heap.objs.size = D
  have hDn : H2 D = none := I2.hok.fresh (Nat.le_of_eq hD)
  obtain ⟨W, ⟨m0, w0⟩, turn⟩ := q D hDn
  generalize hs3 : ({ s2 with heap := s2.heap.push { cls := .type "list", data := .seq ([] : List Value).toArray } } : Shared) = s3
  have I3 : Inv X pins σ (upd H2 D (.lst [])) s3 := by
    rw [← hs3]
    refine I2.laid (t' := s2.toks) (fun b o e => Heap.get?_push_of_some _ e) (Nat.le_of_eq hD) ⟨Nat.zero_le _, [], 0, .nil, ?_⟩
    rw [← hD]
    exact Heap.get?_push_size _ rfl
  have h3 : s3.heap = s2.heap.push { cls := .type "list", data := .seq ([] : List Value).toArray } := by rw [← hs3]
  have sz : ∀ b ∈ fp, b < s2.heap.objs.size := fun b hb => by
    obtain ⟨o, e, _⟩ := T.obj _ _ st2 b hb
    exact Heap.lt_size e
  have f3 : ∀ b ∈ fp, FpOk X pins (upd H2 D (.lst [])) b ∧ b < s3.heap.objs.size := fun b hb => by
    have hlt := sz b hb
    refine ⟨⟨?_, (f2 b hb).2⟩, by rw [h3, Heap.size_push]; exact Nat.lt_succ_of_lt hlt⟩
    rw [upd_ne (by rw [← hD]; exact Nat.ne_of_lt hlt)]
    exact (f2 b hb).1
  have st3 : tn 0 s3.heap := T.keep _ _ _ st2 fun b _ o e => by rw [h3]; exact Heap.get?_push_of_some _ e
  have I4 := block_start I3 ok hN f3
  have pg := hg s3 (upd H2 D (.lst [])) s3.heap.objs.size (cellsFrom (s3.heap.objs.size + 1) scope.names (cloFrom X.env.cells scope.names [])) fp
  have pt := ht s3 (upd H2 D (.lst [])) s3.heap.objs.size (cellsFrom (s3.heap.objs.size + 1) scope.names (cloFrom X.env.cells scope.names [])) fp
  have pe := he s3 (upd H2 D (.lst [])) s3.heap.objs.size (cellsFrom (s3.heap.objs.size + 1) scope.names (cloFrom X.env.cells scope.names [])) fp
  show codeAny _ _ (.compStart (.ListComp elt [⟨tg, iter, ifs, 0⟩] scope pos) 0 (.ref it) (.ref D) (compEnvC scope (cellsFrom (s3.heap.objs.size + 1) scope.names (cloFrom X.env.cells scope.names [])) s3.heap.objs.size X.env)) (compPost (model X.prog X.w) X.A X.xe use Qf (.ref D) s3.heap.objs.size) { s3 with heap := pushCells (s3.heap.push { cls := .type "dict", data := .dict #[] }) scope.names }
  have nfp : ∀ b ∈ fp, (upd H2 D (.lst [])) b = none := fun b hb => (f3 b hb).1.1
  generalize hce : compEnvC scope (cellsFrom (s3.heap.objs.size + 1) scope.names (cloFrom X.env.cells scope.names [])) s3.heap.objs.size X.env = ce at I4 pg pt pe ⊢
  have cL : ce.locals = s3.heap.objs.size := by subst hce; rfl
  generalize hH3 : upd H2 D (.lst []) = H3 at I3 I4 pg pt pe w0 nfp f3
  generalize hs4 : ({ s3 with heap := pushCells (s3.heap.push { cls := .type "dict", data := .dict #[] }) scope.names } : Shared) = s4 at I4 ⊢
  have st4 : tn 0 s4.heap := T.keep _ _ _ st3 fun b _ o e => by rw [← hs4]; exact pushCells_keeps _ _ _ _ (Heap.get?_push_of_some _ e)
  have stat : ∀ {σ' : St} {H' : Hp} {s' : Shared}, Inv (X.blk s3 H3 scope ce fp) [] σ' H' s' → (∀ b ∈ fp, H' b = none) → ∀ b ∈ fp, FpOk (X.blk s3 H3 scope ce fp) [] H' b := fun {σ' H' s'} I' hn b hb =>
    ⟨hn b hb, (I'.ok.exf b hb).1, I'.ok.exfs b hb, .inl hb, fun x c e => (I'.ok.exf b hb).2 x c e, fun p hp => absurd (show p ∈ ([] : List (Addr × Obj)) ++ [] from hp) (by simp)⟩
  have loop : codeAny (model X.prog X.w) X.A (.compLoop (.ListComp elt [⟨tg, iter, ifs, 0⟩] scope pos) 0 (.ref it) (.ref D) ce) (compPost (model X.prog X.w) X.A X.xe use Qf (.ref D) s3.heap.objs.size) s4 := by
    refine compLoop_any (fun n s' => ∃ i H', Inv (X.blk s3 H3 scope ce fp) [] (wipe σ (own.map (·.2))) H' s' ∧ tn i s'.heap ∧ (∀ b ∈ fp, H' b = none) ∧ W i n H') ?_ m0 ⟨0, H3, I4, st4, nfp, w0⟩
    rintro n s5 ⟨i, H5, I5, st5, n5, w5⟩
    rcases turn i n H5 w5 with ⟨stop, qq⟩ | ⟨go, Nx, hNx, step⟩
    · have td := T.done (X.blk s3 H3 scope ce fp) rfl rfl rfl hc i [] s5 _ H5 (fun _ _ => False) I5 (stat I5 n5) st5 stop
      refine thnF td fun r s6 ⟨hr, I6⟩ => ?_
      subst hr
      have I7 : Inv X pins σ H5 s6 := I3.call' (ch := fp) I6.os I6.base I6.hok I6.bare fun b hb => ⟨(f3 b hb).1.2.2.2.1, (f3 b hb).1.2.1, (f3 b hb).1.2.2.2.2.1, (f3 b hb).1.2.2.2.2.2⟩
      have nC : H5 s3.heap.objs.size = none := by
        have z : H5 ce.locals = none := I6.free
        rw [cL] at z
        exact z
      obtain ⟨m, hn, _⟩ := I6.loc
      have hn : s6.heap.Ns ce.locals m := hn
      rw [cL] at hn
      exact hRR D s3.heap.objs.size s6 m H5 I7 qq hn (I3.fpOk (Nat.le_refl _) nC)
    · have ti := T.item (X.blk s3 H3 scope ce fp) rfl rfl rfl hc i [] s5 _ H5 (fun _ _ => False) I5 (stat I5 n5) st5 go
      refine thnF ti fun r s6 ⟨u, hr, h6⟩ => ?_
      subst hr
      refine thnF h6 fun _ s7 ⟨x, H7, I7, r7, y7, st7, n7⟩ => ?_
      have I7' := I7.pinned (stat I7 n7) (T.obj _ _ st7)
      refine thnF (pg _ s7 _ H7 x u _ I7' r7 (step x H7 y7)) fun _ s8 ⟨σ8, H8, I8, hw8, q8⟩ => ?_
      refine thnF (pt _ s8 σ8 H8 _ I8 q8) fun b s9 ⟨H9, I9, q9⟩ => ?_
      have fin : ∀ {s' : Shared} {H' : Hp}, Inv (X.blk s3 H3 scope ce fp) ([] ++ pinsAt fp s7.heap) σ8 H' s' → Nx H' → ∃ m, m < n ∧ ∃ i H', Inv (X.blk s3 H3 scope ce fp) [] (wipe σ (own.map (·.2))) H' s' ∧ tn i s'.heap ∧ (∀ b ∈ fp, H' b = none) ∧ W i m H' := fun {s' H'} I' nx => by
        obtain ⟨m', hm, w'⟩ := hNx H' nx
        have pin' : ∀ b ∈ fp, ∀ o, s7.heap.get? b = some o → s'.heap.get? b = some o ∧ H' b = none := fun b hb o e =>
          let z := I'.pin (b, o) (List.mem_append_right _ (List.mem_append_right _ (mem_pinsAt hb e)))
          ⟨z.1, z.2.1⟩
        have hl : (wipe σ (own.map (·.2))).length = σ8.length := by rw [← hw8, wipe_length]
        refine ⟨m', hm, i + 1, H', (I'.unpinned (pins := [])).weak hl (fun j v e => ?_), T.keep _ _ _ st7 fun b hb o e => (pin' b hb o e).1, fun b hb => ?_, w'⟩
        · rw [← hw8] at e
          exact (wipe_some e).1
        · obtain ⟨o, e, _⟩ := T.obj _ _ st7 b hb
          exact (pin' b hb o e).2
      cases b with
      | false =>
        simp only [Bool.false_eq_true, if_false] at q9 ⊢
        exact fin I9 q9
      | true =>
        simp only [if_true] at q9 ⊢
        refine thnF (pe _ s9 σ8 H9 _ I9 q9) fun z s10 ⟨yv, H10, I10, r10, acc, hD10, hz10, nx⟩ => ?_
        exact app_ok (X := X.blk s3 H3 scope ce fp) I10 hD10 hz10 r10 fun s11 I11 => fin I11 nx
  exact codeAny_compStart_list loop (T.self X.A 0 _ _ _ st4 loop)
theorem pe_lc {elt tg iter : Expr} {ifs : List Expr} {scope : Scope} {own : List (Str × Nat)} {pos : Pos} {wi : TI} {g : TG} {tt : TT} {te : TE} (hc : X.calm = true) (hN : X.N.Nodup) (hi : PI X tg iter wi) (ok : BlkOk X.N X.env.scope scope own)
    (hg : ∀ (s : Shared) (H : Hp) (C : Addr) (cl : List (Str × Addr)) (fp : List Addr), PG (X.blk s H scope (compEnvC scope cl C X.env) fp) tg g) (ht : ∀ (s : Shared) (H : Hp) (C : Addr) (cl : List (Str × Addr)) (fp : List Addr), PTs (X.blk s H scope (compEnvC scope cl C X.env) fp) ifs tt)
    (he : ∀ (s : Shared) (H : Hp) (C : Addr) (cl : List (Str × Addr)) (fp : List Addr), PE (X.blk s H scope (compEnvC scope cl C X.env) fp) elt te) (hs : ∀ x, foldedSetIterable iter X.env x = pure x := by intro _; rfl) :
    PE X (.ListComp elt [⟨tg, iter, ifs, 0⟩] scope pos) (tLc wi g tt te (own.map (·.2))) := by
  intro pins s σ H Q I h
  rw [eval_ListComp]
  refine lc_core hc hN I hi ok hg ht he hs h fun D C s' m H' I' q hn f => ⟨m, hn, fun h'' sb => ?_⟩
  obtain ⟨f0, f1, f2, f3, f4, f5⟩ := f
  exact ⟨.ref D, H', I'.turned (t' := s'.toks) (fun b o hb e => (sb.2 b hb).trans e) f0 f1 f3 f4 f5, rfl, q⟩
theorem ps_setLc {i : Nat} {y : Str} {py : Pos} {elt tg iter : Expr} {ifs : List Expr} {scope : Scope} {own : List (Str × Nat)} {pos spos : Pos} {wi : TI} {g : TG} {tt : TT} {te : TE} (hc : X.calm = true) (hN : X.N.Nodup) (hy : X.N[i]? = some y) (hyl : X.env.scope.names.lookup y = some .local)
    (hsw : swapsWith (.ListComp elt [⟨tg, iter, ifs, 0⟩] scope pos) (some (.Name y py)) spos.line X.env = pure true) (hi : PI X tg iter wi) (ok : BlkOk X.N X.env.scope scope own)
    (hg : ∀ (s : Shared) (H : Hp) (C : Addr) (cl : List (Str × Addr)) (fp : List Addr), PG (X.blk s H scope (compEnvC scope cl C X.env) fp) tg g) (ht : ∀ (s : Shared) (H : Hp) (C : Addr) (cl : List (Str × Addr)) (fp : List Addr), PTs (X.blk s H scope (compEnvC scope cl C X.env) fp) ifs tt)
    (he : ∀ (s : Shared) (H : Hp) (C : Addr) (cl : List (Str × Addr)) (fp : List Addr), PE (X.blk s H scope (compEnvC scope cl C X.env) fp) elt te) (hs : ∀ x, foldedSetIterable iter X.env x = pure x := by intro _; rfl) :
    PS X (.Assign [.Name y py] (.ListComp elt [⟨tg, iter, ifs, 0⟩] scope pos) spos) (tAsg (tLc wi g tt te (own.map (·.2))) (gName i)) := by
  intro pins s σ H D I h
  rw [exec_Assign_Name_used _ _ _ _ hsw]
  refine wpAny_bind (wpAny_standAt (wpAny_bind ?_))
  show wpAny _ X.A (do let _ ← comprehension (.ListComp elt [⟨tg, iter, ifs, 0⟩] scope pos) scope X.env (firstIterPos [⟨tg, iter, ifs, 0⟩] pos) (newList []) false (eval iter X.env) (some (assign (.Name y py) X.env))) _ _ s
  have h : tLc wi g tt te (own.map (·.2)) σ H (fun x H1 => gName i x σ H1 D.nx) := h
  refine wpAny_bind (thn (lc_core (Qf := fun _ s' => SP X pins D .next s') hc hN I hi ok hg ht he hs h fun L C s' m H' I' q hn f => ?_) fun _ s' hq => wpAny_pure (wpAny_pure hq))
  show wpAny _ _ (assign (.Name y py) X.env (.ref L)) _ _ _
  refine wpAny_assign_Name (store_ok2 (v := V.ref L) I' hN hy (.inl hyl) rfl (fun s2 I2 ⟨a, sb, ha⟩ => ?_) (.inr hyl))
  obtain ⟨f0, f1, f2, f3, f4, f5⟩ := f
  have haC : C ≠ a := by
    rcases ha with z | z
    · rw [z]; exact f1
    · exact fun e => f4 y a z e.symm
  refine ⟨m, hn.sameBut sb haC, fun h3 sb3 => ?_⟩
  exact ⟨_, H', I2.turned (t' := s2.toks) (fun b o hb e => (sb3.2 b hb).trans e) f0 f1 f3 f4 f5, q⟩
theorem sw_true {elt : Expr} {gs : List Comprehension} {scope : Scope} {pos py : Pos} {y : Str} {l : Nat} {env : Env} (hk : env.scope.kind = .function) (hy : env.scope.names.lookup y = some .local) (hl : (py.line == pos.line) = true)
    (ha : (scope.names.any fun (n, k) => n == y && (k == .local || k == .cell)) = false) : swapsWith (.ListComp elt gs scope pos) (some (.Name y py)) l env = pure true := by
  have ky : env.kindOf y = some .local := hy
  have hb : env.blockKind = .function := by unfold Env.blockKind; rw [hk]; rfl
  unfold swapsWith
  simp only [hb, ky, ha, Expr.pos, hl]
  rfl
end
theorem lc_range {lo : Int} {n : Nat} {g : TG} {tt : TT} {te : TE} {vs : List Nat} {σ : St} {H1 : Hp} {D : Addr} {Qd : Hp → Prop} (Pv : Nat → Hp → Prop) (h0 : Pv 0 (upd H1 D (.lst [])))
    (hs : ∀ i H, i < n → Pv i H → g (.int (lo + i)) (wipe σ vs) H fun σ2 H2 => wipe σ2 vs = wipe σ vs ∧ tt σ2 H2 fun b H3 =>
      if b = true then te σ2 H3 fun y H4 => ∃ acc, H4 D = some (.lst acc) ∧ acc.length < sizeLine ∧ Pv (i + 1) (upd H4 D (.lst (acc ++ [y]))) else Pv (i + 1) H3) (hd : ∀ H, Pv n H → Qd H) :
    ∃ W : Nat → Nat → Hp → Prop, (∃ m, W 0 m (upd H1 D (.lst []))) ∧ ∀ i m H, W i m H →
      ((Itr lo n).stop i H ∧ Qd H) ∨ ((Itr lo n).go i H ∧ ∃ Nx : Hp → Prop, (∀ H', Nx H' → ∃ m', m' < m ∧ W (i + 1) m' H') ∧ ∀ x H', (Itr lo n).yld i H x H' → g x (wipe σ vs) H' fun σ2 H2 => wipe σ2 vs = wipe σ vs ∧ tt σ2 H2 fun b H3 =>
        if b = true then te σ2 H3 fun y H4 => ∃ acc, H4 D = some (.lst acc) ∧ acc.length < sizeLine ∧ Nx (upd H4 D (.lst (acc ++ [y]))) else Nx H3) := by
  refine ⟨fun i m H => m = n - i ∧ i ≤ n ∧ Pv i H, ⟨n, by simp, Nat.zero_le _, h0⟩, ?_⟩
  rintro i m H ⟨rfl, hi, p⟩
  by_cases hlt : i < n
  · refine .inr ⟨hlt, Pv (i + 1), fun H' p' => ⟨n - (i + 1), by omega, rfl, hlt, p'⟩, fun x H' y => ?_⟩
    obtain ⟨e, y⟩ := y
    subst e y
    exact hs i _ hlt p
  · have e : i = n := by omega
    subst e
    exact .inl ⟨Nat.le_refl _, hd H p⟩
theorem lc_list {K : PySem.W.Frag} {a : Addr} {xs : List V} {g : TG} {tt : TT} {te : TE} {vs : List Nat} {σ : St} {H1 : Hp} {D : Addr} {Qd : Hp → Prop} (Pv : Nat → Hp → Prop) (h0 : Pv 0 (upd H1 D (.lst []))) (hl : ∀ i H, i ≤ xs.length → Pv i H → SqL K H a xs)
    (hs : ∀ i x H, xs[i]? = some x → Pv i H → g x (wipe σ vs) H fun σ2 H2 => wipe σ2 vs = wipe σ vs ∧ tt σ2 H2 fun b H3 =>
      if b = true then te σ2 H3 fun y H4 => ∃ acc, H4 D = some (.lst acc) ∧ acc.length < sizeLine ∧ Pv (i + 1) (upd H4 D (.lst (acc ++ [y]))) else Pv (i + 1) H3) (hd : ∀ H, Pv xs.length H → Qd H) :
    ∃ W : Nat → Nat → Hp → Prop, (∃ m, W 0 m (upd H1 D (.lst []))) ∧ ∀ i m H, W i m H →
      ((Itl K a).stop i H ∧ Qd H) ∨ ((Itl K a).go i H ∧ ∃ Nx : Hp → Prop, (∀ H', Nx H' → ∃ m', m' < m ∧ W (i + 1) m' H') ∧ ∀ x H', (Itl K a).yld i H x H' → g x (wipe σ vs) H' fun σ2 H2 => wipe σ2 vs = wipe σ vs ∧ tt σ2 H2 fun b H3 =>
        if b = true then te σ2 H3 fun y H4 => ∃ acc, H4 D = some (.lst acc) ∧ acc.length < sizeLine ∧ Nx (upd H4 D (.lst (acc ++ [y]))) else Nx H3) := by
  refine ⟨fun i m H => m = xs.length - i ∧ i ≤ xs.length ∧ Pv i H, ⟨xs.length, by simp, Nat.zero_le _, h0⟩, ?_⟩
  rintro i m H ⟨rfl, hi, p⟩
  have q := hl i H hi p
  by_cases hlt : i < xs.length
  · refine .inr ⟨⟨xs, xs[i], q, by simp [hlt]⟩, Pv (i + 1), fun H' p' => ⟨xs.length - (i + 1), by omega, rfl, hlt, p'⟩, fun x H' y => ?_⟩
    obtain ⟨e, y⟩ := y
    subst e
    exact hs i x _ (y xs q) p
  · have e : i = xs.length := by omega
    subst e
    exact .inl ⟨⟨xs, q, Nat.le_refl _⟩, hd H p⟩
def blkC (N : List Str) (sc scope : Scope) (own : List (Str × Nat)) : Bool :=
  (match scope.kind with | .function => true | _ => false) && (scope.names.all fun y => decide (scope.names.lookup y.1 = some y.2)) && (own.all fun p => decide (N[p.2]? = some p.1)) &&
    (scope.names.all fun y => match y.2 with
      | .free => (match sc.names.lookup y.1 with | some .cell => true | some .free => true | _ => false)
      | .local => decide (y.1 ∈ own.map (·.1)) || decide (y.1 ∉ N)
      | .cell => decide (y.1 ∈ own.map (·.1)) || decide (y.1 ∉ N)
      | _ => true)
theorem blkOk_by {N : List Str} {sc scope : Scope} {own : List (Str × Nat)} (h : blkC N sc scope own = true) : BlkOk N sc scope own := by
  unfold blkC at h
  simp only [Bool.and_eq_true, List.all_eq_true, decide_eq_true_eq] at h
  obtain ⟨⟨⟨h1, h2⟩, h3⟩, h4⟩ := h
  refine ⟨?_, h2, h3, fun y hy e => ?_, fun y hy e => ?_⟩
  · split at h1
    · assumption
    · cases h1
  · have q := h4 y hy
    simp only [e] at q
    split at q <;> first | exact .inl (by assumption) | exact .inr (by assumption) | cases q
  · have q := h4 y hy
    rcases e with e | e <;> (simp only [e, Bool.or_eq_true, decide_eq_true_eq] at q; exact q)
end L2
namespace L2
open PySem PySem.Spec PyProof.Rows
section
variable {prog : Program} {w : World} {A : Around} {R : Result → Shared → Prop} {s : Shared} {elt t0 i0 t1 i1 : Expr} {ifs0 ifs1 : List Expr} {scope : Scope} {pos : Pos} {it acc : Value} {env : Env}
end
section
variable {X : Cx}
end
end L2
namespace L2
open PySem PySem.Spec PyProof.Rows
section
variable {κ : Type} [DecidableEq κ]
end
section
variable {P : Program} {w : World} {H : Hp} {h : Heap} {a : Addr}
end
section
variable {X : Cx} {pins : List (Addr × Obj)} {σ : St} {H : Hp} {s : Shared} {a : Addr} {y v : V} {u r : Value} {o : Option V} {A : Around} {E : Value → Shared → Prop}
end
section
variable {X : Cx} {pins : List (Addr × Obj)} {σ : St} {H : Hp} {s : Shared} {a : Addr} {kvs : List (Key × V)} {k : Key} {u : Value} {A : Around} {E : Value → Shared → Prop}
end
section
variable {X : Cx} {o i e value : Expr} {pos pos' tpos : Pos} {td ty tv : TE}
end
section
variable {X : Cx} {pos : Pos}
end
section
variable {X : Cx} {pins : List (Addr × Obj)} {σ : St} {H : Hp} {s : Shared} {a : Addr} {y d : V} {u r : Value} {o : Option V} {A : Around} {E : Value → Shared → Prop}
end
section
variable {X : Cx} {o e f : Expr} {apos cpos : Pos} {td ty tx : TE}
end
section
variable {X : Cx} {pins : List (Addr × Obj)} {σ : St} {H : Hp} {s : Shared} {a : Addr} {kvs : List (Key × V)} {A : Around} {E : Value → Shared → Prop}
end
section
variable {X : Cx} {pins : List (Addr × Obj)} {σ : St} {H : Hp} {s : Shared} {a : Addr} {y : V} {u : Value} {A : Around} {E : Value → Shared → Prop}
end
end L2
namespace L2
open PySem PySem.Spec PyProof.Rows
section
variable {prog : Program} {w : World} {A : Around} {E : Value → Shared → Prop}
end
section
variable {X : Cx}
end
end L2
namespace L2
open PySem PySem.Spec PyProof.Rows
section
variable {X : Cx} {pins : List (Addr × Obj)} {σ : St} {H : Hp} {s : Shared} {h' : Heap}
theorem Inv.turnedL {t' : Nat} {ch : List Addr} (I : Inv X pins σ H s) (k : ∀ b o, b ∉ ch → s.heap.get? b = some o → h'.get? b = some o) (hf : ∀ b ∈ ch, FpOk X pins H b) : Inv X pins σ H { s with heap := h', toks := t' } := by
  have nit : ∀ b u, H b = some u → b ∉ ch := fun b u e z => by
    have q := (hf b z).1
    rw [q] at e; cases e
  refine I.step (g' := s.gens) (d' := s.drawn) (ch := ch) (fun b hb => ⟨(hf b hb).2.2.2.1, (hf b hb).2.1, (hf b hb).2.2.2.2.1, (hf b hb).2.2.2.2.2⟩) (fun b o _ _ hc e _ => k b o hc e) (fun b o _ _ hc e _ => ⟨o.slots, k b o hc e⟩)
    (fun _ _ _ _ n => n) (fun b o hc e => ⟨o, k b o hc e⟩) (fun _ _ e => e) (fun _ _ _ e => e) (fun b ps e => ⟨#[], by rw [e]; simp⟩) (fun m hm => ?_) (fun b u e => ?_) I.bare
  · obtain ⟨o, es, ep, ho, r⟩ := hm
    exact ⟨o, es, ep, k _ o (fun z => (hf _ z).2.1 rfl) ho, r⟩
  · refine (I.hok b u e).stay (fun c v hc q => k c v ?_ q) (fun _ q => q) fun _ _ q => q
    rcases hc with z | z
    · rw [z]; exact nit b u e
    · exact nit c _ z
theorem Inv.turnedNew {t' : Nat} {ch : List Addr} {T : Addr} {ob : HO} (I : Inv X pins σ H s) (k : ∀ b o, b ∉ ch → s.heap.get? b = some o → h'.get? b = some o) (hf : ∀ b ∈ ch, FpOk X pins H b) (hT : s.heap.objs.size ≤ T)
    (new : ObjOk X.prog X.w (upd H T ob) h' T ob) : Inv X pins σ (upd H T ob) { s with heap := h', toks := t' } := by
  have hn : H T = none := I.hok.fresh hT
  have nit : ∀ b u, H b = some u → b ∉ ch := fun b u e z => by
    have q := (hf b z).1
    rw [q] at e; cases e
  refine I.step (g' := s.gens) (d' := s.drawn) (ch := ch) (fun b hb => ⟨(hf b hb).2.2.2.1, (hf b hb).2.1, (hf b hb).2.2.2.2.1, (hf b hb).2.2.2.2.2⟩) (fun b o _ _ hc e _ => k b o hc e) (fun b o _ _ hc e _ => ⟨o.slots, k b o hc e⟩)
    (fun b o _ e n => ?_) (fun b o hc e => ⟨o, k b o hc e⟩) (fun b xs e => ?_) (fun b o u e => ?_) (fun b ps e => ⟨#[], ?_⟩) (fun m hm => ?_) (fun b u e => ?_) I.bare
  · rw [upd_ne (Nat.ne_of_lt (Nat.lt_of_lt_of_le (Heap.lt_size e) hT))]; exact n
  · rw [upd_ne (ne_of_none e hn)]; exact e
  · rw [upd_ne (ne_of_none e hn)]; exact e
  · rw [upd_ne (ne_of_none e hn), e]; simp
  · obtain ⟨o, es, ep, ho, r⟩ := hm
    exact ⟨o, es, ep, k _ o (fun z => (hf _ z).2.1 rfl) ho, r⟩
  · by_cases hb : b = T
    · subst hb
      rw [upd_same] at e
      cases e
      exact new
    · rw [upd_ne hb] at e
      refine (I.hok b u e).stay (fun c v hc q => k c v ?_ q) (fun c q => by rw [upd_ne (ne_of_none q hn)]; exact q) fun c xs q => by rw [upd_ne (ne_of_none q hn)]; exact q
      rcases hc with z | z
      · rw [z]; exact nit b u e
      · exact nit c _ z
end
section
variable {X : Cx}
end
section
variable {X : Cx} {tg : Expr}
end
section
variable {X : Cx} {tg : Expr}
end
section
variable {prog : Program} {w : World} {A : Around} {E : Value → Shared → Prop} {s : Shared}
end
section
variable {X : Cx} {pins : List (Addr × Obj)} {σ : St} {H : Hp} {s : Shared} {d : Addr} {o : Obj}
end
section
variable {P : Program} {w : World} {K : PySem.W.Frag} {tg : Expr} {d : Addr} {o : Obj} {es : Array DictEntry} {ep : Nat}
end
section
variable {X : Cx} {tg e : Expr} {td : TE} {apos cpos : Pos}
end
def Ite (K : PySem.W.Frag) (a : Addr) : It :=
  ⟨fun i H => ∃ (xs : List V) (x : V), SqL K H a xs ∧ xs[i]? = some x, fun i H v H' => ∃ T x, v = .ref T ∧ H T = none ∧ H' = upd H T (.tup [.int (i : Nat), x]) ∧ ∀ xs, SqL K H a xs → xs[i]? = some x, fun i H => ∃ xs : List V, SqL K H a xs ∧ xs.length ≤ i⟩
theorem turn_enum {P : Program} {w : World} {K : PySem.W.Frag} {elts : List Expr} {kk : Nat} {tpos : Pos} (a e it : Addr) :
    Turn P w K (.Tuple elts kk tpos) (Ite K a) [e, it] e (fun i h => (∃ old, IsEnum h e it ((i : Nat) : Int) old) ∧ h.IsListIter it a i ∧ e ≠ it) where
  mem := by simp
  obj := fun i h st b hb => by
    obtain ⟨⟨old, he⟩, ⟨o, ho, hc, hd⟩, _⟩ := st
    have e' : b = e ∨ b = it := by simpa using hb
    rcases e' with z | z
    · rw [z]; exact ⟨_, he, fun v q => nomatch q⟩
    · rw [z]; exact ⟨o, ho, fun v q => by rw [hd] at q; cases q⟩
  keep := fun i h h' st k => let ⟨⟨old, he⟩, hi, hne⟩ := st; ⟨⟨old, k e (by simp) _ he⟩, hi.at fun o q => k it (by simp) o q, hne⟩
  item := by
    intro X hP hw hK hc i pins s σ H E I hf st hg
    subst hP hw hK
    obtain ⟨⟨old, he⟩, hit, hne⟩ := st
    obtain ⟨xs, x, hq, hx⟩ := hg
    obtain ⟨its, rv, p, hz⟩ := I.list hq
    obtain ⟨u, hu, ru⟩ := rv.get hx
    have hel : e < s.heap.objs.size := Heap.lt_size he
    have hil : it < s.heap.objs.size := by obtain ⟨_, q, _⟩ := hit; exact Heap.lt_size q
    refine wpAny_pyNext_enum_item he hit p.isList (x := u) (by simpa using hu) hne fun h' ho hit' hT hsz hk => ?_
    refine ⟨_, rfl, wpAny_letOwnedTupleGo_enum (s := { s with heap := h', toks := s.toks + 1 }) ho fun h'' he' sb => ?_⟩
    have hT2 : h''.get? s.heap.objs.size = some { cls := .type "tuple", data := .seq #[.int i s.toks, u] } := (sb.2 _ (Nat.ne_of_gt hel)).trans hT
    have new : ObjOk X.prog X.w (upd H s.heap.objs.size (.tup [.int (i : Nat), x])) h'' s.heap.objs.size (.tup [.int (i : Nat), x]) :=
      ⟨by show 2 ≤ sizeLine; decide, [.int i s.toks, u], .cons ⟨_, rfl⟩ (.cons ru .nil), ⟨_, hT2, rfl, _, rfl⟩⟩
    have I1 : Inv X pins σ (upd H s.heap.objs.size (.tup [.int (i : Nat), x])) { s with heap := h'', toks := s.toks + 1 } :=
      I.turnedNew (ch := [e, it]) (fun b ob hb q => (sb.2 b (fun z => hb (by simp [z]))).trans (hk b ob (fun z => hb (by simp [z])) (fun z => hb (by simp [z])) q)) hf (Nat.le_refl _) new
    refine ⟨.ref s.heap.objs.size, _, I1, rfl, ⟨_, x, rfl, I.hok.fresh (Nat.le_refl _), rfl, fun ys hy => by rw [I.list_inj hy hq]; exact hx⟩, ⟨⟨u, ?_⟩, hit'.at fun o q => (sb.2 it (Ne.symm hne)).trans q, hne⟩, fun b hb => ?_⟩
    · have e1 : ((i + 1 : Nat) : Int) = (i : Int) + 1 := by omega
      rw [e1]; exact he'
    · have hb' : b < s.heap.objs.size := by
        have e' : b = e ∨ b = it := by simpa using hb
        rcases e' with z | z
        · rw [z]; exact hel
        · rw [z]; exact hil
      rw [upd_ne (Nat.ne_of_lt hb')]
      exact (hf b hb).1
  done := by
    intro X hP hw hK hc i pins s σ H E I hf st hg
    subst hP hw hK
    obtain ⟨⟨old, he⟩, hit, hne⟩ := st
    obtain ⟨xs, hq, hx⟩ := hg
    obtain ⟨its, rv, p, hz⟩ := I.list hq
    obtain ⟨f0, f1, f2, f3, f4, f5⟩ := hf it (by simp)
    have hl := rv.length
    exact wpAny_pyNext_enum_end (I.ok.hd hc) he hit p.isList (by simp; omega) fun h' eb => ⟨rfl, I.turned (t' := s.toks) (fun b o hb q => eb b o hb q) f0 f1 f3 f4 f5⟩
  self := fun A i s Q E st h => let ⟨⟨_, he⟩, _⟩ := st; wpAny_pyIter_enum he h
def iEnum (K : PySem.W.Frag) (ta : TA) : TI := fun σ H R => ta σ H fun vs H1 => ∃ a xs, vs = [.ref a] ∧ SqL K H1 a xs ∧ R (Ite K a) H1
theorem pi_enum {X : Cx} {e : Expr} {ta : TA} {p pos tpos : Pos} {elts : List Expr} {kk : Nat} (hg : Gl X "enumerate") (hm : X.mg "enumerate" = none) (ha : PA X [e] ta) (hs : starEach [e] X.env = [(false, eval e X.env)] := by rfl) :
    PI X (.Tuple elts kk tpos) (.Call (.Name "enumerate" p) [e] [] pos) (iEnum X.K ta) := by
  intro pins s σ H R I h
  refine Call_ (ld_blt I hg hm boot_enumerate (PyProof.Rows.callWith_type1 (thn (ha pos pins s σ H _ I h) fun us s1 ⟨vs, H1, I1, r1, q1⟩ => ?_) hs rfl))
  obtain ⟨a, xs, ex, hq, q⟩ := q1
  subst ex
  cases r1 with
  | cons r rr =>
    cases rr
    cases r
    obtain ⟨its, rv, p', hz⟩ := I1.list hq
    refine call_enumerate_list p'.isList fun h' he hit hsz hk => wpAny_pyIter_enum he ?_
    have I2 : Inv X pins σ H1 { s1 with heap := h' } := I1.kept (t' := s1.toks) hk
    refine ⟨s1.heap.objs.size + 1, [s1.heap.objs.size + 1, s1.heap.objs.size], _, _, H1, rfl, I2, turn_enum a (s1.heap.objs.size + 1) s1.heap.objs.size, ⟨⟨.none, he⟩, hit, Nat.succ_ne_self _⟩, fun b hb => ?_, q⟩
    have e' : b = s1.heap.objs.size + 1 ∨ b = s1.heap.objs.size := by simpa using hb
    have hle : s1.heap.objs.size ≤ b := by
      rcases e' with z | z
      · rw [z]; exact Nat.le_add_right _ _
      · rw [z]; exact Nat.le_refl _
    exact I1.fpOk hle (I1.hok.fresh hle)
theorem boot_zip5 : bootBuiltins "zip" = some (.type "zip") := by decide +kernel
def Itz (K : PySem.W.Frag) (a b : Addr) : It :=
  ⟨fun i H => ∃ (xs ys : List V) (x y : V), SqL K H a xs ∧ SqL K H b ys ∧ xs[i]? = some x ∧ ys[i]? = some y,
    fun i H v H' => ∃ T x y, v = .ref T ∧ H T = none ∧ H' = upd H T (.tup [x, y]) ∧ (∀ xs, SqL K H a xs → xs[i]? = some x) ∧ ∀ ys, SqL K H b ys → ys[i]? = some y,
    fun i H => ∃ xs ys : List V, SqL K H a xs ∧ SqL K H b ys ∧ (xs.length ≤ i ∨ ys.length ≤ i)⟩
theorem turn_zip {P : Program} {w : World} {K : PySem.W.Frag} {elts : List Expr} {kk : Nat} {tpos : Pos} {a b z TI TO i1 i2 : Addr} (D : ZipApart z TI TO i1 i2 a b) :
    Turn P w K (.Tuple elts kk tpos) (Itz K a b) [z, TI, TO, i1, i2] z (fun i h => IsZip h z TI TO .none ∧ IsPair h TI (.ref i1) (.ref i2) ∧ (∃ x y, IsPair h TO x y) ∧ h.IsListIter i1 a i ∧ h.IsListIter i2 b i) where
  mem := by simp
  obj := fun i h st c hc => by
    obtain ⟨hz, hTI, ⟨x, y, hTO⟩, ⟨o1, e1, _, d1⟩, ⟨o2, e2, _, d2⟩⟩ := st
    have e' : c = z ∨ c = TI ∨ c = TO ∨ c = i1 ∨ c = i2 := by simpa using hc
    rcases e' with q | q | q | q | q
    · rw [q]; exact ⟨_, hz, fun v q => nomatch q⟩
    · rw [q]; exact ⟨_, hTI, fun v q => nomatch q⟩
    · rw [q]; exact ⟨_, hTO, fun v q => nomatch q⟩
    · rw [q]; exact ⟨o1, e1, fun v q => by rw [d1] at q; cases q⟩
    · rw [q]; exact ⟨o2, e2, fun v q => by rw [d2] at q; cases q⟩
  keep := fun i h h' st k => by
    obtain ⟨hz, hTI, ⟨x, y, hTO⟩, h1, h2⟩ := st
    exact ⟨k z (by simp) _ hz, k TI (by simp) _ hTI, ⟨x, y, k TO (by simp) _ hTO⟩, h1.at fun o q => k i1 (by simp) o q, h2.at fun o q => k i2 (by simp) o q⟩
  item := by
    intro X hP hw hK hc i pins s σ H E I hf st hg
    subst hP hw hK
    obtain ⟨hz, hTI, ⟨x0, y0, hTO⟩, h1, h2⟩ := st
    obtain ⟨xs, ys, x, y, hqx, hqy, hx, hy⟩ := hg
    obtain ⟨its, rv, p, _⟩ := I.list hqx
    obtain ⟨its2, rv2, p2, _⟩ := I.list hqy
    obtain ⟨u, hu, ru⟩ := rv.get hx
    obtain ⟨u2, hu2, ru2⟩ := rv2.get hy
    have hzl : z < s.heap.objs.size := Heap.lt_size hz
    refine wpAny_pyNext_zip_item D hz hTI hTO h1 h2 p.isList p2.isList (x := u) (y := u2) (by simpa using hu) (by simpa using hu2) fun h' z' TO' h1' h2' hT hsz hk => ?_
    refine ⟨_, rfl, wpAny_letOwnedTupleGo_zip (s := { s with heap := h' }) z' fun h'' z'' sb => ?_⟩
    have hT2 : h''.get? s.heap.objs.size = some { cls := .type "tuple", data := .seq #[u, u2] } := (sb.2 _ (Nat.ne_of_gt hzl)).trans hT
    have new : ObjOk X.prog X.w (upd H s.heap.objs.size (.tup [x, y])) h'' s.heap.objs.size (.tup [x, y]) :=
      ⟨by show 2 ≤ sizeLine; decide, [u, u2], .cons ru (.cons ru2 .nil), ⟨_, hT2, rfl, _, rfl⟩⟩
    have I1 : Inv X pins σ (upd H s.heap.objs.size (.tup [x, y])) { s with heap := h'' } :=
      I.turnedNew (t' := s.toks) (ch := [z, TI, TO, i1, i2]) (fun c o hb q => (sb.2 c (fun q' => hb (by simp [q']))).trans (hk c o (fun q' => hb (by simp [q'])) (fun q' => hb (by simp [q'])) (fun q' => hb (by simp [q'])) (fun q' => hb (by simp [q'])) q)) hf (Nat.le_refl _) new
    refine ⟨.ref s.heap.objs.size, _, I1, rfl, ⟨_, x, y, rfl, I.hok.fresh (Nat.le_refl _), rfl, fun l hl => by rw [I.list_inj hl hqx]; exact hx, fun l hl => by rw [I.list_inj hl hqy]; exact hy⟩, ⟨z'', ?_, ⟨u, u2, ?_⟩, ?_, ?_⟩, fun c hcm => ?_⟩
    · exact (sb.2 _ D.TIz).trans (hk _ _ D.TIz D.TITO D.TIi1 D.TIi2 hTI)
    · exact (sb.2 _ D.TOz).trans TO'
    · exact h1'.at fun o q => (sb.2 _ D.i1z).trans q
    · exact h2'.at fun o q => (sb.2 _ D.i2z).trans q
    · have hlt : c < s.heap.objs.size := by
        have e' : c = z ∨ c = TI ∨ c = TO ∨ c = i1 ∨ c = i2 := by simpa using hcm
        rcases e' with q | q | q | q | q
        · rw [q]; exact hzl
        · rw [q]; exact Heap.lt_size hTI
        · rw [q]; exact Heap.lt_size hTO
        · rw [q]; obtain ⟨_, e1, _⟩ := h1; exact Heap.lt_size e1
        · rw [q]; obtain ⟨_, e2, _⟩ := h2; exact Heap.lt_size e2
      rw [upd_ne (Nat.ne_of_lt hlt)]
      exact (hf c hcm).1
  done := by
    intro X hP hw hK hc i pins s σ H E I hf st hg
    subst hP hw hK
    obtain ⟨hz, hTI, ⟨x0, y0, hTO⟩, h1, h2⟩ := st
    obtain ⟨xs, ys, hqx, hqy, hend⟩ := hg
    obtain ⟨its, rv, p, _⟩ := I.list hqx
    obtain ⟨its2, rv2, p2, _⟩ := I.list hqy
    have l1 := rv.length
    have l2 := rv2.length
    have he : its.toArray[i]? = none ∨ its2.toArray[i]? = none := by
      rcases hend with q | q
      · exact .inl (by simp; omega)
      · exact .inr (by simp; omega)
    exact wpAny_pyNext_zip_end (I.ok.hd hc) D hz hTI hTO h1 h2 p.isList p2.isList he fun h' hk => ⟨rfl, I.turnedL (t' := s.toks) (ch := [z, TI, TO, i1, i2]) (fun c o hb q =>
      hk c o (fun q' => hb (by simp [q'])) (fun q' => hb (by simp [q'])) (fun q' => hb (by simp [q'])) (fun q' => hb (by simp [q'])) q) hf⟩
  self := fun A i s Q E st h => wpAny_pyIter_zip st.1 h
def iZip (K : PySem.W.Frag) (ta : TA) : TI := fun σ H R => ta σ H fun vs H1 => ∃ a b xs ys, vs = [.ref a, .ref b] ∧ SqL K H1 a xs ∧ SqL K H1 b ys ∧ R (Itz K a b) H1
theorem pi_zip {X : Cx} {e e2 : Expr} {ta : TA} {p pos tpos : Pos} {elts : List Expr} {kk : Nat} (hg : Gl X "zip") (hm : X.mg "zip" = none) (ha : PA X [e, e2] ta)
    (hs : starEach [e, e2] X.env = (false, eval e X.env) :: starEach [e2] X.env := by rfl) (hpl : (backTo pos (starEach [e2] X.env)).any (·.1) = false := by rfl) :
    PI X (.Tuple elts kk tpos) (.Call (.Name "zip" p) [e, e2] [] pos) (iZip X.K ta) := by
  intro pins s σ H R I h
  refine Call_ (ld_blt I hg hm boot_zip5 (PyProof.Rows.callWith_type1 (thn (ha pos pins s σ H _ I h) fun us s1 ⟨vs, H1, I1, r1, q1⟩ => ?_) hs hpl))
  obtain ⟨a, b, xs, ys, ex, hqx, hqy, q⟩ := q1
  subst ex
  cases r1 with
  | cons r rr =>
    cases rr with
    | cons r' rr =>
      cases rr
      cases r
      cases r'
      obtain ⟨its, rv, p1, _⟩ := I1.list hqx
      obtain ⟨its2, rv2, p2, _⟩ := I1.list hqy
      have la : a < s1.heap.objs.size := p1.lt
      have lb : b < s1.heap.objs.size := p2.lt
      refine call_zip_2 p1.isList p2.isList fun h' hz hTI hTO h1 h2 hsz hk => wpAny_pyIter_zip hz ?_
      have I2 : Inv X pins σ H1 { s1 with heap := h' } := I1.kept (t' := s1.toks) hk
      refine ⟨s1.heap.objs.size + 4, [s1.heap.objs.size + 4, s1.heap.objs.size + 2, s1.heap.objs.size + 3, s1.heap.objs.size, s1.heap.objs.size + 1], _, _, H1, rfl, I2, turn_zip (PySem.W.ktu_apart s1.heap.objs.size a b la lb), ⟨hz, hTI, ⟨_, _, hTO⟩, h1, h2⟩, fun c hcm => ?_, q⟩
      have e' : c = s1.heap.objs.size + 4 ∨ c = s1.heap.objs.size + 2 ∨ c = s1.heap.objs.size + 3 ∨ c = s1.heap.objs.size ∨ c = s1.heap.objs.size + 1 := by simpa using hcm
      have hle : s1.heap.objs.size ≤ c := by
        rcases e' with z | z | z | z | z
        · rw [z]; exact Nat.le_add_right _ _
        · rw [z]; exact Nat.le_add_right _ _
        · rw [z]; exact Nat.le_add_right _ _
        · rw [z]; exact Nat.le_refl _
        · rw [z]; exact Nat.le_add_right _ _
      exact I1.fpOk hle (I1.hok.fresh hle)
end L2
section 
namespace Bits
open PySem PyProof.Rows
end Bits
end 
section 
namespace TL
open PySem PySem.Builtin PySem.Builtin.Str PySem.StrLaws
end TL
end 
namespace L2
open PySem PySem.Spec PyProof.Rows
section
variable {X : Cx} {pins : List (Addr × Obj)} {σ : St} {H : Hp} {s : Shared} {Q : VK}
end
section
variable {X : Cx}
end
section
variable {X : Cx} {o e : Expr} {to te : TE}
end
end L2
namespace L2
open PySem PySem.Spec PyProof.Rows
section
variable {X : Cx}
end
end L2
namespace Att
open PySem PySem.W PySem.Calls PyProof.Rows
section
variable {prog : Program} {w : World} {A : Around} {E : Value → Shared → Prop} {s : Shared} {K : Frag}
end
end Att
namespace L2
open PySem PySem.Spec PyProof.Rows
end L2
namespace L2
open PySem PySem.Spec PyProof.Rows
end L2
namespace L2
open PySem PySem.Spec PyProof.Rows
def inClass (s : Stmt) (j : Nat) : Stmt := match s with
  | .ClassDef _ _ _ body _ _ _ _ _ _ _ => body.getD j (.Pass ⟨0, 0, 0, 0⟩)
  | _ => .Pass ⟨0, 0, 0, 0⟩
def defArgs (s : Stmt) : Arguments := match s with
  | .FunctionDef _ a _ _ _ _ _ _ _ _ => a
  | _ => { posonlyargs := [], args := [], vararg := none, kwonlyargs := [], kw_defaults := [], kwarg := none, defaults := [] }
def defBody (s : Stmt) : List Stmt := match s with
  | .FunctionDef _ _ b _ _ _ _ _ _ _ => b
  | _ => []
def defScope (s : Stmt) : Scope := match s with
  | .FunctionDef _ _ _ _ _ _ sc _ _ _ => sc
  | _ => { kind := .function, names := [], isGenerator := false, isCoroutine := false }
abbrev CX0 : CXT := fun _ _ _ _ _ _ => False
abbrev E0 : XK := fun _ _ _ => False
theorem pass0 {X : Cx} : Passes CX0 X E0 := fun _ _ _ _ _ _ _ h => h.elim
structure Fun (K : PySem.W.Frag) (x qual : Str) (st : Stmt) (f : Addr) (fd : FuncData) : Prop where
  ex : ∃ (oc : Value) (od : Option Addr) (kV doc pm : Value) (an : Option Addr) (cdv ct : Value) (osl : Array (Option Value)),
    fd = PySem.W.fnOf x qual (defArgs st) (defBody st) (defScope st) .none kV doc pm an cdv ct ∧ K.lookup f = some ⟨oc, od, .func fd, osl⟩ ∧ PySem.W.codeIn K cdv qual = true
  kp : PySem.W.keepIn K (.ref f) = true
section
variable {P : Program} {w : World} {K : PySem.W.Frag} {mg : Str → Option Value} {base : Heap}
theorem Fun.ok {x qual : Str} {st : Stmt} {f : Addr} {fd : FuncData} {N ps : List Str} {k : Nat} {sp : Sp} (F : Fun K x qual st f fd) (S : FnScope N ps (defScope st)) (len : ∀ vs H Q E, sp vs H Q E → vs.length = ps.length)
    (hbody : ∀ (cdv : Value) (A : Around) (outer : List Env) (s : Shared) (H : Hp) (vs : List V) (Q : VK) (E : XK), Room k (A.deeper (envOfC qual (defScope st) s.heap.objs.size f cdv)) → sp vs H Q E →
      ∃ t, PSs (cxOf CX0 P w K mg base N qual (defScope st) f cdv A outer s H E).nox (defBody st) t ∧ t { nx := fun _ H' => Q .non H', rt := Q } (start N vs) H) : FnOk P w K mg base CX0 (k + 1) f fd ps sp := by
  obtain ⟨oc, od, kV, doc, pm, an, cdv, ct, osl, rfl, lk, hcd⟩ := F.ex
  refine fn_of lk hcd S len fun A outer s H vs Q E hr hsp => ?_
  obtain ⟨t, h, q⟩ := hbody cdv A outer s H vs Q E hr hsp
  exact ⟨t, h.nox, q⟩
theorem Fun.binds {x qual : Str} {st : Stmt} {f : Addr} {fd : FuncData} {ps : List Str} (F : Fun K x qual st f fd)
    (h : ∀ (kV doc pm : Value) (an : Option Addr) (cdv ct : Value) (us : List Value), us.length = ps.length → bindArgs (PySem.W.fnOf x qual (defArgs st) (defBody st) (defScope st) .none kV doc pm an cdv ct) ⟨us, []⟩ = pure (ps.zip us)) : Binds K fd ps [] := by
  obtain ⟨oc, od, kV, doc, pm, an, cdv, ct, osl, rfl, lk, hcd⟩ := F.ex
  exact .all (h kV doc pm an cdv ct)
theorem fun_mk {x qual : Str} {st : Stmt} {f : Addr} {oc : Value} {od an : Option Addr} {osl : Array (Option Value)} {kV doc pm cdv ct : Value} (l : K.lookup f = some ⟨oc, od, .func (PySem.W.fnOf x qual (defArgs st) (defBody st) (defScope st) .none kV doc pm an cdv ct), osl⟩)
    (c : PySem.W.codeIn K cdv qual = true) (k : PySem.W.keepIn K (.ref f) = true) : Fun K x qual st f (PySem.W.fnOf x qual (defArgs st) (defBody st) (defScope st) .none kV doc pm an cdv ct) := ⟨⟨oc, od, kV, doc, pm, an, cdv, ct, osl, rfl, l, c⟩, k⟩
end
section
variable {X : Cx}
theorem pv (i : Nat) {x : Str} {pos : Pos} (hN : X.N[i]? = some x := by rfl) (hv : Vis X.env.scope x := by first | exact Or.inl rfl | exact Or.inr (Or.inl rfl) | exact Or.inr (Or.inr rfl)) (hd : (x == ("__debug__" : Str)) = false := by decide)
    (hcd : (x == ("__classdict__" : Str)) = false := by decide) : PE X (.Name x pos) (tVar i) := pe_var hN hv hd hcd
end
theorem iteF {A B : Prop} (h : B) : if false = true then A else B := by
  rw [if_neg Bool.false_ne_true]
  exact h
theorem iteT {A B : Prop} (h : A) : if true = true then A else B := by
  rw [if_pos rfl]
  exact h
theorem ite2 {c A B : Prop} [Decidable c] (h1 : c → A) (h2 : ¬ c → B) : if c then A else B := by
  by_cases h : c
  · rw [if_pos h]
    exact h1 h
  · rw [if_neg h]
    exact h2 h
def Same (H H' : Hp) : Prop := ∀ b o, H b = some o → H' b = some o
theorem Same.refl (H : Hp) : Same H H := fun _ _ h => h
theorem Same.trans {H H1 H2 : Hp} (a : Same H H1) (b : Same H1 H2) : Same H H2 := fun c o h => b c o (a c o h)
theorem Same.free {H H' : Hp} (e : Same H H') {l : Addr} (h : H' l = Option.none) : H l = Option.none := by
  cases q : H l with
  | none => rfl
  | some o =>
    rw [e l o q] at h
    cases h
theorem Same.seq {K : PySem.W.Frag} {H H' : Hp} {a : Addr} {xs : List V} (e : Same H H') (h : SqL K H a xs) : SqL K H' a xs := by
  rcases h with (h | ⟨o, h⟩) | h
  · exact .inl (.inl (e _ _ h))
  · exact .inl (.inr ⟨o, e _ _ h⟩)
  · exact .inr h
section
variable {κ : Type} [DecidableEq κ]
end
theorem Same.made {H H1 : Hp} {x dx C : Addr} (nx : H x = Option.none) (nd : H dx = Option.none) (k : ∀ b o, (upd (upd H dx (.own x)) x (.ins C dx [])) b = some o → b ≠ x → H1 b = some o) : Same H H1 := fun b o e =>
  k b o (by rw [upd_ne (ne_of_none e nx), upd_ne (ne_of_none e nd)]; exact e) (ne_of_none e nx)
end L2
end
section
section
set_option Elab.async false
set_option linter.all false
set_option maxRecDepth 100000
set_option maxHeartbeats 2000000
namespace L2
open PySem PySem.Spec PyProof.Rows
open PySem.W (WData Codec OpenSpec Well WellAll ReadsW ReadsAllW)
mutual
inductive Dw (K : PySem.W.Frag) (H : Hp) : V → WData → Prop
  | non : Dw K H .non .none
  | bl (b : Bool) : Dw K H (.bl b) (.bool b)
  | int (i : Int) : Dw K H (.int i) (.int i)
  | str (x : Str) : Dw K H (.str x) (.str x)
  | byt (b : Array UInt8) : Dw K H (.byt b) (.bytes b.toList)
  | lst {a : Addr} {xs : List V} {ds : List WData} : SqL K H a xs → DwAll K H xs ds → Dw K H (.ref a) (.list ds)
  | tup {a : Addr} {xs : List V} {ds : List WData} : SqT K H a xs → DwAll K H xs ds → Dw K H (.ref a) (.tuple ds)
inductive DwAll (K : PySem.W.Frag) (H : Hp) : List V → List WData → Prop
  | nil : DwAll K H [] []
  | cons {v : V} {vs : List V} {d : WData} {ds : List WData} : Dw K H v d → DwAll K H vs ds → DwAll K H (v :: vs) (d :: ds)
end
theorem dw_ints {K : PySem.W.Frag} {H : Hp} : ∀ ns : List Int, DwAll K H (ns.map V.int) (ns.map WData.int)
  | [] => .nil
  | n :: r => .cons (.int n) (dw_ints r)
theorem ints_dw {K : PySem.W.Frag} {H : Hp} : ∀ (ns : List Int) (xs : List V), DwAll K H xs (ns.map WData.int) → xs = ns.map V.int
  | [], xs, h => by
    cases h
    rfl
  | n :: r, xs, h => by
    cases h with
    | cons h1 h2 =>
      cases h1
      rw [ints_dw r _ h2] <;> rfl
section
variable {P : Program} {w : World} {K : PySem.W.Frag} {H : Hp} {h : Heap} {R : PySem.W.WRecords} {cl : Str → Option Addr}
theorem sqL_at {a : Addr} {xs : List V} (hok : HOk P w H h) (KX : K.In h) (q : SqL K H a xs) : ∃ (its : List Value) (o : Obj) (n : Nat), Vals xs its ∧ h.get? a = some o ∧ o.cls = .type "list" ∧ o.data = .seq its.toArray n := by
  rcases q with q | ⟨o, its, n, e, hc, _, hd, _, hv⟩
  · obtain ⟨_, its, n, hv, e⟩ := (show ObjOk P w H h a (.lst xs) from q.ok hok)
    exact ⟨its, _, n, hv, e, rfl, rfl⟩
  · exact ⟨its.toList, o, n, hv, KX _ _ e, hc, by simp [hd]⟩
theorem sqT_at {a : Addr} {xs : List V} (hok : HOk P w H h) (KX : K.In h) (q : SqT K H a xs) : ∃ (its : List Value) (o : Obj) (n : Nat), Vals xs its ∧ h.get? a = some o ∧ o.cls = .type "tuple" ∧ o.data = .seq its.toArray n := by
  rcases q with q | ⟨o, its, n, e, hc, hd, _, hv⟩
  · obtain ⟨_, its, hv, o, e, hc, n, hd⟩ := (show ObjOk P w H h a (.tup xs) from q.ok hok)
    exact ⟨its, o, n, hv, e, hc, hd⟩
  · exact ⟨its.toList, o, n, hv, KX _ _ e, hc, by simp [hd]⟩
mutual
theorem Dw.reads (hok : HOk P w H h) (KX : K.In h) : ∀ (d : WData) (v : V) (u : Value), Dw K H v d → RelV v u → ∃ as, ReadsW R cl h u d as
  | .none, _, _, x, r => by
    cases x
    cases r
    exact ⟨_, ReadsW.none⟩
  | .bool b, _, _, x, r => by
    cases x
    cases r
    exact ⟨_, ReadsW.bool b⟩
  | .int i, _, _, x, r => by
    cases x
    obtain ⟨t, rfl⟩ := r
    exact ⟨_, ReadsW.int i t⟩
  | .str s, _, _, x, r => by
    cases x
    obtain ⟨t, rfl⟩ := r
    exact ⟨_, ReadsW.str s t⟩
  | .bytes b, _, _, x, r => by
    cases x
    obtain ⟨t, rfl⟩ := r
    exact ⟨_, ReadsW.bytes _ t⟩
  | .list ds, _, _, x, r => by
    cases x with
    | lst hs ha =>
      cases r
      obtain ⟨its, o, n, rv, ho, hc, hd⟩ := sqL_at hok KX hs
      obtain ⟨as, hr⟩ := Dw.readsAll hok KX ds _ its ha rv
      exact ⟨_, ReadsW.list ho hc hd hr⟩
  | .tuple ds, _, _, x, r => by
    cases x with
    | tup hs ha =>
      cases r
      obtain ⟨its, o, n, rv, ho, hc, hd⟩ := sqT_at hok KX hs
      obtain ⟨as, hr⟩ := Dw.readsAll hok KX ds _ its ha rv
      exact ⟨_, ReadsW.tuple ho hc hd hr⟩
  | .float _, _, _, x, _ => by cases x
  | .dict _, _, _, x, _ => by cases x
  | .bytearray _, _, _, x, _ => by cases x
  | .set _, _, _, x, _ => by cases x
  | .frozenset _, _, _, x, _ => by cases x
  | .obj _ _, _, _, x, _ => by cases x
theorem Dw.readsAll (hok : HOk P w H h) (KX : K.In h) : ∀ (ds : List WData) (vs : List V) (us : List Value), DwAll K H vs ds → Vals vs us → ∃ as, ReadsAllW R cl h us ds as
  | [], _, _, x, r => by
    cases x
    cases r
    exact ⟨_, ReadsAllW.nil⟩
  | d :: ds, _, _, x, r => by
    cases x with
    | cons h1 h2 =>
      cases r with
      | cons r1 r2 =>
        obtain ⟨as, q1⟩ := Dw.reads hok KX d _ _ h1 r1
        obtain ⟨bs, q2⟩ := Dw.readsAll hok KX ds _ _ h2 r2
        exact ⟨_, ReadsAllW.cons q1 q2⟩
end
end
mutual
def plW : WData → Bool
  | .none => true
  | .bool _ => true
  | .int _ => true
  | .str _ => true
  | .bytes _ => true
  | .list xs => plWs xs
  | .tuple xs => plWs xs
  | _ => false
def plWs : List WData → Bool
  | [] => true
  | x :: r => plW x && plWs r
end
theorem plWs_map {α : Type} {f : α → WData} (h : ∀ a, plW (f a) = true) : ∀ l : List α, plWs (l.map f) = true
  | [] => rfl
  | x :: r => by
    show (plW (f x) && plWs (r.map f)) = true
    rw [h x, plWs_map h r] <;> rfl
theorem pl_enc : ∀ (c : Codec) (a : c.denote), plW (c.enc a) = true
  | .unit, _ => rfl
  | .bool, _ => rfl
  | .int _ _, _ => rfl
  | .nat _ _, _ => rfl
  | .u8, _ => rfl
  | .bytes _ _, _ => rfl
  | .text _ _ _ _, _ => rfl
  | .list _ _ c, a => plWs_map (fun x => pl_enc c x) a
  | .pair c d, a => by
    show (plW (c.enc a.1) && (plW (d.enc a.2) && true)) = true
    rw [pl_enc c a.1, pl_enc d a.2] <;> rfl
  | .triple c d e, a => by
    show (plW (c.enc a.1) && (plW (d.enc a.2.1) && (plW (e.enc a.2.2) && true))) = true
    rw [pl_enc c a.1, pl_enc d a.2.1, pl_enc e a.2.2] <;> rfl
  | .option c, none => rfl
  | .option c, some x => pl_enc c x
theorem pl_encAll : ∀ (cs : List Codec) (a : Codec.denoteAll cs), plWs (Codec.encAll cs a) = true
  | [], _ => rfl
  | c :: cs, a => by
    show (plW (c.enc a.1) && plWs (Codec.encAll cs a.2)) = true
    rw [pl_enc c a.1, pl_encAll cs a.2] <;> rfl
theorem weight_mem : ∀ {xs : List WData} {d : WData}, d ∈ xs → d.weight ≤ WData.weightAll xs
  | [], d, h => absurd h (by simp)
  | x :: r, d, h => by
    show d.weight ≤ x.weight + 1 + WData.weightAll r
    rcases List.mem_cons.mp h with e | m
    · rw [e]
      omega
    · have z := weight_mem m
      omega
def toV : Value → V
  | .none => .non
  | .bool b => .bl b
  | .int i _ => .int i
  | .str x _ => .str x
  | .bytes b _ => .byt b
  | .ref a => .ref a
  | _ => .non
def OkU (A : List Addr) : Value → Prop
  | .none => True
  | .bool _ => True
  | .int _ _ => True
  | .str _ _ => True
  | .bytes _ _ => True
  | .ref a => a ∈ A
  | _ => False
theorem OkU.mono {A B : List Addr} (h : ∀ a ∈ A, a ∈ B) : ∀ {u : Value}, OkU A u → OkU B u := fun {u} x => by
  cases u with
  | ref a => exact h a x
  | none => trivial
  | bool b => trivial
  | int i t => trivial
  | str s t => trivial
  | bytes b t => trivial
  | _ => exact False.elim x
theorem relV_toV {A : List Addr} {u : Value} (x : OkU A u) : RelV (toV u) u := by
  cases u with
  | ref a => rfl
  | none => rfl
  | bool b => rfl
  | int i t => exact ⟨t, rfl⟩
  | str s t => exact ⟨t, rfl⟩
  | bytes b t => exact ⟨t, rfl⟩
  | _ => exact False.elim x
theorem vals_toV {A : List Addr} : ∀ {vs : List Value}, (∀ u ∈ vs, OkU A u) → Vals (vs.map toV) vs
  | [], _ => .nil
  | u :: r, h => .cons (relV_toV (h u (List.mem_cons_self ..))) (vals_toV fun x hx => h x (List.mem_cons_of_mem _ hx))
def ArgOb (h : Heap) (A : List Addr) (a : Addr) : Prop := ∃ vs : List Value, vs.length ≤ sizeLine ∧ (∀ u ∈ vs, OkU A u) ∧
  (h.get? a = some { cls := .type "list", data := .seq vs.toArray } ∨ h.get? a = some { cls := .type "tuple", data := .seq vs.toArray })
theorem ArgOb.mono {h : Heap} {A B : List Addr} {a : Addr} (k : ∀ a ∈ A, a ∈ B) (x : ArgOb h A a) : ArgOb h B a := by
  obtain ⟨vs, h1, h2, h3⟩ := x
  exact ⟨vs, h1, fun u hu => (h2 u hu).mono k, h3⟩
theorem wellAll_len {P : Params} {h : Heap} : ∀ {vs : List Value} {ds : List WData}, WellAll P h vs ds → vs.length = ds.length
  | _, _, .nil => rfl
  | _, _, .cons _ b => by
    show _ + 1 = _ + 1
    rw [wellAll_len b]
theorem well_list {P : Params} {h : Heap} {v : Value} {ds : List WData} (x : Well P h v (.list ds)) : ∃ (a : Addr) (vs : List Value), v = .ref a ∧ h.get? a = some { cls := .type "list", data := .seq vs.toArray } ∧ WellAll P h vs ds := by
  cases x with
  | list ho hall => exact ⟨_, _, rfl, ho, hall⟩
theorem well_tuple {P : Params} {h : Heap} {v : Value} {ds : List WData} (x : Well P h v (.tuple ds)) : ∃ (a : Addr) (vs : List Value), v = .ref a ∧ h.get? a = some { cls := .type "tuple", data := .seq vs.toArray } ∧ WellAll P h vs ds := by
  cases x with
  | tuple ho hall => exact ⟨_, _, rfl, ho, hall⟩
theorem well_cons {P : Params} {h : Heap} {us : List Value} {d : WData} {ds : List WData} (x : WellAll P h us (d :: ds)) : ∃ (v : Value) (vs : List Value), us = v :: vs ∧ Well P h v d ∧ WellAll P h vs ds := by
  cases x with
  | cons a b => exact ⟨_, _, rfl, a, b⟩
theorem line_of {n : Nat} (h : n ≤ 1048576) : n ≤ sizeLine := Nat.le_trans h (by decide)
section
variable {P : Params} {h : Heap}
mutual
theorem area_one : ∀ (d : WData) (v : Value), Well P h v d → plW d = true → d.weight ≤ 1048576 → ∃ A : List Addr, OkU A v ∧ ∀ a ∈ A, ArgOb h A a
  | .none, _, x, _, _ => by
    cases x
    exact ⟨[], trivial, fun a m => absurd m (by simp)⟩
  | .bool b, _, x, _, _ => by
    cases x
    exact ⟨[], trivial, fun a m => absurd m (by simp)⟩
  | .int i, _, x, _, _ => by
    cases x
    exact ⟨[], trivial, fun a m => absurd m (by simp)⟩
  | .str s, _, x, _, _ => by
    cases x
    exact ⟨[], trivial, fun a m => absurd m (by simp)⟩
  | .bytes b, _, x, _, _ => by
    cases x
    exact ⟨[], trivial, fun a m => absurd m (by simp)⟩
  | .list ds, _, x, p, z => by
    obtain ⟨a, vs, rfl, ho, hall⟩ := well_list x
    have z2 : WData.weightAll ds ≤ 1048576 := z
    obtain ⟨A, h1, h2⟩ := area_all ds _ hall p fun d hd => Nat.le_trans (weight_mem hd) z2
    have k : ∀ b ∈ A, b ∈ a :: A := fun b hb => List.mem_cons_of_mem _ hb
    refine ⟨a :: A, List.mem_cons_self .., fun b hb => ?_⟩
    rcases List.mem_cons.mp hb with e | m
    · rw [e]
      exact ⟨vs, line_of (by rw [wellAll_len hall]; exact Nat.le_trans (PySem.W.length_le_weightAllW ds) z2), fun u hu => (h1 u hu).mono k, .inl ho⟩
    · exact (h2 b m).mono k
  | .tuple ds, _, x, p, z => by
    obtain ⟨a, vs, rfl, ho, hall⟩ := well_tuple x
    have z2 : WData.weightAll ds ≤ 1048576 := z
    obtain ⟨A, h1, h2⟩ := area_all ds _ hall p fun d hd => Nat.le_trans (weight_mem hd) z2
    have k : ∀ b ∈ A, b ∈ a :: A := fun b hb => List.mem_cons_of_mem _ hb
    refine ⟨a :: A, List.mem_cons_self .., fun b hb => ?_⟩
    rcases List.mem_cons.mp hb with e | m
    · rw [e]
      exact ⟨vs, line_of (by rw [wellAll_len hall]; exact Nat.le_trans (PySem.W.length_le_weightAllW ds) z2), fun u hu => (h1 u hu).mono k, .inr ho⟩
    · exact (h2 b m).mono k
  | .float _, _, _, p, _ => Bool.noConfusion (show false = true from p)
  | .dict _, _, _, p, _ => Bool.noConfusion (show false = true from p)
  | .bytearray _, _, _, p, _ => Bool.noConfusion (show false = true from p)
  | .set _, _, _, p, _ => Bool.noConfusion (show false = true from p)
  | .frozenset _, _, _, p, _ => Bool.noConfusion (show false = true from p)
  | .obj _ _, _, _, p, _ => Bool.noConfusion (show false = true from p)
theorem area_all : ∀ (ds : List WData) (vs : List Value), WellAll P h vs ds → plWs ds = true → (∀ d ∈ ds, d.weight ≤ 1048576) → ∃ A : List Addr, (∀ u ∈ vs, OkU A u) ∧ ∀ a ∈ A, ArgOb h A a
  | [], _, x, _, _ => by
    cases x
    exact ⟨[], fun u m => absurd m (by simp), fun a m => absurd m (by simp)⟩
  | d :: ds, _, x, p, z => by
    obtain ⟨v, vs, rfl, x1, x2⟩ := well_cons x
    have q : plW d = true ∧ plWs ds = true := Bool.and_eq_true_iff.mp p
    obtain ⟨A, a1, a2⟩ := area_one d v x1 q.1 (z d (List.mem_cons_self ..))
    obtain ⟨B, b1, b2⟩ := area_all ds vs x2 q.2 fun e he => z e (List.mem_cons_of_mem _ he)
    have kA : ∀ b ∈ A, b ∈ A ++ B := fun b hb => List.mem_append.mpr (.inl hb)
    have kB : ∀ b ∈ B, b ∈ A ++ B := fun b hb => List.mem_append.mpr (.inr hb)
    refine ⟨A ++ B, fun u hu => ?_, fun b hb => ?_⟩
    · rcases List.mem_cons.mp hu with e | m
      · rw [e]
        exact a1.mono kA
      · exact (b1 u m).mono kB
    · rcases List.mem_append.mp hb with m | m
      · exact (a2 b m).mono kA
      · exact (b2 b m).mono kB
end
end
def hoOf (o : Obj) : Option HO := match o.data with
  | .seq vs _ => if (o.cls == Value.type "list") = true then some (.frz o (.lst (vs.toList.map toV))) else some (.frz o (.tup (vs.toList.map toV)))
  | _ => none
def argH (K : PySem.W.Frag) (h : Heap) (A : List Addr) : Hp := fun b => if b ∈ A then (if (K.lookup b).isNone = true then (h.get? b).bind hoOf else none) else none
def OnlyF (H : Hp) : Prop := ∀ b, H b = none ∨ ∃ o u, H b = some (.frz o u)
theorem hoOf_lst (vs : List Value) : hoOf { cls := .type "list", data := .seq vs.toArray } = some (.frz { cls := .type "list", data := .seq vs.toArray } (.lst (vs.map toV))) := by
  show (if (Value.type "list" == Value.type "list") = true then some (HO.frz { cls := .type "list", data := .seq vs.toArray } (.lst (vs.toArray.toList.map toV))) else some (HO.frz { cls := .type "list", data := .seq vs.toArray } (.tup (vs.toArray.toList.map toV)))) = _
  rw [if_pos (beq_self_eq_true _)]
theorem hoOf_tup (vs : List Value) : hoOf { cls := .type "tuple", data := .seq vs.toArray } = some (.frz { cls := .type "tuple", data := .seq vs.toArray } (.tup (vs.map toV))) := by
  show (if (Value.type "tuple" == Value.type "list") = true then some (HO.frz { cls := .type "tuple", data := .seq vs.toArray } (.lst (vs.toArray.toList.map toV))) else some (HO.frz { cls := .type "tuple", data := .seq vs.toArray } (.tup (vs.toArray.toList.map toV)))) = _
  rw [if_neg (by decide)]
section
variable {P : Program} {w : World} {K : PySem.W.Frag} {h : Heap} {A : List Addr}
theorem argH_at {b : Addr} {o : Obj} (hb : b ∈ A) (hk : K.lookup b = none) (e : h.get? b = some o) : argH K h A b = hoOf o := by
  unfold argH
  rw [if_pos hb, hk, if_pos (show (none : Option Obj).isNone = true from rfl), e] <;> rfl
theorem of_argH {b : Addr} {u : HO} (q : argH K h A b = some u) : b ∈ A ∧ K.lookup b = none := by
  unfold argH at q
  by_cases hb : b ∈ A
  · rw [if_pos hb] at q
    cases hk : K.lookup b with
    | none => exact ⟨hb, rfl⟩
    | some o =>
      rw [hk, if_neg (by simp)] at q
      cases q
  · rw [if_neg hb] at q
    cases q
theorem argH_is (ar : ∀ a ∈ A, ArgOb h A a) {b : Addr} {u : HO} (q : argH K h A b = some u) : K.lookup b = none ∧ ∃ vs : List Value, vs.length ≤ sizeLine ∧ (∀ u ∈ vs, OkU A u) ∧
    ((h.get? b = some { cls := .type "list", data := .seq vs.toArray } ∧ u = .frz { cls := .type "list", data := .seq vs.toArray } (.lst (vs.map toV))) ∨
     (h.get? b = some { cls := .type "tuple", data := .seq vs.toArray } ∧ u = .frz { cls := .type "tuple", data := .seq vs.toArray } (.tup (vs.map toV)))) := by
  obtain ⟨hb, hk⟩ := of_argH q
  obtain ⟨vs, h1, h2, h3⟩ := ar b hb
  refine ⟨hk, vs, h1, h2, ?_⟩
  rcases h3 with e | e
  · rw [argH_at hb hk e, hoOf_lst] at q
    exact .inl ⟨e, (Option.some.inj q).symm⟩
  · rw [argH_at hb hk e, hoOf_tup] at q
    exact .inr ⟨e, (Option.some.inj q).symm⟩
theorem argH_only (ar : ∀ a ∈ A, ArgOb h A a) : OnlyF (argH K h A) := fun b => by
  cases q : argH K h A b with
  | none => exact .inl rfl
  | some u =>
    obtain ⟨_, vs, _, _, ⟨_, e⟩ | ⟨_, e⟩⟩ := argH_is ar q
    · exact .inr ⟨_, _, by rw [e]⟩
    · exact .inr ⟨_, _, by rw [e]⟩
theorem argH_ok (ar : ∀ a ∈ A, ArgOb h A a) : HOk P w (argH K h A) h := fun b u q => by
  obtain ⟨_, vs, h1, h2, ⟨e, rfl⟩ | ⟨e, rfl⟩⟩ := argH_is ar q
  · exact ⟨e, by rw [List.length_map]; exact h1, vs, _, vals_toV h2, e⟩
  · exact ⟨e, by rw [List.length_map]; exact h1, vs, vals_toV h2, _, e, rfl, _, rfl⟩
theorem seq_inj {c c' : Value} {vs us : List Value} (e : (some { cls := c, data := .seq vs.toArray } : Option Obj) = some { cls := c', data := .seq us.toArray }) : c = c' ∧ vs = us := by
  have e1 := Option.some.inj e
  have e2 : c = c' := congrArg Obj.cls e1
  have e3 : Data.seq vs.toArray = Data.seq us.toArray := congrArg Obj.data e1
  injection e3 with e4
  refine ⟨e2, ?_⟩
  have e5 := congrArg Array.toList e4
  simpa using e5
theorem argL (KX : K.In h) (ar : ∀ a ∈ A, ArgOb h A a) {a : Addr} {vs : List Value} (ha : a ∈ A) (e : h.get? a = some { cls := .type "list", data := .seq vs.toArray }) : (∀ u ∈ vs, OkU A u) ∧ SqL K (argH K h A) a (vs.map toV) := by
  obtain ⟨us, h1, h2, h3⟩ := ar a ha
  have hu : us = vs := by
    rcases h3 with q | q
    · rw [e] at q
      exact (seq_inj q).2.symm
    · rw [e] at q
      exact absurd (Value.type.inj (seq_inj q).1) (by decide)
  subst hu
  refine ⟨h2, ?_⟩
  cases hk : K.lookup a with
  | none => exact .inl (.inr ⟨_, by rw [argH_at ha hk e, hoOf_lst]⟩)
  | some o =>
    have e2 := KX a o hk
    rw [e] at e2
    obtain rfl := Option.some.inj e2
    exact .inr ⟨_, us.toArray, _, hk, rfl, rfl, rfl, by rw [List.size_toArray]; exact h1, by simpa using vals_toV h2⟩
theorem argT (KX : K.In h) (ar : ∀ a ∈ A, ArgOb h A a) {a : Addr} {vs : List Value} (ha : a ∈ A) (e : h.get? a = some { cls := .type "tuple", data := .seq vs.toArray }) : (∀ u ∈ vs, OkU A u) ∧ SqT K (argH K h A) a (vs.map toV) := by
  obtain ⟨us, h1, h2, h3⟩ := ar a ha
  have hu : us = vs := by
    rcases h3 with q | q
    · rw [e] at q
      exact absurd (Value.type.inj (seq_inj q).1) (by decide)
    · rw [e] at q
      exact (seq_inj q).2.symm
  subst hu
  refine ⟨h2, ?_⟩
  cases hk : K.lookup a with
  | none => exact .inl (.inr ⟨_, by rw [argH_at ha hk e, hoOf_tup]⟩)
  | some o =>
    have e2 := KX a o hk
    rw [e] at e2
    obtain rfl := Option.some.inj e2
    exact .inr ⟨_, us.toArray, _, hk, rfl, rfl, by rw [List.size_toArray]; exact h1, by simpa using vals_toV h2⟩
mutual
theorem dw_one {Pm : Params} (KX : K.In h) (ar : ∀ a ∈ A, ArgOb h A a) : ∀ (d : WData) (v : Value), Well Pm h v d → plW d = true → OkU A v → Dw K (argH K h A) (toV v) d
  | .none, _, x, _, _ => by
    cases x
    exact .non
  | .bool b, _, x, _, _ => by
    cases x
    exact .bl b
  | .int i, _, x, _, _ => by
    cases x
    exact .int i
  | .str s, _, x, _, _ => by
    cases x
    exact .str s
  | .bytes b, _, x, _, _ => by
    cases x
    have z := Dw.byt (K := K) (H := argH K h A) b.toArray
    exact z
  | .list ds, _, x, p, hu => by
    obtain ⟨a, vs, rfl, ho, hall⟩ := well_list x
    obtain ⟨h2, hs⟩ := argL KX ar hu ho
    exact .lst hs (dw_all KX ar ds _ hall p h2)
  | .tuple ds, _, x, p, hu => by
    obtain ⟨a, vs, rfl, ho, hall⟩ := well_tuple x
    obtain ⟨h2, hs⟩ := argT KX ar hu ho
    exact .tup hs (dw_all KX ar ds _ hall p h2)
  | .float _, _, _, p, _ => Bool.noConfusion (show false = true from p)
  | .dict _, _, _, p, _ => Bool.noConfusion (show false = true from p)
  | .bytearray _, _, _, p, _ => Bool.noConfusion (show false = true from p)
  | .set _, _, _, p, _ => Bool.noConfusion (show false = true from p)
  | .frozenset _, _, _, p, _ => Bool.noConfusion (show false = true from p)
  | .obj _ _, _, _, p, _ => Bool.noConfusion (show false = true from p)
theorem dw_all {Pm : Params} (KX : K.In h) (ar : ∀ a ∈ A, ArgOb h A a) : ∀ (ds : List WData) (vs : List Value), WellAll Pm h vs ds → plWs ds = true → (∀ u ∈ vs, OkU A u) → DwAll K (argH K h A) (vs.map toV) ds
  | [], _, x, _, _ => by
    cases x
    exact .nil
  | d :: ds, _, x, p, hu => by
    obtain ⟨v, vs, rfl, x1, x2⟩ := well_cons x
    have q : plW d = true ∧ plWs ds = true := Bool.and_eq_true_iff.mp p
    exact .cons (dw_one KX ar d v x1 q.1 (hu _ (List.mem_cons_self ..))) (dw_all KX ar ds vs x2 q.2 fun u m => hu u (List.mem_cons_of_mem _ m))
end
end
theorem spec_call {P : Program} {w : World} {K : PySem.W.Frag} {mg mb : Str → Option Value} {CX : CXT} {k : Nat} {fa : Addr} {fd : FuncData} {ps : List Str} {sp : Sp} {s₁ : Shared} {vals : List Value} {ds : List WData} {R : PySem.W.WRecords} {cl : Str → Option Addr} {d0 : WData}
    (KX : K.In s₁.heap) (hns : s₁.heap.Ns mainGlobals mg) (hb : s₁.heap.Ns builtinsNs mb) (hbb : ∀ x : Str, x ≠ "__name__" → mb x = bootBuiltins x) (hlim : s₁.heap.NoLimit) (hg : s₁.gens = #[])
    (hwl : WellAll w.params s₁.heap vals ds) (hpl : plWs ds = true) (hwt : ∀ d ∈ ds, d.weight ≤ 1048576) (hr : Room k callerA)
    (F : ∀ base : Heap, K.In base → base.Ns mainGlobals mg → FnOk P w K mg base CX k fa fd ps sp) (hbind : ∀ (s : Shared) (us : List Value), us.length = ps.length → BindsTo s fd ⟨us, []⟩ (ps.zip us)) (hlen : ds.length = ps.length)
    (hsp : ∀ (H : Hp) (xs : List V), OnlyF H → DwAll K H xs ds → sp xs H (fun v H' => Dw K H' v d0) fun _ _ _ => False)
    (hCX : ∀ H e s', CX [] H s₁ (fun _ _ _ => False) e s' → False) :
    codeAny (model P w) callerA (.call (.ref fa) ⟨vals, []⟩) (fun r s' => ∃ u as, r = .ok (.ret u) ∧ ReadsW R cl s'.heap u d0 as ∧ OldK s₁.heap s'.heap ∧ s'.os = s₁.os ∧ AllBare s'.gens) s₁ := by
  obtain ⟨A, ho, ar⟩ := area_all ds vals hwl hpl hwt
  have hO : OnlyF (argH K s₁.heap A) := argH_only ar
  have hok : HOk P w (argH K s₁.heap A) s₁.heap := argH_ok ar
  have hS := dw_all KX ar ds vals hwl hpl ho
  have hV := vals_toV ho
  have hK : ∀ b u, argH K s₁.heap A b = some u → K.lookup b = none := fun b u q => (argH_is ar q).1
  have noA : ∀ {b : Addr} {o : Obj} {es : Array DictEntry} {ep : Nat}, s₁.heap.get? b = some o → o.data = .dict es ep → argH K s₁.heap A b = none := fun {b o es ep} e d => by
    cases q : argH K s₁.heap A b with
    | none => rfl
    | some u =>
      obtain ⟨_, vs, _, _, ⟨e2, _⟩ | ⟨e2, _⟩⟩ := argH_is ar q
      · rw [e2] at e
        cases e
        have d' : Data.seq vs.toArray _ = Data.dict es ep := d
        cases d'
      · rw [e2] at e
        cases e
        have d' : Data.seq vs.toArray _ = Data.dict es ep := d
        cases d'
  generalize argH K s₁.heap A = H at hO hok hS hK noA
  have base_of : ∀ {b : Addr} {o : Obj}, s₁.heap.get? b = some o → H b = none → (hidT s₁.heap H).get? b = some o := fun e n => hidT_get e n
  have nsK : ∀ {b : Addr} {m : Str → Option Value}, s₁.heap.Ns b m → (hidT s₁.heap H).Ns b m := fun {b m} ⟨o, es, ep, e, d, r⟩ => ⟨o, es, ep, base_of e (noA e d), d, r⟩
  have nK : ∀ b o, K.lookup b = some o → H b = none := fun b o e => by
    cases q : H b with
    | none => rfl
    | some u =>
      rw [hK b u q] at e
      cases e
  have hKb : K.In (hidT s₁.heap H) := fun b o e => base_of (KX b o e) (nK b o e)
  have hM : Mod K mg (hidT s₁.heap H) := ⟨hKb, nsK hns, ⟨mb, nsK hb, hbb⟩, let ⟨mc, h1, h2⟩ := hlim; ⟨mc, nsK h1, h2⟩⟩
  have e0 : Env0 P w K mg (hidT s₁.heap H) callerA [] s₁ H := ⟨rfl, hM, fun b o e => of_hidT e, Nat.le_of_eq (hidT_size _ _), trivial, fun b hb => absurd (show b ∈ ([] : List Addr) from hb) (by simp), hok, .of_eq hg⟩
  have hl : vals.length = ps.length := by rw [wellAll_len hwl]; exact hlen
  refine codeAny_mono ((F _ hKb (nsK hns)).run callerA [] s₁ H ⟨vals, []⟩ vals (vals.map toV) _ _ hr e0 (hbind s₁ vals hl) hV (hsp H _ hO hS)) fun r s' x => ?_
  cases r with
  | error e => exact (hCX H e s' x).elim
  | ok fl =>
    cases fl with
    | next => exact False.elim x
    | brk => exact False.elim x
    | cont => exact False.elim x
    | ret u =>
      obtain ⟨v, H', os, bare, un, hok', r', q⟩ := x
      have kept : ∀ b o, s₁.heap.get? b = some o → s'.heap.get? b = some o := fun b o e => by
        cases q2 : H b with
        | none => exact un.keep b o e q2 (by intro z; exact absurd (show b ∈ ([] : List Addr) from z) (by simp)) (by simp)
        | some u2 =>
          rcases hO b with z | ⟨ob, u3, z⟩
          · rw [q2] at z
            cases z
          · have z2 := un.frzs b ob _ z
            obtain ⟨e1, _⟩ := hok b _ z
            obtain ⟨e2, _⟩ := hok' b _ z2
            rw [e] at e1
            cases e1
            exact e2
      have KX' : K.In s'.heap := fun b o e => kept b o (KX b o e)
      obtain ⟨as, hrd⟩ := Dw.reads (R := R) (cl := cl) hok' KX' d0 v u q r'
      exact ⟨u, as, rfl, hrd, OldK.of_keep kept, os, bare⟩
theorem layable_weight {ds : List WData} (h : WData.layableAll ds = true) : ∀ d ∈ ds, d.weight ≤ 1048576 := fun d hd =>
  (PySem.W.layableW_iff.mp (List.all_eq_true.mp h d hd)).2.2
theorem encAll_len : ∀ (cs : List Codec) (a : Codec.denoteAll cs), (Codec.encAll cs a).length = cs.length
  | [], _ => rfl
  | c :: cs, a => by
    show (Codec.encAll cs a.2).length + 1 = cs.length + 1
    rw [encAll_len cs a.2]
theorem walk_spec {r : OpenSpec} {k : Nat} {q : Program} {loose : List Str} {XP : (Str → Option Value) → Heap → Prop} {YP : World → Heap → Prop} {d : DefRec} {K : Params → PySem.W.Frag} {CX : World → CXT} {ps : List Str} {sp : World → Sp}
    (hwell : r.wellSaid = true) (hdf : d.params.defaults = []) (hlen : r.args.length = ps.length) (hr : Room k callerA)
    (hY : ∀ (w : World) (h : Heap), YP w h → (K w.params).In h)
    (F : ∀ (w : World) (mg : Str → Option Value) (fa : Addr) (h : Heap), YP w h → (K w.params).In h → h.Ns mainGlobals mg → mg d.name = some (.ref fa) →
      ∃ fd : FuncData, (∀ (s : Shared) (us : List Value), us.length = ps.length → BindsTo s fd ⟨us, []⟩ (ps.zip us)) ∧
        ∀ base : Heap, (K w.params).In base → base.Ns mainGlobals mg → FnOk r.prog w (K w.params) mg base (CX w) k fa fd ps (sp w))
    (hsp : ∀ (w : World) (H : Hp) (xs : List V) (a : Codec.denoteAll r.args), OnlyF H → Codec.withinAll r.args a = true → Codec.app r.args r.asked a = true → DwAll (K w.params) H xs (Codec.encAll r.args a) →
      sp w xs H (fun v H' => Dw (K w.params) H' v (r.ret.enc (Codec.app r.args r.f a))) fun _ _ _ => False)
    (hCX : ∀ (w : World) (H : Hp) (s : Shared) (e : Value) (s' : Shared), CX w [] H s (fun _ _ _ => False) e s' → False) :
    PySem.W.WalkOS q loose XP YP r d [] (fun f vs => PySem.call f vs) := by
  intro w s_0 s₁ mg mb G Y fa o pm cd doc dV kV ho hd hcd hD hmg hg args vals as hpre hlay hrd hwl hlo
  obtain ⟨a, e1, e2⟩ := PySem.W.os_pre_some hpre
  obtain ⟨e3, hwi⟩ := Codec.encAll_of_decAll r.args args a e1
  subst e3
  have KX := hY w _ Y
  obtain ⟨fd, hb, hF⟩ := F w mg fa _ Y KX G.T.g hmg
  refine PySem.W.enter_call (codeAny_mono (spec_call (R := []) (cl := classAt s_0.heap) (d0 := r.ret.enc (Codec.app r.args r.f a)) KX G.T.g G.T.b G.T.builtins G.T.nolimit hg hwl (pl_encAll _ _) (layable_weight hlay) hr hF hb (by rw [encAll_len]; exact hlen)
    (fun H xs hO hS => hsp w H xs a hO hwi e2 hS) fun H e s' => hCX w H s₁ e s') fun r' s' hq => ?_)
  obtain ⟨u, as', rfl, h1, h2, h3, h4⟩ := hq
  exact ⟨.inl ⟨u, _, as', rfl, fun _ => rfl, h1, (OpenSpec.post_iff hwell hwi _ _).mpr rfl, fun z => Bool.noConfusion (show false = true from z)⟩, h2, h3, h4⟩
theorem walk_specK {r : OpenSpec} {k : Nat} {q : Program} {loose : List Str} {XP : (Str → Option Value) → Heap → Prop} {YP : World → Heap → Prop} {d : DefRec} {K : Params → PySem.W.Frag} {CX : CXT} {ps : List Str} {sp : PySem.W.Frag → Sp}
    (hwell : r.wellSaid = true) (hdf : d.params.defaults = []) (hlen : r.args.length = ps.length) (hr : Room k callerA)
    (hY : ∀ (w : World) (h : Heap), YP w h → (K w.params).In h)
    (F : ∀ (w : World) (mg : Str → Option Value) (fa : Addr) (h : Heap), YP w h → (K w.params).In h → h.Ns mainGlobals mg → mg d.name = some (.ref fa) →
      ∃ fd : FuncData, (∀ (s : Shared) (us : List Value), us.length = ps.length → BindsTo s fd ⟨us, []⟩ (ps.zip us)) ∧
        ∀ base : Heap, (K w.params).In base → base.Ns mainGlobals mg → FnOk r.prog w (K w.params) mg base CX k fa fd ps (sp (K w.params)))
    (hsp : ∀ (K : PySem.W.Frag) (H : Hp) (xs : List V) (a : Codec.denoteAll r.args), OnlyF H → Codec.withinAll r.args a = true → Codec.app r.args r.asked a = true → DwAll K H xs (Codec.encAll r.args a) →
      sp K xs H (fun v H' => Dw K H' v (r.ret.enc (Codec.app r.args r.f a))) fun _ _ _ => False)
    (hCX : ∀ (H : Hp) (s : Shared) (e : Value) (s' : Shared), CX [] H s (fun _ _ _ => False) e s' → False) :
    PySem.W.WalkOS q loose XP YP r d [] (fun f vs => PySem.call f vs) :=
  walk_spec (K := K) (CX := fun _ => CX) (sp := fun w => sp (K w.params)) hwell hdf hlen hr hY F (fun w H xs a h1 h2 h3 h4 => hsp (K w.params) H xs a h1 h2 h3 h4) fun _ H s e s' => hCX H s e s'
end L2
end
end
section
set_option Elab.async false
set_option linter.all false
set_option maxRecDepth 100000
namespace L2
open PySem PySem.Spec PyProof.Rows
def Sta (a : Addr) (cls : Value) (B h : Heap) : Prop :=
  (∃ t, h.get? a = some { cls := cls, data := .fields #[.ref t, .none, .none, .none, .bool false, .none] }) ∨ ∃ a0 fl, h.TracedAtW B a cls a0 fl
structure Way (l : List Env) (ex : List Addr) (a : Addr) (cls : Value) (g : Heap) (H' : Hp) (B h : Heap) : Prop where
  stays : B.StaysIn h
  new : B.get? a = none
  fr : h.FunFrames B l
  has : ∀ b o, h.get? b = some o → b ∉ frs l → ((∃ o0, g.get? b = some o0 ∧ b ∉ ex) ∨ ∃ u, H' b = some u) → B.get? b = some o
  sta : Sta a cls B h
section
variable {M : Model} {A : Around} {E : Value → Shared → Prop} {s : Shared}
theorem frame_same {env env' : Env} (e : env'.frame = env.frame) (x : Value) : noteFrame x env' = noteFrame x env := by
  unfold noteFrame PySem.frameOf
  rw [e]
theorem note_any {B : Heap} {env : Env} {outer : List Env} {L a : Addr} {cls : Value} {Q : Unit → Shared → Prop} (hA : A.frames = some (env :: outer)) (hL : env.frame = some L)
    (kB : B.StaysIn s.heap) (nB : B.get? a = none) (fB : s.heap.FunFrames B (env :: outer)) (st : Sta a cls B s.heap)
    (hQ : ∀ h' a0, B.StaysIn h' → h'.FunFrames B (env :: outer) → h'.TracedAtW B a cls a0 (rawInt L) → s.heap.UpToSlots h' → Q () { s with heap := h' }) : wpAny M A (noteFrame (.ref a) env) Q E s := by
  rcases st with ⟨t, he⟩ | ⟨a0, fl, tr⟩
  · unfold noteFrame
    simp only [hL]
    refine wpAny_bind (wpAny_field he rfl (x := Value.none) rfl ?_)
    have z : ¬ ((Value.none != Value.none) = true) := by decide
    rw [if_neg z]
    exact wpAny_entryW (a0 := .ref t) hA fB hL he kB nB rfl (by show 1 < 6; decide) rfl fun h' N => hQ h' (.ref t) N.1 N.2.1 N.2.2.1 N.2.2.2
  · by_cases q : fl = rawInt L
    · subst q
      exact wpAny_noteFrame_againW hL tr (hQ s.heap a0 kB fB tr (Heap.UpToSlots.refl _))
    · obtain ⟨oe, vs, T, oT, ts, he, ⟨hc, h0⟩, hd, h1, nT, neT, hT, dT, h3⟩ := tr
      subst hc
      unfold noteFrame
      simp only [hL]
      refine wpAny_bind (wpAny_field he hd h1 ?_)
      have z1 : (Value.ref T != Value.none) = true := by simp
      rw [if_pos z1]
      refine wpAny_bind (wpAny_field hT dT h3 ?_)
      have z2 : ¬ ((fl == rawInt L) = true) := fun z => q (eq_of_beq z)
      rw [if_neg z2]
      refine wpAny_bind (wpAny_setField hT dT (Array.getElem?_eq_some_iff.mp h3).1 ?_)
      have oth : ∀ c, c ≠ T → (s.heap.update T (Obj.mapFields (·.setIfInBounds 3 Value.none))).get? c = s.heap.get? c := fun c n => Heap.get?_update_other s.heap _ (Ne.symm n)
      have rcd : ∀ c o, s.heap.get? c = some o → (∀ ws, o.data ≠ .fields ws) → c ≠ T := fun c o hc nf z => by
        subst z
        rw [hT] at hc
        cases hc
        exact nf ts dT
      have fB' := fB.of_keeps (h' := s.heap.update T (Obj.mapFields (·.setIfInBounds 3 Value.none))) fun c o hc nf => ⟨o, (oth c (rcd c o hc nf)).trans hc, rfl⟩
      have kB' : B.StaysIn (s.heap.update T (Obj.mapFields (·.setIfInBounds 3 Value.none))) := fun c o hc => (oth c fun z => by rw [z, nT] at hc; cases hc).trans (kB c o hc)
      exact wpAny_entryW (s := { s with heap := s.heap.update T (Obj.mapFields (·.setIfInBounds 3 Value.none)) }) (a0 := a0) hA fB' hL ((oth a (Ne.symm neT)).trans he) kB' nB hd (Array.getElem?_eq_some_iff.mp h1).1 h0
        fun h' N => hQ h' a0 N.1 N.2.1 N.2.2.1 fun c o hc nf => N.2.2.2 c o ((oth c (rcd c o hc nf)).trans hc) nf
theorem leave_any {B : Heap} {env : Env} {outer : List Env} {L a : Addr} {cls : Value} {Q : Unit → Shared → Prop} (hA : A.frames = some (env :: outer)) (hL : env.frame = some L)
    (kB : B.StaysIn s.heap) (nB : B.get? a = none) (fB : s.heap.FunFrames B (env :: outer)) (st : Sta a cls B s.heap)
    (hQ : ∀ h' a0, B.StaysIn h' → h'.FunFrames B (env :: outer) → h'.TracedAtW B a cls a0 .none → s.heap.UpToSlots h' → Q () { s with heap := h' }) : wpAny M A (leaving env (.ref a)) Q E s := by
  unfold leaving
  refine wpAny_bind (note_any hA hL kB nB fB st fun h1 a0 k1 f1 t1 u1 => ?_)
  exact wpAny_setFlight_noneW (s := { s with heap := h1 }) k1 f1 t1 fun h2 k2 f2 t2 u2 => hQ h2 a0 k2 f2 t2 (u1.trans fun c o e nf => ⟨o.slots, u2 c o e nf⟩)
end
section
variable {P : Program} {w : World} {H : Hp} {h : Heap} {a : Addr} {o : HO}
theorem ObjOk.ex (x : ObjOk P w H h a o) : ∃ ob, h.get? a = some ob := by
  cases o with
  | lst xs => obtain ⟨_, _, _, _, e⟩ := x; exact ⟨_, e⟩
  | tup xs => obtain ⟨_, _, _, ob, e, _⟩ := x; exact ⟨_, e⟩
  | dK kvs => obtain ⟨_, _, _, _, ob, _, _, e, _⟩ := x; exact ⟨_, e⟩
  | dT kvs => obtain ⟨_, _, _, _, ob, _, _, e, _⟩ := x; exact ⟨_, e⟩
  | set S n => obtain ⟨ob, _, _, _, e, _⟩ := x; exact ⟨_, e⟩
  | ins C dx fs => obtain ⟨_, _, _, e, _⟩ := x; exact ⟨_, e⟩
  | own y => exact x
  | xd fs => obtain ⟨_, ⟨ob, _, _, e, _⟩, _⟩ := x; exact ⟨_, e⟩
  | rng lo hi => obtain ⟨_, _, _, e⟩ := x; exact ⟨_, e⟩
  | frz ob u => obtain ⟨e, _⟩ := x; exact ⟨_, e⟩
  | tbl ps => exact ⟨_, (show h.get? a = some _ from x)⟩
  | met f y => exact ⟨_, (show h.get? a = some _ from x)⟩
  | ext φ => obtain ⟨_, e, _⟩ := x; exact e
end
def CXN (P : Program) (w : World) : CXT := fun outer H s E e s' => ∃ (a : Addr) (cls : Value) (H' : Hp) (B : Heap), e = .ref a ∧ s'.os = s.os ∧ AllBare s'.gens ∧ Un (frs outer) [] H H' s.heap s'.heap ∧ HOk P w H' s'.heap ∧
  Way outer [] a cls s.heap H' B s'.heap ∧ E cls none H'
structure ThrownAt (X : Cx) (E : XK) (a : Addr) (cls : Value) (H' : Hp) (B : Heap) (s' : Shared) : Prop where
  ok : X.Ok
  os : s'.os = X.s_0.os
  bare : AllBare s'.gens
  un : Un X.fs X.ex X.H_0 H' X.s_0.heap s'.heap
  hok : HOk X.prog X.w H' s'.heap
  way : Way X.stack X.ex a cls X.s_0.heap H' B s'.heap
  free : ∀ b ∈ frs X.stack, H' b = none
  loc : H' X.env.locals = none
  ns : ∃ m, s'.heap.Ns X.env.locals m
  want : E cls none H'
def Thrown (X : Cx) (E : XK) (e : Value) (s' : Shared) : Prop := ∃ a cls H' B, e = .ref a ∧ ThrownAt X E a cls H' B s'
def Meets (X : Cx) (E : XK) : Prop := ∀ e s', Thrown X E e s' → X.xe e s'
section
variable {X : Cx} {E : XK} {pins : List (Addr × Obj)} {σ : St} {H : Hp} {s s' : Shared} {e : Value}
theorem thrown_call (I : Inv X pins σ H s) (h : CXN X.prog X.w X.stack H s E e s') : Thrown X E e s' := by
  obtain ⟨a, cls, H', B, rfl, os, bare, un, hok, way, want⟩ := h
  have I' : Inv X pins σ H' s' := I.call' os un hok bare (ch := []) fun b z => absurd z (by simp)
  refine ⟨a, cls, H', B, rfl, I.ok, I'.os, bare, I'.base, hok, ⟨way.stays, way.new, way.fr, fun b o e nf hb => ?_, way.sta⟩, I'.stkFree, I'.free, let ⟨m, hm, _⟩ := I'.loc; ⟨m, hm⟩, want⟩
  refine way.has b o e nf ?_
  rcases hb with ⟨o0, e0, nx⟩ | hb
  · obtain ⟨o1, e1⟩ := I.base.there b o0 e0 nx
    exact .inl ⟨o1, e1, by simp⟩
  · exact .inr hb
theorem passes_of (m : Meets X E) : Passes (CXN X.prog X.w) X E := fun pins σ H s e s' I h => m e s' (thrown_call I h)
theorem hok_way {P : Program} {w : World} {l : List Env} {ex : List Addr} {a : Addr} {cls : Value} {g : Heap} {H' : Hp} {B h h' : Heap} (hok : HOk P w H' h) (way : Way l ex a cls g H' B h) (fr : ∀ b ∈ frs l, H' b = none) (k : B.StaysIn h') : HOk P w H' h' := fun b u e =>
  (hok b u e).stay (fun c o hc q => by
    have t : ∃ v, H' c = some v := by
      rcases hc with z | z
      · exact ⟨u, by rw [z]; exact e⟩
      · exact ⟨_, z⟩
    refine k c o (way.has c o q (fun z => ?_) (.inr t))
    obtain ⟨v, hv⟩ := t
    rw [fr c z] at hv
    cases hv) (fun _ q => q) fun _ _ q => q
end
section
variable {P : Program} {w : World} {K : PySem.W.Frag} {mg : Str → Option Value} {base : Heap} {N : List Str} {qual : Str} {scope : Scope} {f : Addr} {cd : Value} {A : Around} {outer : List Env} {s : Shared} {H : Hp} {E : XK}
theorem meets_def : Meets (cxOf (CXN P w) P w K mg base N qual scope f cd A outer s H E) E := by
  rintro e s' ⟨a, cls, H', B, rfl, T⟩
  have hA : (A.deeper (envOfC qual scope s.heap.objs.size f cd)).frames = some (envOfC qual scope s.heap.objs.size f cd :: outer) := T.ok.frames
  have os : s'.os = s.os := T.os
  have un : Un (frs outer) [] H H' s.heap s'.heap := T.un
  have hok : HOk P w H' s'.heap := T.hok
  have way : Way (envOfC qual scope s.heap.objs.size f cd :: outer) [] a cls s.heap H' B s'.heap := T.way
  have free : ∀ b ∈ frs (envOfC qual scope s.heap.objs.size f cd :: outer), H' b = none := T.free
  have funs : s.heap.FunFrames base outer := T.ok.funs
  have frf : ∀ b ∈ frs outer, H b = none := T.ok.frf
  have hfr : ∀ b, b ∈ frs (envOfC qual scope s.heap.objs.size f cd :: outer) → b = s.heap.objs.size ∨ b ∈ frs outer := fun b hb => by
    have z : b ∈ s.heap.objs.size :: frs outer := hb
    exact List.mem_cons.mp z
  have nfr : ∀ {b o}, s.heap.get? b = some o → b ∉ frs outer → b ∉ frs (envOfC qual scope s.heap.objs.size f cd :: outer) := fun {b o} q n z => by
    rcases hfr b z with z | z
    · exact absurd (Heap.lt_size q) (by rw [z]; exact Nat.lt_irrefl _)
    · exact n z
  show wpAny (model P w) _ (leaving _ (.ref a)) _ _ s'
  refine leave_any hA rfl way.stays way.new way.fr way.sta fun h' a0 k1 f1 t1 u1 => ?_
  have toB : ∀ {b o o0}, s'.heap.get? b = some o → s.heap.get? b = some o0 → b ∉ frs outer → B.get? b = some o := fun {b o o0} q q0 n => way.has b o q (nfr q0 n) (.inl ⟨o0, q0, by simp⟩)
  have slot : ∀ b o, s.heap.get? b = some o → H b = none → b ∈ frs outer → ∃ sl, h'.get? b = some { o with slots := sl } := fun b o q n hb => by
    obtain ⟨sl, e1⟩ := un.slot b o q n hb (by simp)
    obtain ⟨_, o2, e2, d2⟩ := way.fr.mem (show b ∈ frs (envOfC qual scope s.heap.objs.size f cd :: outer) from List.mem_cons_of_mem _ hb)
    rw [e1] at e2
    cases e2
    obtain ⟨sl2, e3⟩ := u1 b _ e1 d2
    exact ⟨sl2, e3⟩
  refine ⟨a, cls, H', B, rfl, os, T.bare, ⟨fun b o q n hb _ => k1 b o (toB (un.keep b o q n hb (by simp)) q hb), fun b o q n hb _ => slot b o q n hb, un.free, fun b o q _ => ?_, un.tups, un.frzs, un.tbls⟩, hok_way hok way free k1, ⟨k1, way.new, f1.2.2, fun b o e nf hb => ?_, .inr ⟨a0, _, t1⟩⟩, T.want⟩
  · by_cases hb : b ∈ frs outer
    · obtain ⟨sl, e⟩ := slot b o q (frf b hb) hb
      exact ⟨_, e⟩
    · obtain ⟨o1, e1⟩ := un.there b o q (by simp)
      exact ⟨o1, k1 b o1 (toB e1 q hb)⟩
  · have key : ∀ o1, s'.heap.get? b = some o1 → b ∉ frs (envOfC qual scope s.heap.objs.size f cd :: outer) → ((∃ o0, s.heap.get? b = some o0 ∧ b ∉ ([] : List Addr)) ∨ ∃ u, H' b = some u) → B.get? b = some o := fun o1 e1 n z => by
      have e2 := way.has b o1 e1 n z
      have e3 := k1 b o1 e2
      rw [e] at e3
      cases e3
      exact e2
    rcases hb with ⟨o0, e0, nx⟩ | ⟨u, hu⟩
    · obtain ⟨o1, e1⟩ := un.there b o0 e0 (by simp)
      exact key o1 e1 (nfr e0 nf) (.inl ⟨o0, e0, nx⟩)
    · obtain ⟨o1, e1⟩ := (hok b u hu).ex
      refine key o1 e1 (fun z => ?_) (.inr ⟨u, hu⟩)
      rw [free b z] at hu
      cases hu
theorem passes_def : Passes (CXN P w) (cxOf (CXN P w) P w K mg base N qual scope f cd A outer s H E) E := passes_of meets_def
end
section
variable {X : Cx} {E : XK} {pins : List (Addr × Obj)} {σ : St} {s3 : Shared} {H3 : Hp} {scope : Scope} {ce : Env} {fp : List Addr} {use : Option (Value → Sem Unit)} {Qf : Value → Shared → Prop} {acc : Value} {e : Value} {s' : Shared}
theorem blk_out (I3 : Inv X pins σ H3 s3) (hfp : ∀ b ∈ fp, FpOk X pins H3 b) (hm : Meets X E) (hS : X.stack = X.env :: X.outer ∧ X.env.frame = some X.env.locals) (hf : ce.frame = X.env.frame) (hC : ce.locals = s3.heap.objs.size)
    (h : Thrown (X.blk s3 H3 scope ce fp) E e s') : notedBy (model X.prog X.w) X.A ce (fun e s' => compPost (model X.prog X.w) X.A X.xe use Qf acc s3.heap.objs.size (.error e) s') e s' := by
  obtain ⟨a, cls, H', B, rfl, T⟩ := h
  obtain ⟨hs1, hs2⟩ := hS
  have hA : X.A.frames = some (X.env :: X.outer) := by rw [← hs1]; exact I3.ok.frames
  have un : Un (frs X.stack) fp H3 H' s3.heap s'.heap := T.un
  have way : Way X.stack fp a cls s3.heap H' B s'.heap := T.way
  have free : ∀ b ∈ frs X.stack, H' b = none := T.free
  have loc : H' s3.heap.objs.size = none := by
    have z : H' ce.locals = none := T.loc
    rw [hC] at z
    exact z
  obtain ⟨mC, nsC⟩ : ∃ m, s'.heap.Ns s3.heap.objs.size m := by
    obtain ⟨m, z⟩ := T.ns
    have z : s'.heap.Ns ce.locals m := z
    rw [hC] at z
    exact ⟨m, z⟩
  have hok : HOk X.prog X.w H' s'.heap := T.hok
  unfold notedBy
  rw [frame_same hf]
  have fr : s'.heap.FunFrames B (X.env :: X.outer) := by rw [← hs1]; exact way.fr
  refine note_any hA hs2 way.stays way.new fr way.sta fun h1 a0 k1 f1 t1 u1 => ?_
  refine ⟨mC, u1.ns nsC, fun h2 sb cenv hcl => ?_⟩
  have ns2 := u1.ns nsC
  obtain ⟨oe, vs, Tb, oT, ts, he, ⟨hc, h0⟩, hd, hv1, nT, neT, hT, dT, h3⟩ := t1
  obtain ⟨oC, es, ep, hoC, hdC, _⟩ := ns2
  have aC : a ≠ s3.heap.objs.size := fun z => by
    rw [← z, he] at hoC
    cases hoC
    rw [hd] at hdC
    cases hdC
  have TC : Tb ≠ s3.heap.objs.size := fun z => by
    rw [← z, hT] at hoC
    cases hoC
    rw [dT] at hdC
    cases hdC
  have he2 : h2.get? a = some oe := (sb.2 a aC).trans he
  have hT2 : h2.get? Tb = some oT := (sb.2 Tb TC).trans hT
  unfold PySem.passOn
  refine wpAny_bind (wpAny_field he2 hd hv1 ?_)
  have z1 : ¬ ((Value.ref Tb == Value.none) = true) := by simp
  rw [if_neg z1]
  refine wpAny_bind ?_
  unfold setFlight
  refine wpAny_bind (wpAny_field he2 hd hv1 ?_)
  have z2 : (Value.ref Tb != Value.none) = true := by simp
  rw [if_pos z2]
  have hsz : 3 < ts.size := (Array.getElem?_eq_some_iff.mp h3).1
  refine wpAny_setField hT2 dT hsz (wpAny_throw (hm _ _ ?_))
  generalize hv : (cenv.frame.elim Value.none fun f => rawInt f) = fl
  generalize hh3 : h2.update Tb (Obj.mapFields (·.setIfInBounds 3 fl)) = h3'
  have oth : ∀ c, c ≠ Tb → h3'.get? c = h2.get? c := fun c n => by rw [← hh3]; exact Heap.get?_update_other h2 _ (Ne.symm n)
  have hB' : ∀ {c o}, (PySem.W.hideAll B [s3.heap.objs.size]).get? c = some o → B.get? c = some o ∧ c ≠ s3.heap.objs.size := fun {c o} q => by
    refine ⟨PySem.W.of_hideAll _ q, fun z => ?_⟩
    rw [PySem.W.hideAll_none [s3.heap.objs.size] (by rw [z]; exact .head _)] at q
    cases q
  have k3 : (PySem.W.hideAll B [s3.heap.objs.size]).StaysIn h3' := fun c o q => by
    obtain ⟨q1, q2⟩ := hB' q
    rw [oth c (fun z => by rw [z, nT] at q1; cases q1), sb.2 c q2]
    exact k1 c o q1
  have hasB : ∀ {c o}, s'.heap.get? c = some o → c ∉ frs X.stack → c ≠ s3.heap.objs.size → ((∃ o0, s3.heap.get? c = some o0 ∧ c ∉ fp) ∨ ∃ u, H' c = some u) → (PySem.W.hideAll B [s3.heap.objs.size]).get? c = some o := fun {c o} q n nC z =>
    PySem.W.hideAll_get _ (way.has c o q n z) (by simp [nC])
  have old : ∀ {c o}, X.s_0.heap.get? c = some o → c ∉ X.ex → c ∉ fp ∧ c ≠ X.env.locals ∧ c ≠ s3.heap.objs.size := fun {c o} q nx => by
    have lt := Heap.lt_size q
    refine ⟨fun z => ?_, Nat.ne_of_lt (Nat.lt_of_lt_of_le lt I3.ok.above), Nat.ne_of_lt (Nat.lt_of_lt_of_le lt I3.sz)⟩
    rcases (hfp c z).2.2.2.1 with y | y
    · exact nx y
    · exact absurd (Nat.lt_of_lt_of_le lt y) (Nat.lt_irrefl _)
  have nst : ∀ {c}, c ∉ X.fs → c ≠ X.env.locals → c ∉ frs X.stack := fun {c} n1 n2 z => (List.mem_cons.mp (I3.stkSub c z)).elim n2 n1
  have slot3 : ∀ c o, s'.heap.get? c = some o → c ∈ frs X.stack → ∃ sl, h3'.get? c = some { o with slots := sl } := fun c o q z => by
    obtain ⟨_, o2, e2, d2⟩ := way.fr.mem z
    rw [q] at e2
    cases e2
    obtain ⟨sl, e3⟩ := u1 c o q d2
    have nc : c ≠ s3.heap.objs.size := fun y => by
      obtain ⟨_, o4, e4, _⟩ := I3.stack.mem z
      exact absurd (Heap.lt_size e4) (by rw [y]; exact Nat.lt_irrefl _)
    have nt : c ≠ Tb := fun y => by
      rw [y, hT] at e3
      have e5 := Option.some.inj e3
      rw [e5] at dT
      exact d2 _ dT
    exact ⟨sl, by rw [oth c nt, sb.2 c nc]; exact e3⟩
  have lst : ∀ b ∈ X.fs, b ∈ frs X.stack := fun b hb => by
    rw [hs1]
    show b ∈ (X.env :: X.outer).filterMap (·.frame)
    rw [List.filterMap_cons, hs2]
    exact List.mem_cons_of_mem _ hb
  refine ⟨a, cls, H', PySem.W.hideAll B [s3.heap.objs.size], rfl, I3.ok, T.os.trans I3.os, T.bare, ⟨fun c o q n hc hx => ?_, fun c o q n hc hx => ?_, fun c o q n hx => ?_, fun c o q hx => ?_, fun c xs q => un.tups c xs (I3.base.tups c xs q), fun c o u q => un.frzs c o u (I3.base.frzs c o u q), fun c ps q => ?_⟩, fun c u q => ?_, ⟨k3, ?_, ?_, fun c o q n z => ?_, .inr ⟨a0, fl, ?_⟩⟩, free, ?_, ?_, T.want⟩
  · obtain ⟨n1, n2, n3⟩ := old q hx
    have q3 := I3.base.keep c o q n hc hx
    have q4 := un.keep c o q3 (I3.base.free c o q n hx) (nst hc n2) n1
    exact k3 c o (hasB q4 (nst hc n2) n3 (.inl ⟨o, q3, n1⟩))
  · obtain ⟨n1, n2, n3⟩ := old q hx
    obtain ⟨sl, q3⟩ := I3.base.slot c o q n hc hx
    obtain ⟨sl4, q4⟩ := un.any q3 (I3.base.free c o q n hx) n1
    obtain ⟨sl5, q5⟩ := slot3 c _ q4 (lst c hc)
    exact ⟨sl5, q5⟩
  · obtain ⟨n1, n2, n3⟩ := old q hx
    obtain ⟨o3, q3⟩ := I3.base.there c o q hx
    exact un.free c o3 q3 (I3.base.free c o q n hx) n1
  · obtain ⟨n1, n2, n3⟩ := old q hx
    obtain ⟨o3, q3⟩ := I3.base.there c o q hx
    obtain ⟨o4, q4⟩ := un.there c o3 q3 n1
    by_cases hc : c ∈ frs X.stack
    · obtain ⟨sl5, q5⟩ := slot3 c _ q4 hc
      exact ⟨_, q5⟩
    · exact ⟨o4, k3 c o4 (hasB q4 hc n3 (.inl ⟨o3, q3, n1⟩))⟩
  · obtain ⟨m1, e1⟩ := I3.base.tbls c ps q
    obtain ⟨m2, e2⟩ := un.tbls c _ e1
    exact ⟨m1 ++ m2, by rw [e2, Array.append_assoc]⟩
  · refine (hok c u q).stay (fun d o hd' q' => ?_) (fun _ y => y) fun _ _ y => y
    have t : ∃ v, H' d = some v := by
      rcases hd' with z | z
      · exact ⟨u, by rw [z]; exact q⟩
      · exact ⟨_, z⟩
    have nf : d ∉ frs X.stack := fun z => by
      obtain ⟨v, hv⟩ := t
      rw [free d z] at hv
      cases hv
    have nC : d ≠ s3.heap.objs.size := fun z => by
      obtain ⟨v, hv⟩ := t
      rw [z, loc] at hv
      cases hv
    exact k3 d o (hasB q' nf nC (.inr t))
  · cases q : (PySem.W.hideAll B [s3.heap.objs.size]).get? a with
    | none => rfl
    | some o =>
      have y := (hB' q).1
      rw [way.new] at y
      cases y
  · have go : ∀ l : List Env, (∀ b ∈ frs l, b ∈ frs X.stack) → s'.heap.FunFrames B l → h3'.FunFrames (PySem.W.hideAll B [s3.heap.objs.size]) l := by
      intro l
      induction l with
      | nil => intro _ _; trivial
      | cons env r ih =>
        intro hsub hl
        obtain ⟨hk, ⟨L, o, hL, hn, ho, hd5⟩, hr⟩ := hl
        have mL : L ∈ frs (env :: r) := by
          show L ∈ (env :: r).filterMap (·.frame)
          rw [List.filterMap_cons, hL]
          exact List.mem_cons_self
        obtain ⟨sl, e5⟩ := slot3 L o ho (hsub L mL)
        refine ⟨hk, ⟨L, _, hL, ?_, e5, hd5⟩, ih (fun b hb => hsub b (by show b ∈ (env :: r).filterMap (·.frame); rw [List.filterMap_cons, hL]; exact List.mem_cons_of_mem _ hb)) hr⟩
        cases q : (PySem.W.hideAll B [s3.heap.objs.size]).get? L with
        | none => rfl
        | some o6 =>
          have y := (hB' q).1
          rw [hn] at y
          cases y
    exact go X.stack (fun _ hb => hb) way.fr
  · have key : ∀ o1, s'.heap.get? c = some o1 → c ≠ s3.heap.objs.size → ((∃ o0, s3.heap.get? c = some o0 ∧ c ∉ fp) ∨ ∃ u, H' c = some u) → (PySem.W.hideAll B [s3.heap.objs.size]).get? c = some o := fun o1 e1 nC y => by
      have e2 := hasB e1 n nC y
      have e3 := k3 c o1 e2
      rw [q] at e3
      cases e3
      exact e2
    rcases z with ⟨o0, e0, nx⟩ | ⟨u, hu⟩
    · obtain ⟨n1, n2, n3⟩ := old e0 nx
      obtain ⟨o3, q3⟩ := I3.base.there c o0 e0 nx
      obtain ⟨o4, q4⟩ := un.there c o3 q3 n1
      exact key o4 q4 n3 (.inl ⟨o3, q3, n1⟩)
    · obtain ⟨o1, e1⟩ := (hok c u hu).ex
      exact key o1 e1 (fun y => by rw [y, loc] at hu; cases hu) (.inr ⟨u, hu⟩)
  · refine ⟨oe, vs, Tb, _, _, (oth a (Ne.symm neT)).trans he2, ⟨hc, h0⟩, hd, hv1, ?_, neT, by rw [← hh3]; exact Heap.get?_update_self _ hT2 (Obj.isFreed_of_fields (Obj.data_mapFields dT _)), Obj.data_mapFields dT _, by simp [hsz]⟩
    cases q : (PySem.W.hideAll B [s3.heap.objs.size]).get? Tb with
    | none => rfl
    | some o =>
      have y := (hB' q).1
      rw [nT] at y
      cases y
  · exact free _ (by rw [hs1]; show _ ∈ (X.env :: X.outer).filterMap (·.frame); rw [List.filterMap_cons, hs2]; exact List.mem_cons_self)
  · obtain ⟨m, ⟨o, es2, ep2, ho, hd2, r⟩, _⟩ := I3.loc
    obtain ⟨sl, q4⟩ := un.any ho I3.free fun z => (hfp _ z).2.1 rfl
    obtain ⟨sl5, q5⟩ := slot3 _ _ q4 (by rw [hs1]; show _ ∈ (X.env :: X.outer).filterMap (·.frame); rw [List.filterMap_cons, hs2]; exact List.mem_cons_self)
    exact ⟨m, _, es2, ep2, q5, hd2, r⟩
end
section
variable {X : Cx}
theorem lc_coreX {E : XK} {pins : List (Addr × Obj)} {s : Shared} {σ : St} {H : Hp} {Q : VK} {elt tg iter : Expr} {ifs : List Expr} {scope : Scope} {own : List (Str × Nat)} {pos pos' : Pos} {wi : TI} {g : TG} {tt : TT} {te : TE} {use : Option (Value → Sem Unit)} {Qf : Value → Shared → Prop}
    (hm : Meets X E) (hS : X.stack = X.env :: X.outer ∧ X.env.frame = some X.env.locals) (hc : X.calm = true) (hN : X.N.Nodup) (I : Inv X pins σ H s) (hi : PI X tg iter wi) (ok : BlkOk X.N X.env.scope scope own)
    (hg : ∀ (s : Shared) (H : Hp) (C : Addr) (cl : List (Str × Addr)) (fp : List Addr), PG ((X.blk s H scope (compEnvC scope cl C X.env) fp).wish (Thrown (X.blk s H scope (compEnvC scope cl C X.env) fp) E)) tg g) (ht : ∀ (s : Shared) (H : Hp) (C : Addr) (cl : List (Str × Addr)) (fp : List Addr), PTs ((X.blk s H scope (compEnvC scope cl C X.env) fp).wish (Thrown (X.blk s H scope (compEnvC scope cl C X.env) fp) E)) ifs tt)
    (he : ∀ (s : Shared) (H : Hp) (C : Addr) (cl : List (Str × Addr)) (fp : List Addr), PE ((X.blk s H scope (compEnvC scope cl C X.env) fp).wish (Thrown (X.blk s H scope (compEnvC scope cl C X.env) fp) E)) elt te) (hs : ∀ x, foldedSetIterable iter X.env x = pure x)
    (h : tLc wi g tt te (own.map (·.2)) σ H Q)
    (hRR : ∀ D C s' m H', Inv X pins σ H' s' → Q (.ref D) H' → s'.heap.Ns C m → FpOk X pins H' C → compPost (model X.prog X.w) X.A X.xe use Qf (.ref D) C (.ok .next) s') :
    wpAny (model X.prog X.w) X.A (comprehension (.ListComp elt [⟨tg, iter, ifs, 0⟩] scope pos) scope X.env pos' (newList []) false (eval iter X.env) use) Qf X.xe s := by
  have hfree : ∀ y ∈ scope.names, y.2 = .free → ∃ c, X.env.cells.lookup y.1 = some c := fun y hy e => by
    rcases ok.free y hy e with k | k
    · exact I.ok.has _ (.inl k)
    · exact I.ok.has _ (.inr k)
  refine wpAny_comprehension_free (use := use) rfl hs (closure_ok hfree) ok.kind (fun y hy e => by rw [ok.uniq y hy, e])
    (thn (hi pins s σ H _ I h) fun xv s1 hx => thn hx fun itv s2 h2 => ?_)
  obtain ⟨it, fp, tn, J, H2, e, I2, T, st2, f2, q⟩ := h2
  subst e
  refine wpAny_newObj_type (newEnv_comp ?_) (by show 0 ≤ sizeLine; decide)
  generalize hD : s2.heap.objs.size = D
  have hDn : H2 D = none := I2.hok.fresh (Nat.le_of_eq hD)
  obtain ⟨W, ⟨m0, w0⟩, turn⟩ := q D hDn
  generalize hs3 : ({ s2 with heap := s2.heap.push { cls := .type "list", data := .seq ([] : List Value).toArray } } : Shared) = s3
  have I3 : Inv X pins σ (upd H2 D (.lst [])) s3 := by
    rw [← hs3]
    refine I2.laid (t' := s2.toks) (fun b o e => Heap.get?_push_of_some _ e) (Nat.le_of_eq hD) ⟨Nat.zero_le _, [], 0, .nil, ?_⟩
    rw [← hD]
    exact Heap.get?_push_size _ rfl
  have h3 : s3.heap = s2.heap.push { cls := .type "list", data := .seq ([] : List Value).toArray } := by rw [← hs3]
  have sz : ∀ b ∈ fp, b < s2.heap.objs.size := fun b hb => by
    obtain ⟨o, e, _⟩ := T.obj _ _ st2 b hb
    exact Heap.lt_size e
  have f3 : ∀ b ∈ fp, FpOk X pins (upd H2 D (.lst [])) b ∧ b < s3.heap.objs.size := fun b hb => by
    have hlt := sz b hb
    refine ⟨⟨?_, (f2 b hb).2⟩, by rw [h3, Heap.size_push]; exact Nat.lt_succ_of_lt hlt⟩
    rw [upd_ne (by rw [← hD]; exact Nat.ne_of_lt hlt)]
    exact (f2 b hb).1
  have st3 : tn 0 s3.heap := T.keep _ _ _ st2 fun b _ o e => by rw [h3]; exact Heap.get?_push_of_some _ e
  have I4 := block_start I3 ok hN f3
  have pg := hg s3 (upd H2 D (.lst [])) s3.heap.objs.size (cellsFrom (s3.heap.objs.size + 1) scope.names (cloFrom X.env.cells scope.names [])) fp
  have pt := ht s3 (upd H2 D (.lst [])) s3.heap.objs.size (cellsFrom (s3.heap.objs.size + 1) scope.names (cloFrom X.env.cells scope.names [])) fp
  have pe := he s3 (upd H2 D (.lst [])) s3.heap.objs.size (cellsFrom (s3.heap.objs.size + 1) scope.names (cloFrom X.env.cells scope.names [])) fp
  show codeAny _ _ (.compStart (.ListComp elt [⟨tg, iter, ifs, 0⟩] scope pos) 0 (.ref it) (.ref D) (compEnvC scope (cellsFrom (s3.heap.objs.size + 1) scope.names (cloFrom X.env.cells scope.names [])) s3.heap.objs.size X.env)) (compPost (model X.prog X.w) X.A X.xe use Qf (.ref D) s3.heap.objs.size) { s3 with heap := pushCells (s3.heap.push { cls := .type "dict", data := .dict #[] }) scope.names }
  have nfp : ∀ b ∈ fp, (upd H2 D (.lst [])) b = none := fun b hb => (f3 b hb).1.1
  generalize hce : compEnvC scope (cellsFrom (s3.heap.objs.size + 1) scope.names (cloFrom X.env.cells scope.names [])) s3.heap.objs.size X.env = ce at I4 pg pt pe ⊢
  have cL : ce.locals = s3.heap.objs.size := by subst hce; rfl
  have cF : ce.frame = X.env.frame := by subst hce; rfl
  generalize hH3 : upd H2 D (.lst []) = H3 at I3 I4 pg pt pe w0 nfp f3
  generalize hs4 : ({ s3 with heap := pushCells (s3.heap.push { cls := .type "dict", data := .dict #[] }) scope.names } : Shared) = s4 at I4 ⊢
  have out : ∀ e s', Thrown (X.blk s3 H3 scope ce fp) E e s' → notedBy (model X.prog X.w) X.A ce (fun e s' => compPost (model X.prog X.w) X.A X.xe use Qf (.ref D) s3.heap.objs.size (.error e) s') e s' := fun e s' z => blk_out I3 (fun b hb => (f3 b hb).1) hm hS cF cL z
  have st4 : tn 0 s4.heap := T.keep _ _ _ st3 fun b _ o e => by rw [← hs4]; exact pushCells_keeps _ _ _ _ (Heap.get?_push_of_some _ e)
  have stat : ∀ {σ' : St} {H' : Hp} {s' : Shared}, Inv (X.blk s3 H3 scope ce fp) [] σ' H' s' → (∀ b ∈ fp, H' b = none) → ∀ b ∈ fp, FpOk (X.blk s3 H3 scope ce fp) [] H' b := fun {σ' H' s'} I' hn b hb =>
    ⟨hn b hb, (I'.ok.exf b hb).1, I'.ok.exfs b hb, .inl hb, fun x c e => (I'.ok.exf b hb).2 x c e, fun p hp => absurd (show p ∈ ([] : List (Addr × Obj)) ++ [] from hp) (by simp)⟩
  have loop : codeAny (model X.prog X.w) X.A (.compLoop (.ListComp elt [⟨tg, iter, ifs, 0⟩] scope pos) 0 (.ref it) (.ref D) ce) (compPost (model X.prog X.w) X.A X.xe use Qf (.ref D) s3.heap.objs.size) s4 := by
    refine compLoop_any (fun n s' => ∃ i H', Inv (X.blk s3 H3 scope ce fp) [] (wipe σ (own.map (·.2))) H' s' ∧ tn i s'.heap ∧ (∀ b ∈ fp, H' b = none) ∧ W i n H') ?_ m0 ⟨0, H3, I4, st4, nfp, w0⟩
    rintro n s5 ⟨i, H5, I5, st5, n5, w5⟩
    rcases turn i n H5 w5 with ⟨stop, qq⟩ | ⟨go, Nx, hNx, step⟩
    · have td := T.done (X.blk s3 H3 scope ce fp) rfl rfl rfl hc i [] s5 _ H5 (fun _ _ => False) I5 (stat I5 n5) st5 stop
      refine thnF td fun r s6 ⟨hr, I6⟩ => ?_
      subst hr
      have I7 : Inv X pins σ H5 s6 := I3.call' (ch := fp) I6.os I6.base I6.hok I6.bare fun b hb => ⟨(f3 b hb).1.2.2.2.1, (f3 b hb).1.2.1, (f3 b hb).1.2.2.2.2.1, (f3 b hb).1.2.2.2.2.2⟩
      have nC : H5 s3.heap.objs.size = none := by
        have z : H5 ce.locals = none := I6.free
        rw [cL] at z
        exact z
      obtain ⟨m, hn, _⟩ := I6.loc
      have hn : s6.heap.Ns ce.locals m := hn
      rw [cL] at hn
      exact hRR D s3.heap.objs.size s6 m H5 I7 qq hn (I3.fpOk (Nat.le_refl _) nC)
    · have ti := T.item (X.blk s3 H3 scope ce fp) rfl rfl rfl hc i [] s5 _ H5 (fun _ _ => False) I5 (stat I5 n5) st5 go
      refine thnF ti fun r s6 ⟨u, hr, h6⟩ => ?_
      subst hr
      refine thnF h6 fun _ s7 ⟨x, H7, I7, r7, y7, st7, n7⟩ => ?_
      have I7' := I7.pinned (stat I7 n7) (T.obj _ _ st7)
      refine wpAny_mono (pg _ s7 _ H7 x u _ (I7'.wish _) r7 (step x H7 y7)) (fun _ s8 ⟨σ8, H8, I8, hw8, q8⟩ => ?_) out
      refine wpAny_mono (pt _ s8 σ8 H8 _ I8 q8) (fun b s9 ⟨H9, I9, q9⟩ => ?_) out
      have fin : ∀ {s' : Shared} {H' : Hp}, Inv (X.blk s3 H3 scope ce fp) ([] ++ pinsAt fp s7.heap) σ8 H' s' → Nx H' → ∃ m, m < n ∧ ∃ i H', Inv (X.blk s3 H3 scope ce fp) [] (wipe σ (own.map (·.2))) H' s' ∧ tn i s'.heap ∧ (∀ b ∈ fp, H' b = none) ∧ W i m H' := fun {s' H'} I' nx => by
        obtain ⟨m', hm, w'⟩ := hNx H' nx
        have pin' : ∀ b ∈ fp, ∀ o, s7.heap.get? b = some o → s'.heap.get? b = some o ∧ H' b = none := fun b hb o e =>
          let z := I'.pin (b, o) (List.mem_append_right _ (List.mem_append_right _ (mem_pinsAt hb e)))
          ⟨z.1, z.2.1⟩
        have hl : (wipe σ (own.map (·.2))).length = σ8.length := by rw [← hw8, wipe_length]
        refine ⟨m', hm, i + 1, H', (I'.unpinned (pins := [])).weak hl (fun j v e => ?_), T.keep _ _ _ st7 fun b hb o e => (pin' b hb o e).1, fun b hb => ?_, w'⟩
        · rw [← hw8] at e
          exact (wipe_some e).1
        · obtain ⟨o, e, _⟩ := T.obj _ _ st7 b hb
          exact (pin' b hb o e).2
      cases b with
      | false =>
        simp only [Bool.false_eq_true, if_false] at q9 ⊢
        exact fin I9.unwish q9
      | true =>
        simp only [if_true] at q9 ⊢
        refine wpAny_mono (pe _ s9 σ8 H9 _ I9 q9) (fun z s10 ⟨yv, H10, I10, r10, acc, hD10, hz10, nx⟩ => ?_) out
        exact app_ok (X := X.blk s3 H3 scope ce fp) I10.unwish hD10 hz10 r10 fun s11 I11 => fin I11 nx
  exact codeAny_compStart_list loop (T.self X.A 0 _ _ _ st4 loop)
theorem ps_setLcX {E : XK} {i : Nat} {y : Str} {py : Pos} {elt tg iter : Expr} {ifs : List Expr} {scope : Scope} {own : List (Str × Nat)} {pos spos : Pos} {wi : TI} {g : TG} {tt : TT} {te : TE} (hm : Meets X E) (hS : X.stack = X.env :: X.outer ∧ X.env.frame = some X.env.locals) (hc : X.calm = true) (hN : X.N.Nodup) (hy : X.N[i]? = some y) (hyl : X.env.scope.names.lookup y = some .local)
    (hsw : swapsWith (.ListComp elt [⟨tg, iter, ifs, 0⟩] scope pos) (some (.Name y py)) spos.line X.env = pure true) (hi : PI X tg iter wi) (ok : BlkOk X.N X.env.scope scope own)
    (hg : ∀ (s : Shared) (H : Hp) (C : Addr) (cl : List (Str × Addr)) (fp : List Addr), PG ((X.blk s H scope (compEnvC scope cl C X.env) fp).wish (Thrown (X.blk s H scope (compEnvC scope cl C X.env) fp) E)) tg g) (ht : ∀ (s : Shared) (H : Hp) (C : Addr) (cl : List (Str × Addr)) (fp : List Addr), PTs ((X.blk s H scope (compEnvC scope cl C X.env) fp).wish (Thrown (X.blk s H scope (compEnvC scope cl C X.env) fp) E)) ifs tt)
    (he : ∀ (s : Shared) (H : Hp) (C : Addr) (cl : List (Str × Addr)) (fp : List Addr), PE ((X.blk s H scope (compEnvC scope cl C X.env) fp).wish (Thrown (X.blk s H scope (compEnvC scope cl C X.env) fp) E)) elt te) (hs : ∀ x, foldedSetIterable iter X.env x = pure x := by intro _; rfl) :
    PS X (.Assign [.Name y py] (.ListComp elt [⟨tg, iter, ifs, 0⟩] scope pos) spos) (tAsg (tLc wi g tt te (own.map (·.2))) (gName i)) := by
  intro pins s σ H D I h
  rw [exec_Assign_Name_used _ _ _ _ hsw]
  refine wpAny_bind (wpAny_standAt (wpAny_bind ?_))
  show wpAny _ X.A (do let _ ← comprehension (.ListComp elt [⟨tg, iter, ifs, 0⟩] scope pos) scope X.env (firstIterPos [⟨tg, iter, ifs, 0⟩] pos) (newList []) false (eval iter X.env) (some (assign (.Name y py) X.env))) _ _ s
  have h : tLc wi g tt te (own.map (·.2)) σ H (fun x H1 => gName i x σ H1 D.nx) := h
  refine wpAny_bind (thn (lc_coreX (E := E) (Qf := fun _ s' => SP X pins D .next s') hm hS hc hN I hi ok hg ht he hs h fun L C s' m H' I' q hn f => ?_) fun _ s' hq => wpAny_pure (wpAny_pure hq))
  show wpAny _ _ (assign (.Name y py) X.env (.ref L)) _ _ _
  refine wpAny_assign_Name (store_ok2 (v := V.ref L) I' hN hy (.inl hyl) rfl (fun s2 I2 ⟨a, sb, ha⟩ => ?_) (.inr hyl))
  obtain ⟨f0, f1, f2, f3, f4, f5⟩ := f
  have haC : C ≠ a := by
    rcases ha with z | z
    · rw [z]; exact f1
    · exact fun e => f4 y a z e.symm
  refine ⟨m, hn.sameBut sb haC, fun h3 sb3 => ?_⟩
  exact ⟨_, H', I2.turned (t' := s2.toks) (fun b o hb e => (sb3.2 b hb).trans e) f0 f1 f3 f4 f5, q⟩
theorem passes_blk {E : XK} {s : Shared} {H : Hp} {scope : Scope} {ce : Env} {fp : List Addr} : Passes (CXN X.prog X.w) ((X.blk s H scope ce fp).wish (Thrown (X.blk s H scope ce fp) E)) E := fun pins σ H s e s' I h => thrown_call I.unwish h
end
theorem own_obj {K : PySem.W.Frag} {h : Heap} {C : Addr} {bmB : List Value} {newId : String} (KX : K.In h) (q : PySem.W.excIn K C bmB newId = true) :
    ∃ (bm : List Value) (N : Addr) (nm qn : Str) (bs : List Value) (hd : Bool) (sn : List Str) (sub : List Value) (ab : Bool) (col : Option Bool) (dd : Option Addr) (k0 k1 k2 k3 k5 : Option Value) (mN : Str → Option Value),
      h.get? C = some (excClassObj nm qn C N bs bm hd sn sub ab col dd k0 k1 k2 k3 k5 newId) ∧ h.Ns N mN ∧ mN "__init__" = none ∧ OwnTail h bmB bm := by
  unfold PySem.W.excIn at q
  split at q
  case h_2 => cases q
  case h_1 d2 cl sl2 look =>
    split at q
    case h_2 => cases q
    case h_1 C2 bm2 j0 j1 j2 j3 nid j5 em es =>
      rw [Bool.and_eq_true, Bool.and_eq_true, Bool.and_eq_true, Bool.and_eq_true, Bool.and_eq_true] at q
      obtain ⟨⟨⟨⟨⟨q1, q2⟩, q3⟩, q4⟩, q5⟩, q6⟩ := q
      have q1 := eq_of_beq q1
      have q2 := eq_of_beq q2
      have q6 := eq_of_beq q6
      subst q1 q2
      obtain ⟨nm, bs, mro, ns, qn, hd, sn, sub, ab, col, del⟩ := cl
      have em : mro = Value.ref C2 :: bm2 := em
      have q7 : del = false := by
        have z : (!del) = true := q3
        cases del
        · rfl
        · cases z
      subst em q7
      obtain ⟨l2⟩ := sl2
      have es : l2 = [j0, j1, j2, j3, some (.builtin nid), j5] := es
      subst es
      exact ⟨bm2, ns, nm, qn, bs, hd, sn, sub, ab, col, d2, j0, j1, j2, j3, j5, _, KX _ _ look, Heap.Ns.of_isNs (PySem.W.isNs_of_in KX q5), PySem.W.nsMap_none_of_in KX q5 q6, PySem.W.tail_of_in KX q4⟩
section
variable {X : Cx} {E : XK} {pins : List (Addr × Obj)} {σ : St} {H : Hp} {s : Shared}
theorem thrown_new {h' : Heap} {a : Addr} {cls : Value} {args : List Value} (I : Inv X pins σ H s) (m : Heap.MadeExcOf s.heap h' a cls args) (want : E cls none H) : Thrown X E (.ref a) { s with heap := h' } := by
  have I' : Inv X pins σ H { s with heap := h' } := I.kept (t' := s.toks) m.keeps
  obtain ⟨t, he, _, _⟩ := m.there
  have at_ : ∀ {b o o1}, h'.get? b = some o → s.heap.get? b = some o1 → s.heap.get? b = some o := fun {b o o1} e e1 => by
    have e2 := m.keeps _ _ e1
    rw [e] at e2
    cases e2
    exact e1
  refine ⟨a, cls, H, PySem.W.hideAll s.heap (frs X.stack), rfl, I.ok, I'.os, I'.bare, I'.base, I'.hok, ⟨fun b o e => m.keeps _ _ (PySem.W.of_hideAll _ e), ?_, ?_, fun b o e nf z => ?_, .inl ⟨t, he⟩⟩, I'.stkFree, I'.free, let ⟨mm, hm, _⟩ := I'.loc; ⟨mm, hm⟩, want⟩
  · cases q : (PySem.W.hideAll s.heap (frs X.stack)).get? a with
    | none => rfl
    | some o =>
      have z := PySem.W.of_hideAll _ q
      rw [m.new] at z
      cases z
  · refine (PySem.W.funFrames_hide I.stack fun env he b hb => ?_).of_keeps fun b o e _ => ⟨o, m.keeps b o e, rfl⟩
    exact List.mem_filterMap.mpr ⟨env, he, hb⟩
  · rcases z with ⟨o0, e0, nx⟩ | ⟨u, hu⟩
    · obtain ⟨o1, e1⟩ := I.base.there b o0 e0 nx
      exact PySem.W.hideAll_get _ (at_ e e1) nf
    · obtain ⟨o1, e1⟩ := (I.hok b u hu).ex
      exact PySem.W.hideAll_get _ (at_ e e1) nf
abbrev VErr : List Value := [.type "ValueError", .type "Exception", .type "BaseException", .type "object"]
theorem ps_raise {x : Str} {C : Addr} {np cpos pos : Pos} (m : Meets X E) (hc : X.calm = true) (hg : Gl X x) (hm : X.mg x = some (.ref C)) (q : PySem.W.excIn X.K C VErr "ValueError.__new__" = true) (hd : (x == ("__debug__" : Str)) = false := by decide) :
    PS X (.Raise (some (.Call (.Name x np) [] [] cpos)) none pos) (fun _ _ H => E (.ref C) none H) := by
  intro pins s σ H D I hw
  obtain ⟨bm, N, nm, qn, bs, hdct, sn, sub, ab, col, dd, k0, k1, k2, k3, k5, mN, hC, hN, hni, T⟩ := own_obj I.kIn q
  refine wpAny_Raise_call_subU (C := C) (nm := nm) (q := qn) (N := N) (bs := bs) (bm := bm) (hdct := hdct) (sn := sn) (sub := sub) (ab := ab) (col := col) (dd := dd) (k0 := k0) (k1 := k1) (k2 := k2) (k3 := k3) (k5 := k5)
    PySem.F.excBase_ValueError (by decide +kernel) PySem.F.excBase_ValueError (mN := mN) (T.hasType PySem.F.excBase_ValueError.hasBase) (I.ok.hd hc) rfl hni (ld_glob I hg hm ⟨rfl, ?_⟩ hd)
  exact evalArgs_empty ⟨rfl, Nat.zero_le _, hC, hN, T, fun h' e made => m _ _ (thrown_new I made hw)⟩
end
abbrev Cx.kept (X : Cx) (pn : List (Addr × Obj)) (W : Value → Shared → Prop) : Cx := { X with pn := pn, xe := W }
abbrev Cx.exc (X : Cx) (v : Value) : Cx := { X with A := X.A.mark (some v), calm := false, xe := fun _ _ => False }
section
variable {X : Cx} {E : XK} {pins pn : List (Addr × Obj)} {W : Value → Shared → Prop} {σ : St} {H : Hp} {s : Shared}
theorem Cx.Ok.keptI (ok : X.Ok) : (X.kept pn W).Ok :=
  ⟨ok.mod, ok.kind, ok.glob, ok.blt, ok.above, ok.inj, ok.has, ok.cab, ok.hd, ok.frames, ok.stk, ok.exf, ok.bs, ok.bsz, ok.noex, ok.exfs, ok.funs, ok.frf⟩
theorem Cx.Ok.keptO (ok : (X.kept pn W).Ok) : X.Ok :=
  ⟨ok.mod, ok.kind, ok.glob, ok.blt, ok.above, ok.inj, ok.has, ok.cab, ok.hd, ok.frames, ok.stk, ok.exf, ok.bs, ok.bsz, ok.noex, ok.exfs, ok.funs, ok.frf⟩
theorem Inv.keptI (I : Inv X pins σ H s) : Inv (X.kept (X.pn ++ pins) W) [] σ H s := ⟨I.ok.keptI, I.os, I.bare, I.base, I.loc, I.cell, I.free, I.freeC, fun p hp => I.pin p (by simpa using hp), I.hok, I.len⟩
theorem Inv.keptO {pins' : List (Addr × Obj)} (I : Inv (X.kept (X.pn ++ pins) W) pins' σ H s) : Inv X pins σ H s :=
  ⟨I.ok.keptO, I.os, I.bare, I.base, I.loc, I.cell, I.free, I.freeC, fun p hp => I.pin p (List.mem_append_left _ hp), I.hok, I.len⟩
theorem Inv.excI {v : Value} (I : Inv X pins σ H s) : Inv (X.exc v) pins σ H s :=
  ⟨⟨I.ok.mod, I.ok.kind, I.ok.glob, I.ok.blt, I.ok.above, I.ok.inj, I.ok.has, I.ok.cab, (fun z => by cases z), I.ok.frames, I.ok.stk, I.ok.exf, I.ok.bs, I.ok.bsz, I.ok.noex, I.ok.exfs, I.ok.funs, I.ok.frf⟩, I.os, I.bare, I.base, I.loc, I.cell, I.free, I.freeC, I.pin, I.hok, I.len⟩
theorem Inv.excO {v : Value} (ok : X.Ok) (I : Inv (X.exc v) pins σ H s) : Inv X pins σ H s := ⟨ok, I.os, I.bare, I.base, I.loc, I.cell, I.free, I.freeC, I.pin, I.hok, I.len⟩
theorem un_way {g h h' : Heap} {l : List Env} {a : Addr} {cls : Value} {H' : Hp} {B : Heap} (un : Un (frs l) [] H H' g h) (way : Way l [] a cls g H' B h) (frf : ∀ b ∈ frs l, H b = none) (k : B.StaysIn h') (u : h.UpToSlots h') : Un (frs l) [] H H' g h' := by
  have slot : ∀ b o, g.get? b = some o → H b = none → b ∈ frs l → ∃ sl, h'.get? b = some { o with slots := sl } := fun b o q n hb => by
    obtain ⟨sl, e1⟩ := un.slot b o q n hb (by simp)
    obtain ⟨_, o2, e2, d2⟩ := way.fr.mem hb
    rw [e1] at e2
    cases e2
    obtain ⟨sl2, e3⟩ := u b _ e1 d2
    exact ⟨sl2, e3⟩
  refine ⟨fun b o q n hb _ => k b o (way.has b o (un.keep b o q n hb (by simp)) hb (.inl ⟨o, q, by simp⟩)), fun b o q n hb _ => slot b o q n hb, un.free, fun b o q _ => ?_, un.tups, un.frzs, un.tbls⟩
  by_cases hb : b ∈ frs l
  · obtain ⟨sl, e⟩ := slot b o q (frf b hb) hb
    exact ⟨_, e⟩
  · obtain ⟨o1, e1⟩ := un.there b o q (by simp)
    exact ⟨o1, k b o1 (way.has b o1 e1 hb (.inl ⟨o, q, by simp⟩))⟩
theorem ps_try {body : List Stmt} {b0 : Stmt} {suite : List Stmt} {x : Str} {C : Addr} {np hpos pos : Pos} {tb th : TS} (hc : X.calm = true) (hS : X.stack = X.env :: X.outer ∧ X.env.frame = some X.env.locals)
    (hb : ∀ pn W, Passes (CXN X.prog X.w) (X.kept pn W) E → PSs (X.kept pn W) body tb) (hs : ∀ v, PSs (X.exc v) (b0 :: suite) th) (hE : ∀ c H', E c none H' → c = .ref C)
    (hg : Gl X x) (hm : X.mg x = some (.ref C)) (q : PySem.W.excIn X.K C VErr "ValueError.__new__" = true) (hd : (x == ("__debug__" : Str)) = false := by decide) :
    PS X (.Try body [.ExceptHandler (some (.Name x np)) none (b0 :: suite) hpos] [] [] pos) (fun D σ H => tb D σ H ∧ ∀ σ' H', E (.ref C) none H' → th D σ' H') := by
  intro pins s σ H D I ⟨h1, h2⟩
  obtain ⟨hs1, hs2⟩ := hS
  refine wpAny_Try_except ?_
  have hA : X.A.frames = some (X.env :: X.outer) := by rw [← hs1]; exact I.ok.frames
  refine wpAny_mono (hb (X.pn ++ pins) (fun e s1 => wpAny (model X.prog X.w) X.A (noteFrame e X.env) (fun _ s2 => wpAny (model X.prog X.w) X.A (setFlight e none) (fun _ s3 => wpAny (model X.prog X.w) X.A (handleBy e X.env [.ExceptHandler (some (.Name x np)) none (b0 :: suite) hpos]) (SP X pins D) X.xe s3) X.xe s2) X.xe s1) ?_ [] s σ H D I.keptI h1) (fun f s1 hf => ?_) fun _ _ z => z
  · intro pins' σ1 H1 s1 e s2 I1 hx
    obtain ⟨a, cls, H', B, rfl, os, bare, un, hok, way, want⟩ := hx
    have I2 : Inv X pins σ1 H1 s1 := I1.keptO
    have ec := hE cls H' want
    subst ec
    have way : Way X.stack [] a (.ref C) s1.heap H' B s2.heap := way
    have un : Un (frs X.stack) [] H1 H' s1.heap s2.heap := un
    have free : ∀ b ∈ frs X.stack, H' b = none := fun b hb => by
      obtain ⟨_, o, ho, _⟩ := I2.stack.mem hb
      exact un.free b o ho (I2.stkFree b hb) (by simp)
    have fr : s2.heap.FunFrames B (X.env :: X.outer) := by rw [← hs1]; exact way.fr
    have back : ∀ {h' : Heap}, B.StaysIn h' → s2.heap.UpToSlots h' → Inv X pins σ1 H' { s2 with heap := h' } := fun {h'} k u =>
      I2.call' (s' := { s2 with heap := h' }) (ch := []) os (un_way un way I2.stkFree k u) (hok_way hok way free k) bare fun b z => absurd z (by simp)
    refine note_any hA hs2 way.stays way.new fr way.sta fun h3 a0 k3 f3 t3 u3 => ?_
    refine wpAny_setFlight_noneW (s := { s2 with heap := h3 }) k3 f3 t3 fun h4 k4 f4 t4 u4 => ?_
    have u4' : s2.heap.UpToSlots h4 := u3.trans fun c o e nf => ⟨o.slots, u4 c o e nf⟩
    have I4 := back k4 u4'
    obtain ⟨bm, N, nm, qn, bs, hdct, sn, sub, ab, col, dd, k0, k1, k2, k3', k5, mN, hC, hN, hni, T⟩ := own_obj I4.kIn q
    obtain ⟨ob, hob, hcls⟩ := t4.at.there
    refine wpAny_handleBy_cons (codeAny_handlers_test (ld_glob (X := X.exc (.ref a)) I4.excI hg hm ?_ hd)) (by intro z; cases z)
    refine wpAny_excMatches_sub_self hC hob hcls (T.hasType PySem.F.excBase_ValueError.hasBase) (codeAny_handlers_suite ?_)
    refine wpAny_setFlight_noneW (s := { s2 with heap := h4 }) k4 f4 t4.at fun h5 k5 f5 t5 u5 => ?_
    have I5 := back k5 (u4'.trans fun c o e nf => ⟨o.slots, u5 c o e nf⟩)
    refine wpAny_mono (hs (.ref a) pins _ σ1 H' D I5.excI (h2 σ1 H' want)) (fun f s6 hf => ?_) fun _ _ z => False.elim z
    cases f with
    | next => obtain ⟨σ', H6, J, qq⟩ := hf; exact ⟨σ', H6, J.excO I.ok, qq⟩
    | brk => obtain ⟨σ', H6, J, qq⟩ := hf; exact ⟨σ', H6, J.excO I.ok, qq⟩
    | cont => obtain ⟨σ', H6, J, qq⟩ := hf; exact ⟨σ', H6, J.excO I.ok, qq⟩
    | ret u => obtain ⟨v, σ', H6, J, r, qq⟩ := hf; exact ⟨v, σ', H6, J.excO I.ok, r, qq⟩
  · cases f with
    | next => obtain ⟨σ', H6, J, qq⟩ := hf; exact wpAny_execs_nil ⟨σ', H6, J.keptO, qq⟩
    | brk => obtain ⟨σ', H6, J, qq⟩ := hf; exact ⟨σ', H6, J.keptO, qq⟩
    | cont => obtain ⟨σ', H6, J, qq⟩ := hf; exact ⟨σ', H6, J.keptO, qq⟩
    | ret u => obtain ⟨v, σ', H6, J, r, qq⟩ := hf; exact ⟨v, σ', H6, J.keptO, r, qq⟩
end
section
variable {P : Program} {w : World} {K : PySem.W.Frag} {mg : Str → Option Value} {base : Heap}
theorem Fun.okX {x qual : Str} {st : Stmt} {f : Addr} {fd : FuncData} {N ps : List Str} {k : Nat} {sp : Sp} (F : Fun K x qual st f fd) (S : FnScope N ps (defScope st)) (len : ∀ vs H Q E, sp vs H Q E → vs.length = ps.length)
    (hbody : ∀ (cdv : Value) (A : Around) (outer : List Env) (s : Shared) (H : Hp) (vs : List V) (Q : VK) (E : XK), Room k (A.deeper (envOfC qual (defScope st) s.heap.objs.size f cdv)) → sp vs H Q E →
      ∃ t, PSs (cxOf (CXN P w) P w K mg base N qual (defScope st) f cdv A outer s H E) (defBody st) t ∧ t { nx := fun _ H' => Q .non H', rt := Q } (start N vs) H) : FnOk P w K mg base (CXN P w) (k + 1) f fd ps sp := by
  obtain ⟨oc, od, kV, doc, pm, an, cdv, ct, osl, rfl, lk, hcd⟩ := F.ex
  exact fn_of lk hcd S len fun A outer s H vs Q E hr hsp => hbody cdv A outer s H vs Q E hr hsp
end
end L2
end
section
set_option Elab.async false
set_option linter.all false
set_option maxRecDepth 100000
namespace L2
open PySem PySem.Spec PyProof.Rows
section
variable {X : Cx}
theorem PE.of {e : Expr} {t t' : TE} (h : PE X e t) (i : ∀ σ H Q, t' σ H Q → t σ H Q) : PE X e t' := fun pins s σ H Q I q => h pins s σ H Q I (i σ H Q q)
def Cst (mg : Str → Option Value) (x : Str) (v : V) : Prop := ∃ u, mg x = some u ∧ RelV v u
theorem pe_cst {x : Str} {v : V} {pos : Pos} (c : Cst X.mg x v) (hg : Gl X x := by rfl) (hd : (x == ("__debug__" : Str)) = false := by decide) : PE X (.Name x pos) (tC v) := by
  obtain ⟨u, h, r⟩ := c
  exact pe_glob hg h r hd
def Fld (K : PySem.W.Frag) (H : Hp) (x : V) (f : Str) (v : V) : Prop := ∃ a C dx fs, x = .ref a ∧ H a = some (.ins C dx fs) ∧ Cls K C ∧ NoAttr K C f ∧ fs.lookup f = some v
def tFldS (K : PySem.W.Frag) (ta : TE) (f : Str) : TE := fun σ H Q => ta σ H fun x H1 => ∃ v, Fld K H1 x f v ∧ Q v H1
theorem pe_get {e : Expr} {ta : TE} {f : Str} {pos : Pos} (mono : ∀ σ H Q Q', (∀ v H1, Q v H1 → Q' v H1) → ta σ H Q → ta σ H Q') (he : PE X e ta) (hb : attributeBase e f X.env (eval e X.env) = eval e X.env := by rfl) : PE X (.Attribute e f pos) (tFldS X.K ta f) :=
  (pe_fld he hb).of fun σ H Q q => mono _ _ _ _ (fun x H1 ⟨v, ⟨a, C, dx, fs, e1, e2, e3, e4, e5⟩, q1⟩ => ⟨a, C, dx, fs, v, e1, e2, e3, e4, e5, q1⟩) q
theorem mono_var (i : Nat) : ∀ (σ : St) (H : Hp) (Q Q' : VK), (∀ v H1, Q v H1 → Q' v H1) → tVar i σ H Q → tVar i σ H Q' := fun _ _ _ _ h ⟨v, e, q⟩ => ⟨v, e, h _ _ q⟩
theorem pg (i : Nat) {x f : Str} {p1 pos : Pos} (hN : X.N[i]? = some x := by rfl) (hv : Vis X.env.scope x := by first | exact Or.inl rfl | exact Or.inr (Or.inl rfl) | exact Or.inr (Or.inr rfl)) (hd : (x == ("__debug__" : Str)) = false := by decide)
    (hcd : (x == ("__classdict__" : Str)) = false := by decide) : PE X (.Attribute (.Name x p1) f pos) (tFldS X.K (tVar i) f) := pe_get (mono_var i) (pe_var hN hv hd hcd)
end
theorem truth_ints {prog : Program} {w : World} {A : Around} {ns : List Int} {its : List Value} (e : IntsAre its ns) : TruthOf prog w A (fun i v => its.toArray[i]? = some v) (fun i => (ns.map (· != 0)).getD i false) := fun i v s Q E hv hq => by
  have hv' : its[i]? = some v := by simpa using hv
  obtain ⟨z, hz, t, rfl⟩ : ∃ z, ns[i]? = some z ∧ ∃ t, v = Value.int z t := by
    have r := vals_of_ints e
    cases q : ns[i]? with
    | none =>
      have := r.none_of (i := i) (by rw [List.getElem?_map, q]; rfl)
      rw [this] at hv'
      cases hv'
    | some z =>
      obtain ⟨u, hu, t, ru⟩ := r.get (i := i) (x := V.int z) (by rw [List.getElem?_map, q]; rfl)
      rw [hu] at hv'
      cases hv'
      exact ⟨z, rfl, t, ru⟩
  have hg : (ns.map (· != 0)).getD i false = (z != 0) := by rw [List.getD_eq_getElem?_getD, List.getElem?_map, hz]; rfl
  have hq' : Q ((ns.map (· != 0)).getD i false) s := hq
  rw [hg] at hq'
  exact PySem.P.truthy_int hq'
section
variable {X : Cx}
def rAnyI (K : PySem.W.Frag) : List V → Hp → VK → Prop := fun vs H Q => ∃ (a : Addr) (ns : List Int), vs = [V.ref a] ∧ SqL K H a (ns.map V.int) ∧ Q (.bl (ns.any (· != 0))) H
theorem cr_anyI (hc : X.calm = true) : CallR X (.builtin "any") (rAnyI X.K) := by
  intro pins s σ H vs us Q I r h
  obtain ⟨a, ns, rfl, hs, q⟩ := h
  obtain ⟨its, rv, hl, _⟩ := I.list hs
  rw [Vals.ref1 r]
  have hi := rv.ints
  have el : its.length = ns.length := by have := rv.length; rw [List.length_map] at this; exact this.symm
  refine call_any_walk (iter_any hl.isList fun s2 e2 st hne => ?_)
  subst e2
  refine ⟨_, _, _, _, _, _, _, rfl, Walks.list (A := X.A.in1) (I.ok.hd hc) _ a hne its.toArray, st, truth_ints hi, fun h' tk hk => ?_⟩
  refine ⟨.bl _, H, I.kept fun b o eo => hk b o (fun hm => ?_) (Heap.get?_push_of_some _ eo), ?_, q⟩
  · rcases List.mem_cons.mp hm with z | z
    · exact absurd (z ▸ Heap.lt_size eo) (Nat.lt_irrefl _)
    · cases z
  · have z := any_range (ns.map (· != 0))
    rw [List.length_map, List.any_map] at z
    show Value.bool _ = Value.bool _
    rw [List.size_toArray, el, z]
    rfl
theorem call_range1 : CallR X (.type "range") (fun xs H Q => ∃ n, xs = [.int n] ∧ ∀ p, H p = none → Q (.ref p) (upd H p (.rng 0 n))) := by
  intro pins s σ H vs us Q I r h
  obtain ⟨n, rfl, q⟩ := h
  obtain ⟨u, rfl, t, rfl⟩ := vals1 r
  refine call_range_1 ?_
  have hf : H s.heap.objs.size = none := I.hok.fresh (Nat.le_refl _)
  have new : ObjOk X.prog X.w (upd H s.heap.objs.size (.rng 0 n)) (s.heap.push { cls := .type "range", data := .fields #[.int 0 s.toks, .int n t, .int 1 (s.toks + 1)] }) s.heap.objs.size (.rng 0 n) := ⟨_, _, _, Heap.get?_push_size _ rfl⟩
  exact ⟨.ref s.heap.objs.size, _, I.laid (t' := s.toks + 1 + 1) (fun b u e => Heap.get?_push_of_some _ e) (Nat.le_refl _) new, rfl, q _ hf⟩
def upto (n : Nat) : List V := (List.range n).map fun i => V.int (i : Nat)
theorem vals_by : ∀ {xs : List V} {us : List Value}, xs.length = us.length → (∀ (i : Nat) x u, xs[i]? = some x → us[i]? = some u → RelV x u) → Vals xs us
  | [], [], _, _ => .nil
  | [], _ :: _, h, _ => by simp at h
  | _ :: _, [], h, _ => by simp at h
  | x :: xs, u :: us, h, k => .cons (k 0 x u rfl rfl) (vals_by (by simpa using h) fun i y v h1 h2 => k (i + 1) y v (by simpa using h1) (by simpa using h2))
theorem upto_length (n : Nat) : (upto n).length = n := by unfold upto; simp
theorem call_list_rng (hc : X.calm = true) : CallR X (.type "list") (fun xs H Q => ∃ r n, xs = [.ref r] ∧ H r = some (.rng 0 ((n : Nat) : Int)) ∧ n ≤ 1000 ∧ ∀ p, H p = none → Q (.ref p) (upd H p (.lst (upto n)))) := by
  intro pins s σ H vs us Q I r h
  obtain ⟨a, n, rfl, hr, hn, q⟩ := h
  rw [Vals.ref1 r]
  obtain ⟨t, u, v, e⟩ := I.hok a _ hr
  refine call_list_range (n := n) (I.ok.hd hc) e (small_one (by decide) (by decide) (by omega) (by omega)) ?_ (by omega) fun h' tk acc' c' hk hS ha => ?_
  · unfold Builtin.Range.rangeSize
    rw [if_pos (by decide)]
    split
    · rw [Int.ediv_one]
      omega
    · omega
  have hf : H s.heap.objs.size = none := I.hok.fresh (Nat.le_refl _)
  obtain ⟨hz, hi⟩ := ha
  have rv : Vals (upto n) acc'.toList := by
    refine vals_by (by rw [upto_length, Array.length_toList, hz]) fun i x w h1 h2 => ?_
    have h3 : acc'[i]? = some w := by simpa using h2
    obtain ⟨tt, rfl⟩ := hi i w h3
    unfold upto at h1
    rw [List.getElem?_map] at h1
    have hin : i < n := by
      have := (Array.getElem?_eq_some_iff.mp h3).1
      omega
    rw [List.getElem?_range hin] at h1
    cases h1
    exact ⟨tt, by rw [Int.mul_one, Int.zero_add]⟩
  have new : ObjOk X.prog X.w (upd H s.heap.objs.size (.lst (upto n))) h' s.heap.objs.size (.lst (upto n)) := by
    refine ⟨by rw [upto_length, sizeLine_eq]; omega, acc'.toList, c', rv, ?_⟩
    rw [hS]
  exact ⟨.ref s.heap.objs.size, _, I.laid (t' := tk) hk (Nat.le_refl _) new, rfl, q _ hf⟩
theorem get_list : PGet X (fun o i H Q => ∃ p xs j v, o = .ref p ∧ i = .int ((j : Nat) : Int) ∧ SqL X.K H p xs ∧ xs[j]? = some v ∧ Q v H) := by
  intro pins s σ H x y ov iv Q I rx ry h
  obtain ⟨p, xs, j, v, rfl, rfl, hq, hv, q⟩ := h
  cases rx
  obtain ⟨t, rfl⟩ := ry
  obtain ⟨its, r, pl, hz⟩ := I.list hq
  obtain ⟨w, ew, rw'⟩ := r.get hv
  have hl := r.length
  have hn := line63
  have hj := (List.getElem?_eq_some_iff.mp hv).1
  exact wpAny_getItem_list (s := s) pl.isList (by omega) (by omega) (by simpa using ew) ⟨v, H, I, rw', q⟩
end
theorem for_enum {K : PySem.W.Frag} {a : Addr} {xs : List V} {g : TG} {tb : TS} {D : Ends} {σ : St} {H : Hp} (Pv : Nat → St → Hp → Prop) (h0 : Pv 0 σ H) (hl : ∀ i σ H, i ≤ xs.length → Pv i σ H → SqL K H a xs)
    (hs : ∀ i x σ H T, xs[i]? = some x → Pv i σ H → H T = none → g (.ref T) σ (upd H T (.tup [.int (i : Nat), x])) fun σ2 H2 => tb { D with nx := Pv (i + 1), ct := Pv (i + 1), bk := D.nx } σ2 H2) (hd : ∀ σ H, Pv xs.length σ H → D.nx σ H) :
    ∃ W : Nat → Nat → St → Hp → Prop, (∃ m, W 0 m σ H) ∧ ∀ i m σ H, W i m σ H →
      ((Ite K a).stop i H ∧ D.nx σ H) ∨ ((Ite K a).go i H ∧ ∃ N : St → Hp → Prop, (∀ σ' H', N σ' H' → ∃ m', m' < m ∧ W (i + 1) m' σ' H') ∧ ∀ x H', (Ite K a).yld i H x H' → g x σ H' fun σ2 H2 => tb { D with nx := N, ct := N, bk := D.nx } σ2 H2) := by
  refine ⟨fun i m σ H => m = xs.length - i ∧ i ≤ xs.length ∧ Pv i σ H, ⟨xs.length, by simp, Nat.zero_le _, h0⟩, ?_⟩
  rintro i m σ H ⟨rfl, hi, p⟩
  have q := hl i σ H hi p
  by_cases hlt : i < xs.length
  · refine .inr ⟨⟨xs, xs[i], q, by simp [hlt]⟩, Pv (i + 1), fun σ' H' p' => ⟨xs.length - (i + 1), by omega, rfl, hlt, p'⟩, fun x H' y => ?_⟩
    obtain ⟨T, z, rfl, hT, rfl, y⟩ := y
    exact hs i z σ H T (y xs q) p hT
  · have e : i = xs.length := by omega
    subst e
    exact .inl ⟨⟨xs, q, Nat.le_refl _⟩, hd σ H p⟩
theorem for_zip {K : PySem.W.Frag} {a b : Addr} {xs ys : List V} {g : TG} {tb : TS} {D : Ends} {σ : St} {H : Hp} (hxy : xs.length = ys.length) (Pv : Nat → St → Hp → Prop) (h0 : Pv 0 σ H) (hl : ∀ i σ H, i ≤ xs.length → Pv i σ H → SqL K H a xs ∧ SqL K H b ys)
    (hs : ∀ i x y σ H T, xs[i]? = some x → ys[i]? = some y → Pv i σ H → H T = none → g (.ref T) σ (upd H T (.tup [x, y])) fun σ2 H2 => tb { D with nx := Pv (i + 1), ct := Pv (i + 1), bk := D.nx } σ2 H2) (hd : ∀ σ H, Pv xs.length σ H → D.nx σ H) :
    ∃ W : Nat → Nat → St → Hp → Prop, (∃ m, W 0 m σ H) ∧ ∀ i m σ H, W i m σ H →
      ((Itz K a b).stop i H ∧ D.nx σ H) ∨ ((Itz K a b).go i H ∧ ∃ N : St → Hp → Prop, (∀ σ' H', N σ' H' → ∃ m', m' < m ∧ W (i + 1) m' σ' H') ∧ ∀ x H', (Itz K a b).yld i H x H' → g x σ H' fun σ2 H2 => tb { D with nx := N, ct := N, bk := D.nx } σ2 H2) := by
  refine ⟨fun i m σ H => m = xs.length - i ∧ i ≤ xs.length ∧ Pv i σ H, ⟨xs.length, by simp, Nat.zero_le _, h0⟩, ?_⟩
  rintro i m σ H ⟨rfl, hi, p⟩
  obtain ⟨q1, q2⟩ := hl i σ H hi p
  by_cases hlt : i < xs.length
  · refine .inr ⟨⟨xs, ys, xs[i], ys[i]'(by omega), q1, q2, by simp [hlt], by simp [show i < ys.length by omega]⟩, Pv (i + 1), fun σ' H' p' => ⟨xs.length - (i + 1), by omega, rfl, hlt, p'⟩, fun x H' y => ?_⟩
    obtain ⟨T, z, v, rfl, hT, rfl, y1, y2⟩ := y
    exact hs i z v σ H T (y1 xs q1) (y2 ys q2) p hT
  · have e : i = xs.length := by omega
    subst e
    exact .inl ⟨⟨xs, ys, q1, q2, .inl (Nat.le_refl _)⟩, hd σ H p⟩
theorem lc_zip {K : PySem.W.Frag} {a b : Addr} {xs ys : List V} {g : TG} {tt : TT} {te : TE} {vs : List Nat} {σ : St} {H1 : Hp} {D : Addr} {Qd : Hp → Prop} (hxy : xs.length = ys.length) (Pv : Nat → Hp → Prop) (h0 : Pv 0 (upd H1 D (.lst []))) (hl : ∀ i H, i ≤ xs.length → Pv i H → SqL K H a xs ∧ SqL K H b ys)
    (hs : ∀ i x y H T, xs[i]? = some x → ys[i]? = some y → Pv i H → H T = none → g (.ref T) (wipe σ vs) (upd H T (.tup [x, y])) fun σ2 H2 => wipe σ2 vs = wipe σ vs ∧ tt σ2 H2 fun b H3 =>
      if b = true then te σ2 H3 fun y H4 => ∃ acc, H4 D = some (.lst acc) ∧ acc.length < sizeLine ∧ Pv (i + 1) (upd H4 D (.lst (acc ++ [y]))) else Pv (i + 1) H3) (hd : ∀ H, Pv xs.length H → Qd H) :
    ∃ W : Nat → Nat → Hp → Prop, (∃ m, W 0 m (upd H1 D (.lst []))) ∧ ∀ i m H, W i m H →
      ((Itz K a b).stop i H ∧ Qd H) ∨ ((Itz K a b).go i H ∧ ∃ Nx : Hp → Prop, (∀ H', Nx H' → ∃ m', m' < m ∧ W (i + 1) m' H') ∧ ∀ x H', (Itz K a b).yld i H x H' → g x (wipe σ vs) H' fun σ2 H2 => wipe σ2 vs = wipe σ vs ∧ tt σ2 H2 fun b H3 =>
        if b = true then te σ2 H3 fun y H4 => ∃ acc, H4 D = some (.lst acc) ∧ acc.length < sizeLine ∧ Nx (upd H4 D (.lst (acc ++ [y]))) else Nx H3) := by
  refine ⟨fun i m H => m = xs.length - i ∧ i ≤ xs.length ∧ Pv i H, ⟨xs.length, by simp, Nat.zero_le _, h0⟩, ?_⟩
  rintro i m H ⟨rfl, hi, p⟩
  obtain ⟨q1, q2⟩ := hl i H hi p
  by_cases hlt : i < xs.length
  · refine .inr ⟨⟨xs, ys, xs[i], ys[i]'(by omega), q1, q2, by simp [hlt], by simp [show i < ys.length by omega]⟩, Pv (i + 1), fun H' p' => ⟨xs.length - (i + 1), by omega, rfl, hlt, p'⟩, fun x H' y => ?_⟩
    obtain ⟨T, z, v, rfl, hT, rfl, y1, y2⟩ := y
    exact hs i z v H T (y1 xs q1) (y2 ys q2) p hT
  · have e : i = xs.length := by omega
    subst e
    exact .inl ⟨⟨xs, ys, q1, q2, .inl (Nat.le_refl _)⟩, hd H p⟩
end L2
end
section
set_option linter.all false
namespace Lc
open VaaclBase (Reader Test Given Move Branch Loop Values readInt readNat readPair readTimes readListed whole)
def bindR {A B : Type} (a : Reader A) (f : A → Reader B) : Reader B := fun x => (a x).bind fun u => f u.1 u.2
def pureR {A : Type} (v : A) : Reader A := fun x => some (v, x)
def failR {A : Type} : Reader A := fun _ => none
def takeR : Reader Int := fun x => match x with | [] => none | z :: r => some (z, r)
def remR : Reader (Int × Int) := bindR takeR fun d => if d = 2 ∨ d = 3 ∨ d = 4 ∨ d = 6 then bindR (readInt 0 (d - 1)) fun r => pureR (d, r) else failR
def numR : Reader Int := readInt (-999999) 999999
def testR (n : Nat) : Reader Test := bindR (readInt 0 3) fun k => bindR (readInt 0 ((n : Int) - 1)) fun c =>
  if k = 1 then bindR numR fun z => pureR (.atLeast c.toNat z)
  else if k = 3 then bindR remR fun q => pureR (.rem c.toNat q.1.toNat q.2.toNat)
  else if k = 2 then bindR (readInt 0 ((n : Int) - 1)) fun o => bindR numR fun z => pureR (.below c.toNat o.toNat z)
  else bindR numR fun z => pureR (.atMost c.toNat z)
def givenR (n : Nat) : Reader Given := bindR (readInt 0 1) fun k => if k = 1 then bindR (readInt 0 ((n : Int) - 1)) fun c => bindR (readInt (-99) 99) fun z => pureR ⟨some c.toNat, z⟩ else bindR (readInt (-99) 99) fun z => pureR ⟨none, z⟩
def branchR (n : Nat) : Reader Branch := bindR (readInt 0 3) fun k => bindR (readTimes (testR n) k.toNat) fun ts => bindR (readTimes (givenR n) n) fun mv => pureR ⟨ts, mv⟩
def kindR (ts : List Int) : Reader Vaaclf.Fact := bindR (readInt 0 2) fun k => if k = 2 then bindR remR fun q => pureR ⟨ts, .rem q.1.toNat q.2.toNat⟩ else bindR numR fun z => pureR ⟨ts, if k = 0 then .atMost z else .equal z⟩
def factR (n : Nat) : Reader Vaaclf.Fact := bindR (readTimes (readInt (-5) 5) n) kindR
def loopR (n : Nat) : Reader Loop := bindR (readInt 1 3) fun k => readTimes (branchR n) k.toNat
def claimR (n : Nat) : Reader Vaaclf.Claim := bindR (readInt 0 6) fun k => readTimes (factR n) k.toNat
def valuesR (n : Nat) : Reader Values := readTimes (readInt (-1000000) 1000000) n
theorem readInt_cons (a b z : Int) (r : List Int) : readInt a b (z :: r) = if a ≤ z ∧ z ≤ b then some (z, r) else none := rfl
theorem readNat_eq (a b : Nat) (x : List Int) : readNat a b x = (readInt a b x).map fun u => (u.1.toNat, u.2) := rfl
theorem readNat_pred {n : Nat} (h : 1 ≤ n) (x : List Int) : readNat 0 (n - 1) x = (readInt 0 ((n : Int) - 1) x).map fun u => (u.1.toNat, u.2) := by
  rw [readNat_eq]
  have e : ((n - 1 : Nat) : Int) = (n : Int) - 1 := by omega
  rw [e]
  rfl
theorem readInt_some {a b : Int} {x : List Int} {u : Int × List Int} (h : readInt a b x = some u) : x = u.1 :: u.2 ∧ a ≤ u.1 ∧ u.1 ≤ b := by
  cases x with
  | nil => cases h
  | cons z r =>
    rw [readInt_cons] at h
    split at h
    · rename_i q
      cases h
      exact ⟨rfl, q⟩
    · cases h
theorem testR_eq {n : Nat} (hn : 1 ≤ n) (x : List Int) : testR n x = VaaclBase.readTest n x := by
  have lim : VaaclBase.LIMIT = 999999 := rfl
  unfold testR VaaclBase.readTest
  cases x with
  | nil => rfl
  | cons k r =>
    have pair1 : ∀ (mk : Nat → Int → Test), (∀ c z, VaaclBase.okTest n (mk c z) = (decide (c < n) && (decide (-VaaclBase.LIMIT ≤ z) && decide (z ≤ VaaclBase.LIMIT)))) → ∀ r,
        (bindR (readInt 0 ((n : Int) - 1)) fun c => bindR numR fun z => pureR (mk c.toNat z)) r = (((readPair (readNat 0 (n - 1)) (readInt (-VaaclBase.LIMIT) VaaclBase.LIMIT) r).map fun u => (mk u.1.1 u.1.2, u.2)).bind fun u => if VaaclBase.okTest n u.1 then some u else none) := by
      intro mk ok r
      unfold bindR numR pureR readPair
      rw [readNat_pred hn]
      cases h1 : readInt 0 ((n : Int) - 1) r with
      | none => rfl
      | some u =>
        obtain ⟨_, a1, a2⟩ := readInt_some h1
        simp only [Option.bind_some, Option.map_some, lim]
        cases h2 : readInt (-999999) 999999 u.2 with
        | none => rfl
        | some v =>
          obtain ⟨_, b1, b2⟩ := readInt_some h2
          simp only [Option.bind_some, Option.map_some]
          rw [if_pos]
          rw [ok, lim]
          simp
          omega
    by_cases k0 : k = 0
    · subst k0
      show (bindR (readInt 0 3) _) (0 :: r) = _
      unfold bindR
      rw [readInt_cons, if_pos (by omega)]
      simp only [Option.bind_some]
      have := pair1 .atMost (fun _ _ => rfl) r
      unfold bindR at this
      simpa using this
    by_cases k1 : k = 1
    · subst k1
      unfold bindR
      rw [readInt_cons, if_pos (by omega)]
      simp only [Option.bind_some]
      have := pair1 .atLeast (fun _ _ => rfl) r
      unfold bindR at this
      simpa using this
    by_cases k2 : k = 2
    · subst k2
      unfold bindR
      rw [readInt_cons, if_pos (by omega)]
      simp only [Option.bind_some]
      unfold readPair
      rw [readNat_pred hn]
      cases h1 : readInt 0 ((n : Int) - 1) r with
      | none => rfl
      | some u =>
        obtain ⟨_, a1, a2⟩ := readInt_some h1
        simp only [Option.bind_some, Option.map_some, lim]
        rw [readNat_pred hn]
        simp only [show ¬ ((2 : Int) = 1) by decide, show ¬ ((2 : Int) = 3) by decide, if_false, if_true]
        cases h2 : readInt 0 ((n : Int) - 1) u.2 with
        | none => rfl
        | some v =>
          obtain ⟨_, b1, b2⟩ := readInt_some h2
          simp only [Option.bind_some, Option.map_some]
          unfold numR pureR
          cases h3 : readInt (-999999) 999999 v.2 with
          | none => rfl
          | some t =>
            obtain ⟨_, c1, c2⟩ := readInt_some h3
            simp only [Option.bind_some, Option.map_some]
            rw [if_pos]
            show (decide _ && (decide _ && (decide _ && decide _))) = true
            simp [lim]
            omega
    by_cases k3 : k = 3
    · subst k3
      unfold bindR
      rw [readInt_cons, if_pos (by omega)]
      simp only [Option.bind_some]
      unfold readPair
      rw [readNat_pred hn]
      cases h1 : readInt 0 ((n : Int) - 1) r with
      | none => rfl
      | some u =>
        obtain ⟨_, a1, a2⟩ := readInt_some h1
        simp only [Option.bind_some, Option.map_some]
        simp only [show ¬ ((3 : Int) = 1) by decide, if_false, if_true]
        unfold remR bindR takeR failR pureR
        cases h4 : u.2 with
        | nil => rfl
        | cons d r2 =>
          simp only [Option.bind_some]
          rw [readNat_eq, readInt_cons]
          by_cases dd : d = 2 ∨ d = 3 ∨ d = 4 ∨ d = 6
          · have q2 : ((2 : Nat) : Int) ≤ d ∧ d ≤ ((6 : Nat) : Int) := by omega
            rw [if_pos dd, if_pos q2]
            simp only [Option.bind_some, Option.map_some]
            rw [readNat_eq]
            cases r2 with
            | nil => rfl
            | cons z r3 =>
              rw [readInt_cons, readInt_cons]
              by_cases q : 0 ≤ z ∧ z ≤ d - 1
              · have q3 : ((0 : Nat) : Int) ≤ z ∧ z ≤ ((5 : Nat) : Int) := by omega
                rw [if_pos q, if_pos q3]
                simp only [Option.bind_some, Option.map_some]
                rw [if_pos]
                show (decide _ && (VaaclBase.MODULI.contains d.toNat && decide _)) = true
                have e : VaaclBase.MODULI.contains d.toNat = true := by
                  rcases dd with rfl | rfl | rfl | rfl <;> decide
                rw [e]
                simp
                omega
              · rw [if_neg q]
                simp only [Option.bind_none]
                split
                · simp only [Option.map_some, Option.bind_some]
                  rw [if_neg]
                  show ¬ ((decide _ && (VaaclBase.MODULI.contains d.toNat && decide _)) = true)
                  simp
                  intro _ _
                  omega
                · rfl
          · rw [if_neg dd]
            split
            · simp only [Option.map_some, Option.bind_some]
              have e : VaaclBase.MODULI.contains d.toNat = false := by
                unfold VaaclBase.MODULI
                simp
                omega
              cases h5 : readNat 0 5 r2 with
              | none => rfl
              | some v =>
                simp only [Option.map_some, Option.bind_some]
                rw [if_neg]
                · rfl
                · show ¬ ((decide _ && (VaaclBase.MODULI.contains d.toNat && decide _)) = true)
                  rw [e]
                  simp
            · rfl
    · unfold bindR
      rw [readInt_cons, if_neg (by omega)]
      simp only [Option.bind_none]
      split <;> first | rfl | (rename_i h; cases h; omega)
theorem givenR_eq {n : Nat} (hn : 1 ≤ n) (x : List Int) : givenR n x = VaaclBase.readGiven n x := by
  have lim : VaaclBase.ADD = 99 := rfl
  unfold givenR VaaclBase.readGiven
  cases x with
  | nil => rfl
  | cons k r =>
    unfold bindR
    rw [readInt_cons]
    by_cases k0 : k = 0
    · subst k0
      rw [if_pos (by omega)]
      simp only [Option.bind_some, show ¬ ((0 : Int) = 1) by decide, if_false, lim]
      cases readInt (-99) 99 r <;> rfl
    by_cases k1 : k = 1
    · subst k1
      rw [if_pos (by omega)]
      simp only [Option.bind_some, if_true, lim]
      unfold readPair
      rw [readNat_pred hn]
      cases readInt 0 ((n : Int) - 1) r with
      | none => rfl
      | some u =>
        simp only [Option.bind_some, Option.map_some]
        cases readInt (-99) 99 u.2 <;> rfl
    · rw [if_neg (by omega)]
      simp only [Option.bind_none]
      split <;> first | rfl | (rename_i h; cases h; omega)
theorem times_congr {A : Type} {a b : Reader A} (h : ∀ x, a x = b x) : ∀ (k : Nat) (x : List Int), readTimes a k x = readTimes b k x
  | 0, _ => rfl
  | k + 1, x => by
    unfold readTimes
    rw [h]
    congr 1
    funext u
    rw [times_congr h k]
theorem bind_nat {A : Type} (a b : Nat) (x : List Int) (f : Nat → Reader A) : (bindR (readInt a b) fun k => f k.toNat) x = (readNat a b x).bind fun n => f n.1 n.2 := by
  unfold bindR
  rw [readNat_eq]
  cases readInt a b x <;> rfl
theorem branchR_eq {n : Nat} (hn : 1 ≤ n) (x : List Int) : branchR n x = VaaclBase.readBranch n x := by
  unfold branchR VaaclBase.readBranch readPair VaaclBase.readGuard readListed VaaclBase.readMove
  rw [show (bindR (readInt 0 3) fun k => bindR (readTimes (testR n) k.toNat) fun ts => bindR (readTimes (givenR n) n) fun mv => pureR (⟨ts, mv⟩ : Branch)) x = (readNat 0 VaaclBase.TESTS x).bind fun k => (bindR (readTimes (testR n) k.1) fun ts => bindR (readTimes (givenR n) n) fun mv => pureR (⟨ts, mv⟩ : Branch)) k.2 from bind_nat 0 3 x fun k => bindR (readTimes (testR n) k) fun ts => bindR (readTimes (givenR n) n) fun mv => pureR (⟨ts, mv⟩ : Branch)]
  cases readNat 0 VaaclBase.TESTS x with
  | none => rfl
  | some u =>
    simp only [Option.bind_some]
    unfold bindR
    rw [times_congr (testR_eq hn)]
    cases readTimes (VaaclBase.readTest n) u.1 u.2 with
    | none => rfl
    | some v =>
      simp only [Option.bind_some, Option.map_some]
      rw [times_congr (givenR_eq hn)]
      cases readTimes (VaaclBase.readGiven n) n v.2 <;> rfl
theorem loopR_eq {n : Nat} (hn : 1 ≤ n) (x : List Int) : loopR n x = VaaclBase.readLoop n x := by
  unfold loopR VaaclBase.readLoop readListed
  rw [show (bindR (readInt 1 3) fun k => readTimes (branchR n) k.toNat) x = _ from bind_nat 1 3 x fun k => readTimes (branchR n) k]
  show _ = (readNat 1 3 x).bind _
  cases readNat 1 3 x with
  | none => rfl
  | some u =>
    simp only [Option.bind_some]
    exact times_congr (branchR_eq hn) _ _
theorem kindR_eq (ts : List Int) (x : List Int) : kindR ts x = (Vaaclf.readKind x).map fun u => ((⟨ts, u.1⟩ : Vaaclf.Fact), u.2) := by
  have lim : VaaclBase.LIMIT = 999999 := rfl
  unfold kindR Vaaclf.readKind
  cases x with
  | nil => rfl
  | cons k r =>
    unfold bindR
    rw [readInt_cons]
    by_cases k0 : k = 0
    · subst k0
      rw [if_pos (by omega)]
      simp only [Option.bind_some, show ¬ ((0 : Int) = 2) by decide, if_false, lim, if_true]
      unfold numR
      cases readInt (-999999) 999999 r <;> rfl
    by_cases k1 : k = 1
    · subst k1
      rw [if_pos (by omega)]
      simp only [Option.bind_some, show ¬ ((1 : Int) = 2) by decide, show ¬ ((1 : Int) = 0) by decide, if_false, lim]
      unfold numR
      cases readInt (-999999) 999999 r <;> rfl
    by_cases k2 : k = 2
    · subst k2
      rw [if_pos (by omega)]
      simp only [Option.bind_some, if_true]
      unfold readPair remR bindR takeR failR pureR
      cases r with
      | nil => rfl
      | cons d r2 =>
        simp only [Option.bind_some]
        rw [readNat_eq, readInt_cons]
        by_cases dd : d = 2 ∨ d = 3 ∨ d = 4 ∨ d = 6
        · have q2 : ((2 : Nat) : Int) ≤ d ∧ d ≤ ((6 : Nat) : Int) := by omega
          rw [if_pos dd, if_pos q2]
          simp only [Option.bind_some, Option.map_some]
          rw [readNat_eq]
          cases r2 with
          | nil => rfl
          | cons z r3 =>
            rw [readInt_cons, readInt_cons]
            by_cases q : 0 ≤ z ∧ z ≤ d - 1
            · have q3 : ((0 : Nat) : Int) ≤ z ∧ z ≤ ((5 : Nat) : Int) := by omega
              rw [if_pos q, if_pos q3]
              simp only [Option.bind_some, Option.map_some]
              rw [if_pos]
              · rfl
              · have e : VaaclBase.MODULI.contains d.toNat = true := by
                  rcases dd with rfl | rfl | rfl | rfl <;> decide
                rw [e]
                simp
                omega
            · rw [if_neg q]
              simp only [Option.bind_none]
              split
              · simp only [Option.map_some, Option.bind_some]
                rw [if_neg]
                · rfl
                · simp
                  intro _
                  omega
              · rfl
        · rw [if_neg dd]
          split
          · simp only [Option.map_some, Option.bind_some]
            have e : VaaclBase.MODULI.contains d.toNat = false := by
              unfold VaaclBase.MODULI
              simp
              omega
            cases h5 : readNat 0 5 r2 with
            | none => rfl
            | some v =>
              simp only [Option.map_some, Option.bind_some]
              rw [if_neg]
              · rfl
              · rw [e]
                simp
          · rfl
    · rw [if_neg (by omega)]
      simp only [Option.bind_none]
      split <;> first | rfl | (rename_i h; cases h; omega)
theorem factR_eq (n : Nat) (x : List Int) : factR n x = Vaaclf.readFact n x := by
  unfold factR Vaaclf.readFact readPair bindR
  show (readTimes (readInt (-5) 5) n x).bind _ = Option.map _ ((readTimes (readInt (-5) 5) n x).bind _)
  cases readTimes (readInt (-5) 5) n x with
  | none => rfl
  | some u =>
    simp only [Option.bind_some, kindR_eq]
    cases Vaaclf.readKind u.2 <;> rfl
theorem claimR_eq (n : Nat) (x : List Int) : claimR n x = readListed 0 Vaaclf.FACTS (Vaaclf.readFact n) x := by
  unfold claimR readListed
  rw [show (bindR (readInt 0 6) fun k => readTimes (factR n) k.toNat) x = _ from bind_nat 0 6 x fun k => readTimes (factR n) k]
  show _ = (readNat 0 6 x).bind _
  cases readNat 0 6 x with
  | none => rfl
  | some u =>
    simp only [Option.bind_some]
    exact times_congr (factR_eq n) _ _
theorem times_snoc {A : Type} (a : Reader A) : ∀ (k : Nat) (x : List Int), readTimes a (k + 1) x = (readTimes a k x).bind fun u => (a u.2).map fun v => (u.1 ++ [v.1], v.2)
  | 0, x => by
    show (a x).bind _ = _
    unfold readTimes
    simp only [Option.bind_some]
    cases a x <;> rfl
  | k + 1, x => by
    rw [show readTimes a (k + 1 + 1) x = (a x).bind fun u => (readTimes a (k + 1) u.2).map fun v => (u.1 :: v.1, v.2) from rfl]
    rw [show readTimes a (k + 1) x = (a x).bind fun u => (readTimes a k u.2).map fun v => (u.1 :: v.1, v.2) from rfl]
    cases a x with
    | none => rfl
    | some u =>
      simp only [Option.bind_some]
      rw [times_snoc a k]
      cases readTimes a k u.2 with
      | none => rfl
      | some v =>
        simp only [Option.bind_some, Option.map_some]
        cases a v.2 <;> rfl
theorem times_len {A : Type} (a : Reader A) : ∀ (k : Nat) (x : List Int) (u : List A × List Int), readTimes a k x = some u → u.1.length = k
  | 0, x, u, h => by cases h; rfl
  | k + 1, x, u, h => by
    unfold readTimes at h
    cases e : a x with
    | none => rw [e] at h; cases h
    | some v =>
      rw [e] at h
      simp only [Option.bind_some] at h
      cases e2 : readTimes a k v.2 with
      | none => rw [e2] at h; cases h
      | some t =>
        rw [e2] at h
        cases h
        show t.1.length + 1 = k + 1
        rw [times_len a k _ _ e2]
theorem times_none {A : Type} (a : Reader A) : ∀ (k i : Nat) (x : List Int), readTimes a i x = none → i ≤ k → readTimes a k x = none
  | k, 0, x, h, _ => by cases h
  | 0, i + 1, x, _, hi => by omega
  | k + 1, i + 1, x, h, hi => by
    rw [times_snoc]
    by_cases e : i + 1 ≤ k
    · rw [times_none a k (i + 1) x h e]
      rfl
    · have : i = k := by omega
      subst this
      rw [← times_snoc]
      exact h
end Lc
end
section
set_option linter.all false
namespace Lc
open Vaaclf (Fact Kind Use Claim)
structure F where
  ts : List Int
  k : Int
  d : Int
  c : Int
def mF (f : Fact) : F := match f.kind with
  | .atMost c => ⟨f.times, 0, 0, c⟩
  | .equal c => ⟨f.times, 1, 0, c⟩
  | .rem m r => ⟨f.times, 2, (m : Int), (r : Int)⟩
structure U where
  place : Nat
  often : Int
  ts : List Int
  c : Int
def OkF (n : Nat) (f : Fact) : Prop := f.times.length = n ∧ match f.kind with
  | .rem m r => r < m
  | _ => True
theorem mF_ts (f : Fact) : (mF f).ts = f.times := by unfold mF; split <;> rfl
theorem mF_c (f : Fact) : (mF f).c = Vaaclf.numberOf f.kind := by unfold mF Vaaclf.numberOf; split <;> simp_all
def often (f t : F) : List Int := if f.k = 1 then [1, 2, -1, -2] else if f.k ≠ t.k then [] else if f.k = 0 then [1, 2] else if f.d % t.d = 0 then [1, 2, -1, -2] else []
theorem often_eq (f g : Fact) : often (mF f) (mF g) = Vaaclf.mayUse g.kind f := by
  obtain ⟨ft, fk⟩ := f
  obtain ⟨gt, gk⟩ := g
  cases fk with
  | atMost a => cases gk <;> rfl
  | equal a => cases gk <;> rfl
  | rem m r =>
    cases gk with
    | atMost b => rfl
    | equal b => rfl
    | rem k b =>
      show (if (2 : Int) = 1 then _ else if (2 : Int) ≠ 2 then _ else if (2 : Int) = 0 then _ else if (m : Int) % (k : Int) = 0 then _ else _) = (if m % k = 0 then _ else _)
      rw [if_neg (by decide), if_neg (by decide), if_neg (by decide)]
      have e : ((m : Int) % (k : Int) = 0) ↔ m % k = 0 := by
        omega
      by_cases q : m % k = 0
      · rw [if_pos q, if_pos (e.mpr q)]
      · rw [if_neg q, if_neg (fun z => q (e.mp z))]
def mkUse (i : Nat) (f : F) (k : Int) : U := ⟨i, k, f.ts.map (k * ·), k * f.c⟩
def mUses (fs : List F) (t : F) : List U := fs.zipIdx.flatMap fun x => (often x.1 t).map (mkUse x.2 x.1)
def mLess (t : F) (u : U) : F := ⟨List.zipWith (fun a b => a - b) t.ts u.ts, t.k, t.d, t.c - u.c⟩
def zeros (ts : List Int) : Bool := ts.all (· == 0)
def mNone (t : F) : Bool := if t.k = 0 then zeros t.ts && decide (0 ≤ t.c) else if t.k = 1 then zeros t.ts && t.c == 0 else t.c % t.d == 0 && zeros (t.ts.map (· % t.d))
def mSingle (t : F) (us : List U) : Option U := us.find? fun u => mNone (mLess t u)
def mFirst (t : F) (fs : List F) : Option (List U) :=
  if mNone t then some [] else match mSingle t (mUses fs t) with
    | some u => some [u]
    | none => (mUses fs t).findSome? fun u => (mSingle (mLess t u) ((mUses fs t).filter fun v => decide (u.place < v.place))).map fun v => [u, v]
def toUse (u : U) : Use := ⟨u.place, u.often⟩
def ofUse (fs : List Fact) (u : Use) : U := match fs[u.fact]? with
  | some f => mkUse u.fact (mF f) u.times
  | none => ⟨u.fact, u.times, [], 0⟩
theorem toUse_ofUse (fs : List Fact) (u : Use) : toUse (ofUse fs u) = u := by unfold ofUse; split <;> rfl
theorem zipIdx_get {α : Type} : ∀ (l : List α) (k : Nat) (x : α × Nat), x ∈ l.zipIdx k → k ≤ x.2 ∧ l[x.2 - k]? = some x.1
  | [], k, x, h => by simp at h
  | a :: l, k, x, h => by
    rw [List.zipIdx_cons] at h
    rcases List.mem_cons.mp h with rfl | h
    · exact ⟨Nat.le_refl _, by simp⟩
    · obtain ⟨h1, h2⟩ := zipIdx_get l (k + 1) x h
      refine ⟨by omega, ?_⟩
      have e : x.2 - k = (x.2 - (k + 1)) + 1 := by omega
      rw [e, List.getElem?_cons_succ]
      exact h2
theorem zipIdx_map {α β : Type} (f : α → β) : ∀ (l : List α) (k : Nat), (l.map f).zipIdx k = (l.zipIdx k).map fun x => (f x.1, x.2)
  | [], k => rfl
  | a :: l, k => by
    rw [List.map_cons, List.zipIdx_cons, List.zipIdx_cons, List.map_cons, zipIdx_map f l]
theorem flatMap_congr {α β : Type} {f g : α → List β} : ∀ (l : List α), (∀ x ∈ l, f x = g x) → l.flatMap f = l.flatMap g
  | [], _ => rfl
  | a :: l, h => by
    rw [List.flatMap_cons, List.flatMap_cons, h a (List.mem_cons_self ..), flatMap_congr l fun x hx => h x (List.mem_cons_of_mem _ hx)]
theorem mUses_eq (fs : List Fact) (g : Fact) : mUses (fs.map mF) (mF g) = (Vaaclf.usesOf g.kind fs).map (ofUse fs) := by
  unfold mUses Vaaclf.usesOf
  rw [zipIdx_map, List.flatMap_map, List.map_flatMap]
  refine flatMap_congr _ fun x hx => ?_
  obtain ⟨_, h⟩ := zipIdx_get fs 0 x hx
  rw [Nat.sub_zero] at h
  rw [often_eq, List.map_map]
  refine List.map_congr_left fun k _ => ?_
  show mkUse x.2 (mF x.1) k = ofUse fs ⟨x.2, k⟩
  unfold ofUse
  simp only [h]
theorem use_lt {fs : List Fact} {k : Kind} {u : Use} (h : u ∈ Vaaclf.usesOf k fs) : ∃ f, fs[u.fact]? = some f ∧ f ∈ fs := by
  unfold Vaaclf.usesOf at h
  obtain ⟨x, hx, hu⟩ := List.mem_flatMap.mp h
  obtain ⟨t, _, rfl⟩ := List.mem_map.mp hu
  obtain ⟨_, h⟩ := zipIdx_get fs 0 x hx
  rw [Nat.sub_zero] at h
  exact ⟨x.1, h, List.mem_of_getElem? h⟩
def resid (g : Fact) (T : List Int) (N : Int) : F := ⟨List.zipWith (fun a b => a - b) g.times T, (mF g).k, (mF g).d, (mF g).c - N⟩
theorem plus_eq (a b : List Int) : Vaaclf.plus a b = List.zipWith (fun x y => x + y) a b := by
  unfold Vaaclf.plus
  rw [List.zip, List.map_zipWith]
theorem plus_len {n : Nat} {a b : List Int} (ha : a.length = n) (hb : b.length = n) : (Vaaclf.plus a b).length = n := by
  rw [plus_eq, List.length_zipWith, ha, hb, Nat.min_self]
theorem zip_sub : ∀ (g T u : List Int), List.zipWith (fun a b => a - b) (List.zipWith (fun a b => a - b) g T) u = List.zipWith (fun a b => a - b) g (List.zipWith (fun x y => x + y) T u)
  | [], _, _ => by simp
  | _ :: _, [], _ => by simp
  | _ :: _, _ :: _, [] => by simp
  | a :: g, b :: T, c :: u => by
    simp only [List.zipWith_cons_cons]
    rw [zip_sub g T u]
    congr 1
    omega
theorem less_resid (g : Fact) (T : List Int) (N : Int) (u : U) : mLess (resid g T N) u = resid g (Vaaclf.plus T u.ts) (N + u.c) := by
  unfold mLess resid
  simp only
  rw [zip_sub, plus_eq]
  congr 1
  omega
theorem unit_zero (n : Nat) : Vaaclf.unit_ n n 0 = List.replicate n 0 := by
  unfold Vaaclf.unit_
  apply List.ext_getElem
  · simp
  · intro i h1 h2
    simp
theorem zip_zero : ∀ (g : List Int), List.zipWith (fun a b => a - b) g (List.replicate g.length 0) = g
  | [] => rfl
  | a :: g => by
    rw [List.length_cons, List.replicate_succ, List.zipWith_cons_cons, zip_zero g]
    congr 1
    omega
theorem resid_zero {n : Nat} {g : Fact} (h : g.times.length = n) : resid g (Vaaclf.unit_ n n 0) 0 = mF g := by
  unfold resid
  rw [unit_zero, ← h, zip_zero]
  have e := mF_ts g
  cases q : mF g with
  | mk a b c d =>
    rw [q] at e
    simp only at e
    subst e
    simp
theorem zeros_sub : ∀ (g T : List Int), T.length = g.length → (zeros (List.zipWith (fun a b => a - b) g T) = (T == g))
  | [], [], _ => rfl
  | [], _ :: _, h => by simp at h
  | _ :: _, [], h => by simp at h
  | a :: g, b :: T, h => by
    have ih := zeros_sub g T (by simpa using h)
    unfold zeros at ih ⊢
    rw [List.zipWith_cons_cons, List.all_cons, ih]
    have e : ((a - b == 0) : Bool) = (b == a) := by
      rw [Bool.eq_iff_iff]
      simp
      omega
    rw [e]
    simp [List.cons_beq_cons]
theorem zeros_mod (m : Int) : ∀ (g T : List Int), zeros ((List.zipWith (fun a b => a - b) g T).map (· % m)) = (T.zip g).all fun x => (x.1 - x.2) % m == 0
  | [], [] => rfl
  | [], _ :: _ => rfl
  | _ :: _, [] => rfl
  | a :: g, b :: T => by
    have ih := zeros_mod m g T
    unfold zeros at ih ⊢
    rw [List.zipWith_cons_cons, List.map_cons, List.all_cons, ih, List.zip_cons_cons, List.all_cons]
    congr 1
    rw [Bool.eq_iff_iff]
    simp only [beq_iff_eq]
    constructor
    · intro h
      have e : b - a = -(a - b) := by omega
      rw [e]
      exact Int.emod_eq_zero_of_dvd (Int.dvd_neg.mpr (Int.dvd_of_emod_eq_zero h))
    · intro h
      have e : a - b = -(b - a) := by omega
      rw [e]
      exact Int.emod_eq_zero_of_dvd (Int.dvd_neg.mpr (Int.dvd_of_emod_eq_zero h))
theorem rem_iff {m r : Nat} (h : r < m) (N : Int) : (((r : Int) - N) % (m : Int) == 0) = (N % (m : Int) == (r : Int)) := by
  rw [Bool.eq_iff_iff]
  simp only [beq_iff_eq]
  have hm : (0 : Int) < m := by omega
  have e1 := Int.mul_ediv_add_emod N m
  have e2 := Int.emod_nonneg N (show (m : Int) ≠ 0 by omega)
  have e3 := Int.emod_lt_of_pos N hm
  constructor
  · intro q
    have d : (m : Int) ∣ (r : Int) - N := Int.dvd_of_emod_eq_zero q
    obtain ⟨c, hc⟩ := d
    have : N = r + m * (-c) := by
      rw [Int.mul_neg]
      omega
    rw [this, Int.add_mul_emod_self_left]
    exact Int.emod_eq_of_lt (by omega) (by omega)
  · intro q
    have : (r : Int) - N = m * (-(N / m)) := by
      rw [Int.mul_neg]
      omega
    rw [this]
    exact Int.mul_emod_right _ _
theorem none_resid {n : Nat} {g : Fact} (ok : OkF n g) {T : List Int} (hT : T.length = n) (N : Int) : mNone (resid g T N) = match g.kind with
    | .atMost c => T == g.times && decide (N ≤ c)
    | .equal c => T == g.times && N == c
    | .rem m r => (T.zip g.times).all (fun x => (x.1 - x.2) % (m : Int) == 0) && N % (m : Int) == (r : Int) := by
  obtain ⟨gt, gk⟩ := g
  obtain ⟨hl, hr⟩ := ok
  cases gk with
  | atMost c =>
    have hl : gt.length = n := hl
    show (if (0 : Int) = 0 then zeros (List.zipWith (fun a b => a - b) gt T) && decide (0 ≤ c - N) else _) = (T == gt && decide (N ≤ c))
    rw [if_pos rfl, zeros_sub _ _ (hT.trans hl.symm)]
    congr 1
    rw [Bool.eq_iff_iff]
    simp
  | equal c =>
    have hl : gt.length = n := hl
    show (if (1 : Int) = 0 then _ else if (1 : Int) = 1 then zeros (List.zipWith (fun a b => a - b) gt T) && (c - N == 0) else _) = (T == gt && N == c)
    rw [if_neg (by decide), if_pos rfl, zeros_sub _ _ (hT.trans hl.symm)]
    congr 1
    rw [Bool.eq_iff_iff]
    simp
    omega
  | rem m r =>
    have hr : r < m := hr
    show (if (2 : Int) = 0 then _ else if (2 : Int) = 1 then _ else ((r : Int) - N) % (m : Int) == 0 && zeros ((List.zipWith (fun a b => a - b) gt T).map (· % (m : Int)))) = ((T.zip gt).all (fun x => (x.1 - x.2) % (m : Int) == 0) && N % (m : Int) == (r : Int))
    rw [if_neg (by decide), if_neg (by decide), zeros_mod, Bool.and_comm, rem_iff hr]
theorem shows_eq {n : Nat} {fs : List Fact} {g : Fact} (ok : OkF n g) {us : List Use} (hT : (Vaaclf.timesBy n fs us).length = n) : Vaaclf.shows n fs g us = mNone (resid g (Vaaclf.timesBy n fs us) (Vaaclf.numberBy fs us)) := by
  rw [none_resid ok hT]
  unfold Vaaclf.shows
  split <;> simp_all
theorem timesBy_snoc (n : Nat) (fs : List Fact) (us : List Use) (u : Use) {f : Fact} (h : fs[u.fact]? = some f) : Vaaclf.timesBy n fs (us ++ [u]) = Vaaclf.plus (Vaaclf.timesBy n fs us) (ofUse fs u).ts := by
  unfold Vaaclf.timesBy ofUse
  rw [List.foldl_append, List.foldl_cons, List.foldl_nil]
  simp only [h, Option.map_some, Option.getD_some, mkUse, mF_ts]
theorem numberBy_snoc (fs : List Fact) (us : List Use) (u : Use) {f : Fact} (h : fs[u.fact]? = some f) : Vaaclf.numberBy fs (us ++ [u]) = Vaaclf.numberBy fs us + (ofUse fs u).c := by
  unfold Vaaclf.numberBy ofUse
  rw [List.foldl_append, List.foldl_cons, List.foldl_nil]
  simp only [h, Option.map_some, Option.getD_some, mkUse, mF_c]
theorem ofUse_len {n : Nat} {fs : List Fact} (ok : ∀ f ∈ fs, OkF n f) {u : Use} {f : Fact} (h : fs[u.fact]? = some f) : (ofUse fs u).ts.length = n := by
  unfold ofUse
  simp only [h, mkUse, mF_ts, List.length_map]
  exact (ok f (List.mem_of_getElem? h)).1
theorem unit_len (n : Nat) : (Vaaclf.unit_ n n 0).length = n := by rw [unit_zero, List.length_replicate]
section
variable {n : Nat} {fs : List Fact} {g : Fact}
theorem shows0 (og : OkF n g) : Vaaclf.shows n fs g [] = mNone (mF g) := by
  rw [shows_eq og (us := []) (unit_len n)]
  show mNone (resid g (Vaaclf.unit_ n n 0) 0) = _
  rw [resid_zero og.1]
theorem shows1 (og : OkF n g) (ok : ∀ f ∈ fs, OkF n f) {u : Use} {f : Fact} (h : fs[u.fact]? = some f) : Vaaclf.shows n fs g [u] = mNone (mLess (mF g) (ofUse fs u)) := by
  have e1 : Vaaclf.timesBy n fs [u] = Vaaclf.plus (Vaaclf.unit_ n n 0) (ofUse fs u).ts := timesBy_snoc n fs [] u h
  have e2 : Vaaclf.numberBy fs [u] = 0 + (ofUse fs u).c := numberBy_snoc fs [] u h
  rw [shows_eq og (us := [u]) (by rw [e1]; exact plus_len (unit_len n) (ofUse_len ok h)), e1, e2, ← less_resid, resid_zero og.1]
theorem shows2 (og : OkF n g) (ok : ∀ f ∈ fs, OkF n f) {u v : Use} {f f' : Fact} (h : fs[u.fact]? = some f) (h' : fs[v.fact]? = some f') : Vaaclf.shows n fs g [u, v] = mNone (mLess (mLess (mF g) (ofUse fs u)) (ofUse fs v)) := by
  have e1 : Vaaclf.timesBy n fs [u] = Vaaclf.plus (Vaaclf.unit_ n n 0) (ofUse fs u).ts := timesBy_snoc n fs [] u h
  have e2 : Vaaclf.numberBy fs [u] = 0 + (ofUse fs u).c := numberBy_snoc fs [] u h
  have e3 : Vaaclf.timesBy n fs [u, v] = Vaaclf.plus (Vaaclf.timesBy n fs [u]) (ofUse fs v).ts := timesBy_snoc n fs [u] v h'
  have e4 : Vaaclf.numberBy fs [u, v] = Vaaclf.numberBy fs [u] + (ofUse fs v).c := numberBy_snoc fs [u] v h'
  rw [shows_eq og (us := [u, v]) (by rw [e3, e1]; exact plus_len (plus_len (unit_len n) (ofUse_len ok h)) (ofUse_len ok h')), e3, e4, ← less_resid, e1, e2, ← less_resid, resid_zero og.1]
theorem find_map {α β : Type} (f : α → β) (p : β → Bool) (q : α → Bool) : ∀ (l : List α), (∀ x ∈ l, p (f x) = q x) → (l.map f).find? p = (l.find? q).map f
  | [], _ => rfl
  | a :: l, h => by
    rw [List.map_cons, List.find?_cons, List.find?_cons, h a (List.mem_cons_self ..)]
    cases q a
    · exact find_map f p q l fun x hx => h x (List.mem_cons_of_mem _ hx)
    · rfl
theorem find_and {α : Type} (p q : α → Bool) : ∀ (l : List α), (l.filter p).find? q = l.find? fun x => p x && q x
  | [] => rfl
  | a :: l => by
    rw [List.filter_cons, List.find?_cons]
    cases h : p a with
    | false =>
      simp only [Bool.false_eq_true, if_false, Bool.false_and]
      exact find_and p q l
    | true =>
      simp only [if_true, Bool.true_and, List.find?_cons]
      cases q a
      · exact find_and p q l
      · rfl
theorem findSome_map {α β γ : Type} (f : α → β) (p : β → Option γ) (q : α → Option γ) : ∀ (l : List α), (∀ x ∈ l, p (f x) = q x) → (l.map f).findSome? p = l.findSome? q
  | [], _ => rfl
  | a :: l, h => by
    rw [List.map_cons, List.findSome?_cons, List.findSome?_cons, h a (List.mem_cons_self ..), findSome_map f p q l fun x hx => h x (List.mem_cons_of_mem _ hx)]
theorem find_congr {α : Type} {p q : α → Bool} : ∀ {l : List α}, (∀ x ∈ l, p x = q x) → l.find? p = l.find? q
  | [], _ => rfl
  | a :: l, h => by
    rw [List.find?_cons, List.find?_cons, h a (List.mem_cons_self ..), find_congr fun x hx => h x (List.mem_cons_of_mem _ hx)]
theorem first_eq (og : OkF n g) (ok : ∀ f ∈ fs, OkF n f) : (mFirst (mF g) (fs.map mF)).map (List.map toUse) = Vaaclf.shown n fs g := by
  unfold mFirst Vaaclf.shown
  rw [shows0 og]
  by_cases h0 : mNone (mF g) = true
  · rw [if_pos h0, if_pos h0]
    rfl
  rw [if_neg h0, if_neg h0, mUses_eq]
  have e1 : mSingle (mF g) ((Vaaclf.usesOf g.kind fs).map (ofUse fs)) = ((Vaaclf.usesOf g.kind fs).find? fun u => Vaaclf.shows n fs g [u]).map (ofUse fs) := by
    unfold mSingle
    refine find_map _ _ _ _ fun u hu => ?_
    obtain ⟨f, hf, _⟩ := use_lt hu
    exact (shows1 og ok hf).symm
  rw [e1]
  cases h1 : (Vaaclf.usesOf g.kind fs).find? fun u => Vaaclf.shows n fs g [u] with
  | some u =>
    simp only [Option.map_some, List.map_cons, List.map_nil, toUse_ofUse]
  | none =>
    simp only [Option.map_none]
    rw [List.map_findSome?]
    refine findSome_map (ofUse fs) _ _ _ fun u hu => ?_
    obtain ⟨f, hf, _⟩ := use_lt hu
    simp only [Function.comp]
    unfold mSingle
    rw [List.filter_map, find_map (ofUse fs) _ (fun v => Vaaclf.shows n fs g [u, v])]
    · rw [find_and]
      rw [Option.map_map, Option.map_map]
      have e2 : (Vaaclf.usesOf g.kind fs).find? (fun x => (fun v => decide ((ofUse fs u).place < v.place)) (ofUse fs x) && Vaaclf.shows n fs g [u, x]) = (Vaaclf.usesOf g.kind fs).find? fun v => decide (u.fact < v.fact) && Vaaclf.shows n fs g [u, v] := by
        refine find_congr fun v _ => ?_
        have p1 : (ofUse fs u).place = u.fact := congrArg Use.fact (toUse_ofUse fs u)
        have p2 : (ofUse fs v).place = v.fact := congrArg Use.fact (toUse_ofUse fs v)
        simp only [p1, p2]
      rw [show ((fun v => decide ((ofUse fs u).place < v.place)) ∘ ofUse fs) = fun x => (fun v => decide ((ofUse fs u).place < v.place)) (ofUse fs x) from rfl, e2]
      congr 1
      funext v
      show [toUse (ofUse fs u), toUse (ofUse fs v)] = [u, v]
      rw [toUse_ofUse, toUse_ofUse]
    · intro v hv
      obtain ⟨f', hf', _⟩ := use_lt (List.mem_filter.mp hv).1
      exact (shows2 og ok hf hf').symm
end
end Lc
end
section
set_option linter.all false
namespace Lc
open Vaaclf (Fact Kind Use Claim)
open VaaclBase (Given Move Test Branch Loop Values)
theorem foldl_sum : ∀ (l : List Int) (a : Int), l.foldl (fun x y => x + y) a = a + l.sum
  | [], a => by simp
  | b :: l, a => by rw [List.foldl_cons, foldl_sum l, List.sum_cons]; omega
def fHolds (f : F) (vs : List Int) : Bool :=
  if f.k = 0 then decide (((f.ts.zip vs).map fun x => x.1 * x.2).sum ≤ f.c) else if f.k = 1 then ((f.ts.zip vs).map fun x => x.1 * x.2).sum == f.c else ((f.ts.zip vs).map fun x => x.1 * x.2).sum % f.d == f.c
theorem fHolds_eq (f : Fact) (vs : List Int) : fHolds (mF f) vs = Vaaclf.holds vs f := by
  have e : Vaaclf.sumOf f.times vs = ((f.times.zip vs).map fun x => x.1 * x.2).sum := by
    unfold Vaaclf.sumOf
    rw [foldl_sum, Int.zero_add]
  unfold Vaaclf.holds
  rw [e]
  obtain ⟨ft, fk⟩ := f
  cases fk <;> rfl
def aStep (st : List Int × Int) (x : Int × Given) : List Int × Int :=
  (match x.2.source with | some j => st.1.set j (st.1.getD j 0 + x.1) | none => st.1, st.2 - x.1 * x.2.add)
def mAhead (mv : Move) (f : F) : F :=
  let st := (f.ts.zip mv).foldl aStep (List.replicate mv.length 0, f.c)
  ⟨st.1, f.k, f.d, if f.k = 2 then st.2 % f.d else st.2⟩
theorem aStep_len (st : List Int × Int) (x : Int × Given) : (aStep st x).1.length = st.1.length := by
  unfold aStep
  split <;> simp
theorem aFold_len : ∀ (L : List (Int × Given)) (st : List Int × Int), (L.foldl aStep st).1.length = st.1.length
  | [], _ => rfl
  | x :: L, st => by rw [List.foldl_cons, aFold_len L, aStep_len]
theorem aFold_num : ∀ (L : List (Int × Given)) (st : List Int × Int), (L.foldl aStep st).2 = st.2 - (L.map fun x => x.1 * x.2.add).sum
  | [], st => by simp
  | x :: L, st => by
    rw [List.foldl_cons, aFold_num L, List.map_cons, List.sum_cons]
    show st.2 - x.1 * x.2.add - _ = _
    omega
theorem getD_set (l : List Int) (i j : Nat) (v : Int) (h : i < l.length) : (l.set i v).getD j 0 = if i = j then v else l.getD j 0 := by
  rw [List.getD_eq_getElem?_getD, List.getElem?_set]
  by_cases e : i = j
  · subst e
    simp [h]
  · simp [e, List.getD_eq_getElem?_getD]
theorem aFold_at : ∀ (L : List (Int × Given)) (st : List Int × Int), (∀ x ∈ L, ∀ j, x.2.source = some j → j < st.1.length) → ∀ j, (L.foldl aStep st).1.getD j 0 = st.1.getD j 0 + (L.map fun x => if x.2.source = some j then x.1 else 0).sum
  | [], st, _, j => by simp
  | x :: L, st, h, j => by
    rw [List.foldl_cons, aFold_at L _ (fun y hy i e => by rw [aStep_len]; exact h y (List.mem_cons_of_mem _ hy) i e), List.map_cons, List.sum_cons]
    have e : (aStep st x).1.getD j 0 = st.1.getD j 0 + if x.2.source = some j then x.1 else 0 := by
      unfold aStep
      cases q : x.2.source with
      | none => simp
      | some i =>
        simp only
        rw [getD_set _ _ _ _ (h x (List.mem_cons_self ..) i q)]
        by_cases z : i = j
        · subst z; simp
        · simp [z]
    rw [e]
    omega
theorem zip_swap {α β : Type} : ∀ (a : List α) (b : List β), a.zip b = (b.zip a).map fun x => (x.2, x.1)
  | [], b => by simp
  | _ :: _, [] => by simp
  | x :: a, y :: b => by rw [List.zip_cons_cons, List.zip_cons_cons, List.map_cons, zip_swap a b]
theorem sum_zero {α : Type} : ∀ l : List α, (l.map fun _ => (0 : Int)).sum = 0
  | [] => rfl
  | _ :: l => by rw [List.map_cons, List.sum_cons, sum_zero l]; rfl
def OkM (n : Nat) (mv : Move) : Prop := mv.length = n ∧ ∀ g ∈ mv, ∀ j, g.source = some j → j < n
theorem getD_ext {l l' : List Int} (hl : l.length = l'.length) (h : ∀ j, l.getD j 0 = l'.getD j 0) : l = l' := by
  apply List.ext_getElem hl
  intro i h1 h2
  have := h i
  rw [List.getD_eq_getElem?_getD, List.getD_eq_getElem?_getD, List.getElem?_eq_getElem h1, List.getElem?_eq_getElem h2] at this
  exact this
theorem getD_rep (n j : Nat) : (List.replicate n (0 : Int)).getD j 0 = 0 := by
  rw [List.getD_eq_getElem?_getD, List.getElem?_replicate]
  split <;> rfl
theorem mAhead_eq {n : Nat} {mv : Move} {f : Fact} (om : OkM n mv) (of : OkF n f) : mF (Vaaclf.ahead mv f) = mAhead mv (mF f) := by
  have hsrc : ∀ x ∈ f.times.zip mv, ∀ j, x.2.source = some j → j < (List.replicate mv.length (0 : Int)).length := fun x hx j e => by
    rw [List.length_replicate, om.1]
    exact om.2 x.2 (List.of_mem_zip hx).2 j e
  have e1 : (List.range mv.length).map (Vaaclf.timesOf mv f.times) = ((f.times.zip mv).foldl aStep (List.replicate mv.length 0, (mF f).c)).1 := by
    refine getD_ext ?_ fun j => ?_
    · rw [aFold_len]
      simp
    · rw [aFold_at _ _ hsrc, getD_rep, Int.zero_add]
      by_cases hj : j < mv.length
      · rw [List.getD_eq_getElem?_getD, List.getElem?_map, List.getElem?_range hj]
        show Vaaclf.timesOf mv f.times j = _
        unfold Vaaclf.timesOf
        rw [foldl_sum, Int.zero_add, zip_swap f.times mv, List.map_map]
        rfl
      · rw [List.getD_eq_getElem?_getD, List.getElem?_eq_none (by simpa using hj)]
        have z : ((f.times.zip mv).map fun x => if x.2.source = some j then x.1 else 0) = (f.times.zip mv).map fun _ => (0 : Int) := by
          refine List.map_congr_left fun x hx => ?_
          rw [if_neg]
          intro q
          have := hsrc x hx j q
          rw [List.length_replicate] at this
          omega
        rw [z, sum_zero]
        rfl
  have e2 : (mF f).c - Vaaclf.addOf mv f.times = ((f.times.zip mv).foldl aStep (List.replicate mv.length 0, (mF f).c)).2 := by
    rw [aFold_num]
    unfold Vaaclf.addOf
    rw [foldl_sum, Int.zero_add, zip_swap f.times mv, List.map_map]
    rfl
  unfold mAhead
  rw [mF_ts]
  simp only
  rw [← e1, ← e2]
  obtain ⟨ft, fk⟩ := f
  cases fk with
  | atMost c => rfl
  | equal c => rfl
  | rem m r =>
    have hr : r < m := of.2
    show F.mk _ 2 (m : Int) ((((r : Int) - Vaaclf.addOf mv ft) % (m : Int)).toNat : Int) = F.mk _ 2 (m : Int) (if (2 : Int) = 2 then ((r : Int) - Vaaclf.addOf mv ft) % (m : Int) else _)
    rw [if_pos rfl, Int.toNat_of_nonneg (Int.emod_nonneg _ (by omega))]
    rfl
theorem ahead_ok {n : Nat} {mv : Move} {f : Fact} (om : OkM n mv) (of : OkF n f) : OkF n (Vaaclf.ahead mv f) := by
  refine ⟨by show ((List.range mv.length).map _).length = n; rw [List.length_map, List.length_range]; exact om.1, ?_⟩
  obtain ⟨ft, fk⟩ := f
  cases fk with
  | atMost c => trivial
  | equal c => trivial
  | rem m r =>
    have hr : r < m := of.2
    show (((r : Int) - Vaaclf.addOf mv ft) % (m : Int)).toNat < m
    have := Int.emod_lt_of_pos ((r : Int) - Vaaclf.addOf mv ft) (show (0 : Int) < m by omega)
    have := Int.emod_nonneg ((r : Int) - Vaaclf.addOf mv ft) (show (m : Int) ≠ 0 by omega)
    omega
theorem unit_set (n i : Nat) (v : Int) : Vaaclf.unit_ n i v = (List.replicate n (0 : Int)).set i v := by
  apply List.ext_getElem
  · simp [Vaaclf.unit_]
  · intro j h1 h2
    have hj : j < n := by simpa [Vaaclf.unit_] using h1
    rw [List.getElem_set]
    simp [Vaaclf.unit_, eq_comm]
theorem unit_length (n i : Nat) (v : Int) : (Vaaclf.unit_ n i v).length = n := by simp [Vaaclf.unit_]
theorem unit_getD (n i j : Nat) (v : Int) (hj : j < n) : (Vaaclf.unit_ n i v).getD j 0 = if j = i then v else 0 := by
  unfold Vaaclf.unit_
  rw [List.getD_eq_getElem?_getD, List.getElem?_map, List.getElem?_range hj]
  rfl
theorem plus_getD (a b : List Int) (j : Nat) (h1 : j < a.length) (h2 : j < b.length) : (Vaaclf.plus a b).getD j 0 = a.getD j 0 + b.getD j 0 := by
  rw [plus_eq, List.getD_eq_getElem?_getD, List.getD_eq_getElem?_getD, List.getD_eq_getElem?_getD, List.getElem?_zipWith, List.getElem?_eq_getElem h1, List.getElem?_eq_getElem h2]
  rfl
theorem below_set (n x y : Nat) (hx : x < n) (hy : y < n) : Vaaclf.plus (Vaaclf.unit_ n x 1) (Vaaclf.unit_ n y (-1)) = (Vaaclf.unit_ n x 1).set y ((Vaaclf.unit_ n x 1).getD y 0 - 1) := by
  refine getD_ext ?_ fun j => ?_
  · rw [plus_len (unit_length ..) (unit_length ..), List.length_set, unit_length]
  · by_cases hj : j < n
    · rw [plus_getD _ _ _ (by rw [unit_length]; exact hj) (by rw [unit_length]; exact hj), getD_set _ _ _ _ (by rw [unit_length]; exact hy), unit_getD _ _ _ _ hj, unit_getD _ _ _ _ hj]
      by_cases e : y = j
      · subst e
        rw [if_pos rfl, if_pos rfl, unit_getD _ _ _ _ hj]
        omega
      · rw [if_neg (show ¬ j = y from fun q => e q.symm), if_neg (show ¬ y = j from e)]
        omega
    · rw [List.getD_eq_getElem?_getD, List.getD_eq_getElem?_getD, List.getElem?_eq_none, List.getElem?_eq_none]
      · rw [List.length_set, unit_length]; omega
      · rw [plus_len (unit_length ..) (unit_length ..)]; omega
def mContrary (f : F) : F := ⟨f.ts.map (fun z => -z), 0, 0, -f.c - 1⟩
theorem unit_neg (n i : Nat) (v : Int) : (Vaaclf.unit_ n i v).map (fun z => -z) = Vaaclf.unit_ n i (-v) := by
  unfold Vaaclf.unit_
  rw [List.map_map]
  refine List.map_congr_left fun j _ => ?_
  show -(if j = i then v else 0) = if j = i then -v else 0
  split <;> simp
theorem plus_neg : ∀ (a b : List Int), (Vaaclf.plus a b).map (fun z => -z) = Vaaclf.plus (a.map fun z => -z) (b.map fun z => -z)
  | [], _ => by simp [plus_eq]
  | _ :: _, [] => by simp [plus_eq]
  | x :: a, y :: b => by
    have ih := plus_neg a b
    rw [plus_eq, plus_eq] at ih ⊢
    simp only [List.map_cons, List.zipWith_cons_cons]
    rw [ih]
    congr 1
    omega
def isRem : Test → Bool
  | .rem _ _ _ => true
  | _ => false
theorem notTest_eq (n : Nat) (t : Test) : (Vaaclf.notTest n t).map mF = if isRem t then none else some (mContrary (mF (Vaaclf.ofTest n t))) := by
  cases t with
  | atMost x c =>
    show some (F.mk (Vaaclf.unit_ n x (-1)) 0 0 (0 - c - 1)) = some (F.mk ((Vaaclf.unit_ n x 1).map _) 0 0 (-c - 1))
    rw [unit_neg, Int.zero_sub]
  | atLeast x c =>
    show some (F.mk (Vaaclf.unit_ n x 1) 0 0 (c - 1)) = some (F.mk ((Vaaclf.unit_ n x (-1)).map _) 0 0 (-(0 - c) - 1))
    rw [unit_neg, Int.zero_sub, Int.neg_neg, Int.neg_neg]
  | below x y c =>
    show some (F.mk (Vaaclf.plus _ _) 0 0 (0 - c - 1)) = some (F.mk ((Vaaclf.plus _ _).map _) 0 0 (-c - 1))
    rw [plus_neg, unit_neg, unit_neg, Int.zero_sub, Int.neg_neg]
  | rem x m r => rfl
theorem isRem_k (n : Nat) (t : Test) : (mF (Vaaclf.ofTest n t)).k = 2 ↔ isRem t = true := by
  cases t
  · show (0 : Int) = 2 ↔ false = true; simp
  · show (0 : Int) = 2 ↔ false = true; simp
  · show (0 : Int) = 2 ↔ false = true; simp
  · show (2 : Int) = 2 ↔ true = true; simp
def OkT (n : Nat) (t : Test) : Prop := VaaclBase.okTest n t = true
theorem ofTest_ok {n : Nat} {t : Test} (h : OkT n t) : OkF n (Vaaclf.ofTest n t) := by
  cases t with
  | atMost x c => exact ⟨unit_length .., trivial⟩
  | atLeast x c => exact ⟨unit_length .., trivial⟩
  | below x y c => exact ⟨plus_len (unit_length ..) (unit_length ..), trivial⟩
  | rem x m r =>
    refine ⟨unit_length .., ?_⟩
    have h : (decide (x < n) && (VaaclBase.MODULI.contains m && decide (r < m))) = true := h
    simp at h
    exact h.2.2
theorem notTest_ok {n : Nat} {t : Test} {f : Fact} (h : Vaaclf.notTest n t = some f) : OkF n f := by
  cases t with
  | atMost x c => cases h; exact ⟨unit_length .., trivial⟩
  | atLeast x c => cases h; exact ⟨unit_length .., trivial⟩
  | below x y c => cases h; exact ⟨plus_len (unit_length ..) (unit_length ..), trivial⟩
  | rem x m r => cases h
def OkB (n : Nat) (b : Branch) : Prop := (∀ t ∈ b.guard, OkT n t) ∧ b.guard.length ≤ 3 ∧ OkM n b.move ∧ ∀ g ∈ b.move, -99 ≤ g.add ∧ g.add ≤ 99
structure OkL (n : Nat) (l : Loop) : Prop where
  pos : 1 ≤ n
  lt : n ≤ 4
  len : l.length ≤ 3
  all : ∀ b ∈ l, OkB n b
structure OkC (n : Nat) (c : Claim) : Prop where
  len : c.length ≤ 6
  all : ∀ f ∈ c, OkF n f
  small : ∀ f ∈ c, ∀ t ∈ f.times, -5 ≤ t ∧ t ≤ 5
def mWhere (n : Nat) (b : Branch) : List F := match b.guard with
  | [t] => if isRem t then [] else [mContrary (mF (Vaaclf.ofTest n t))]
  | _ => []
theorem mWhere_eq (n : Nat) (b : Branch) : mWhere n b = ((Vaaclf.notBranch n b).map mF).toList := by
  obtain ⟨gd, mv⟩ := b
  match gd with
  | [] => rfl
  | [t] =>
    show (if isRem t then [] else [mContrary (mF (Vaaclf.ofTest n t))]) = ((Vaaclf.notTest n t).map mF).toList
    rw [notTest_eq]
    split <;> rfl
  | _ :: _ :: _ => rfl
theorem filterMap_flat {α β γ : Type} (f : α → Option β) (g : β → γ) : ∀ l : List α, (l.filterMap f).map g = l.flatMap fun x => ((f x).map g).toList
  | [] => rfl
  | a :: l => by
    rw [List.filterMap_cons, List.flatMap_cons, ← filterMap_flat f g l]
    cases f a <;> rfl
def mUsable (l : Loop) (n : Nat) (c : List F) (b : Nat) : List F := c ++ (VaaclBase.branchAt l b).guard.map (fun t => mF (Vaaclf.ofTest n t)) ++ (l.take b).flatMap (mWhere n)
theorem mUsable_eq (l : Loop) (n : Nat) (c : Claim) (b : Nat) : (Vaaclf.usable l n c b).map mF = mUsable l n (c.map mF) b := by
  unfold Vaaclf.usable mUsable
  rw [List.map_append, List.map_append, List.map_map, List.append_assoc, filterMap_flat]
  congr 2
  refine flatMap_congr _ fun x _ => (mWhere_eq n x).symm
theorem branchAt_ok {n : Nat} {l : Loop} (ol : OkL n l) {b : Nat} (h : b < l.length) : OkB n (VaaclBase.branchAt l b) := by
  unfold VaaclBase.branchAt
  rw [List.getElem?_eq_getElem h]
  exact ol.all _ (List.getElem_mem h)
theorem usable_ok {n : Nat} {l : Loop} {c : Claim} (ol : OkL n l) (oc : ∀ f ∈ c, OkF n f) {b : Nat} (h : b < l.length) : ∀ f ∈ Vaaclf.usable l n c b, OkF n f := by
  intro f hf
  unfold Vaaclf.usable at hf
  rcases List.mem_append.mp hf with hf | hf
  · exact oc f hf
  rcases List.mem_append.mp hf with hf | hf
  · obtain ⟨t, ht, rfl⟩ := List.mem_map.mp hf
    exact ofTest_ok ((branchAt_ok ol h).1 t ht)
  · obtain ⟨x, hx, e⟩ := List.mem_filterMap.mp hf
    unfold Vaaclf.notBranch at e
    split at e
    · exact notTest_ok e
    · cases e
def mKeeps (l : Loop) (n : Nat) (c : List F) (b : Nat) (f : F) : Option (List U) := mFirst (mAhead (VaaclBase.branchAt l b).move f) (mUsable l n c b)
theorem mKeeps_eq {n : Nat} {l : Loop} {c : Claim} (ol : OkL n l) (oc : ∀ f ∈ c, OkF n f) {b : Nat} (h : b < l.length) {f : Fact} (of : OkF n f) :
    (mKeeps l n (c.map mF) b (mF f)).map (List.map toUse) = Vaaclf.keepsBy l n c b f := by
  unfold mKeeps Vaaclf.keepsBy
  have ob := branchAt_ok ol h
  rw [← mAhead_eq ob.2.2.1 of, ← mUsable_eq]
  exact first_eq (ahead_ok ob.2.2.1 of) (usable_ok ol oc h)
theorem keeps_some {n : Nat} {l : Loop} {c : Claim} (ol : OkL n l) (oc : ∀ f ∈ c, OkF n f) {b : Nat} (h : b < l.length) {f : Fact} (of : OkF n f) :
    (mKeeps l n (c.map mF) b (mF f)).isSome = (Vaaclf.keepsBy l n c b f).isSome := by
  rw [← mKeeps_eq ol oc h of]
  cases mKeeps l n (c.map mF) b (mF f) <;> rfl
def keepAll (l : Loop) (n : Nat) (c : Claim) (f : Fact) : Bool := (List.range l.length).all fun b => (Vaaclf.keepsBy l n c b f).isSome
theorem bad_iff (l : Loop) (n : Nat) (c : Claim) (i : Nat) : ((Vaaclf.opens l n c).map fun o => o.fact).contains i = true ↔ ∃ f, c[i]? = some f ∧ keepAll l n c f = false := by
  unfold Vaaclf.opens keepAll
  simp only [List.contains_iff_mem, List.mem_map, List.mem_flatMap, List.mem_range, List.mem_filter]
  constructor
  · rintro ⟨o, ⟨b, hb, x, ⟨hx, hn⟩, rfl⟩, rfl⟩
    obtain ⟨_, h⟩ := zipIdx_get c 0 x hx
    rw [Nat.sub_zero] at h
    refine ⟨x.1, h, ?_⟩
    rw [List.all_eq_false]
    refine ⟨b, List.mem_range.mpr hb, ?_⟩
    cases q : Vaaclf.keepsBy l n c b x.1 with
    | none => simp
    | some v => rw [q] at hn; cases hn
  · rintro ⟨f, hf, hk⟩
    rw [List.all_eq_false] at hk
    obtain ⟨b, hb, hk⟩ := hk
    refine ⟨⟨b, i⟩, ⟨b, List.mem_range.mp hb, (f, i), ⟨?_, ?_⟩, rfl⟩, rfl⟩
    · rw [List.mem_zipIdx_iff_getElem?]
      exact hf
    · cases q : Vaaclf.keepsBy l n c b f with
      | none => rfl
      | some v => rw [q] at hk; simp at hk
theorem zip_filter {α : Type} (p : α → Bool) (q : Nat → Bool) : ∀ (l : List α) (k : Nat), (∀ x ∈ l.zipIdx k, q x.2 = p x.1) → ((l.zipIdx k).filter fun x => q x.2).map (fun x => x.1) = l.filter p
  | [], k, _ => rfl
  | a :: l, k, h => by
    rw [List.zipIdx_cons] at h ⊢
    have h0 := h (a, k) (List.mem_cons_self ..)
    simp only at h0
    have ih := zip_filter p q l (k + 1) fun x hx => h x (List.mem_cons_of_mem _ hx)
    rw [List.filter_cons, List.filter_cons]
    simp only [h0]
    cases p a with
    | true => simp only [if_true, List.map_cons, ih]
    | false => simp only [Bool.false_eq_true, if_false, ih]
def tStep (l : Loop) (n : Nat) (c : List (Fact × Nat)) : List (Fact × Nat) := c.filter fun x => keepAll l n (c.map fun y => y.1) x.1
theorem trim_aux {c : List (Fact × Nat)} {bad : List Nat} {p : Fact → Bool} (hbad : ∀ i, bad.contains i = true ↔ ∃ f, (c.map fun y => y.1)[i]? = some f ∧ p f = false) :
    (c.zipIdx.filter fun x => !bad.contains x.2).map (fun x => x.1) = c.filter (fun x => p x.1) ∧ (bad.isEmpty = true ↔ c.filter (fun x => p x.1) = c) := by
  refine ⟨zip_filter (fun x => p x.1) (fun i => !bad.contains i) c 0 fun x hx => ?_, fun q => ?_, fun e => ?_⟩
  · obtain ⟨_, h⟩ := zipIdx_get c 0 x hx
    rw [Nat.sub_zero] at h
    have hm : (c.map fun y => y.1)[x.2]? = some x.1.1 := by simp [h]
    cases q : p x.1.1 with
    | false =>
      have z := (hbad x.2).mpr ⟨_, hm, q⟩
      simp only [z, Bool.not_true]
    | true =>
      cases z : bad.contains x.2 with
      | false => rfl
      | true =>
        obtain ⟨f, hf, hk⟩ := (hbad x.2).mp z
        rw [hm] at hf
        cases hf
        rw [q] at hk
        cases hk
  · have q : bad = [] := List.isEmpty_iff.mp q
    rw [List.filter_eq_self]
    intro x hx
    cases z : p x.1 with
    | true => rfl
    | false =>
      obtain ⟨i, hi, ei⟩ := List.getElem_of_mem hx
      have := (hbad i).mpr ⟨x.1, by simp [List.getElem?_eq_getElem hi, ei], z⟩
      rw [q] at this
      simp at this
  · rw [List.isEmpty_iff]
    apply Classical.byContradiction
    intro q
    obtain ⟨i, hi⟩ := List.exists_mem_of_ne_nil _ q
    obtain ⟨f, hf, hk⟩ := (hbad i).mp (List.contains_iff_mem.mpr hi)
    rw [List.getElem?_map] at hf
    cases hc : c[i]? with
    | none => rw [hc] at hf; cases hf
    | some x =>
      rw [hc] at hf
      cases hf
      have hx : x ∈ c.filter (fun x => p x.1) := by rw [e]; exact List.mem_of_getElem? hc
      have := (List.mem_filter.mp hx).2
      rw [hk] at this
      cases this
theorem trim_step (l : Loop) (n k : Nat) (c : List (Fact × Nat)) : Vaaclf.trimFrom l n (k + 1) c = if tStep l n c = c then c else Vaaclf.trimFrom l n k (tStep l n c) := by
  obtain ⟨h1, h2⟩ := trim_aux (c := c) (p := keepAll l n (c.map fun y => y.1)) fun i => bad_iff l n (c.map fun y => y.1) i
  conv => lhs; unfold Vaaclf.trimFrom
  simp only
  unfold tStep
  rw [h1]
  by_cases e : c.filter (fun x => keepAll l n (c.map fun y => y.1) x.1) = c
  · rw [if_pos e, if_pos (h2.mpr e)]
  · rw [if_neg e, if_neg (fun q => e (h2.mp q))]
theorem tStep_lt {l : Loop} {n : Nat} {c : List (Fact × Nat)} (h : ¬ tStep l n c = c) : (tStep l n c).length < c.length := by
  have h1 : (tStep l n c).length ≤ c.length := List.length_filter_le ..
  rcases Nat.lt_or_ge (tStep l n c).length c.length with q | q
  · exact q
  · exfalso
    apply h
    exact List.Sublist.eq_of_length (List.filter_sublist ..) (by unfold tStep at h1 q ⊢; omega)
theorem trim_more (l : Loop) (n : Nat) : ∀ (k : Nat) (c : List (Fact × Nat)), c.length ≤ k → Vaaclf.trimFrom l n k c = Vaaclf.trimFrom l n c.length c
  | 0, c, h => by
    have : c = [] := List.length_eq_zero_iff.mp (by omega)
    subst this
    rfl
  | k + 1, c, h => by
    rw [trim_step]
    cases c with
    | nil => rfl
    | cons x c =>
      rw [List.length_cons, trim_step]
      by_cases e : tStep l n (x :: c) = x :: c
      · rw [if_pos e, if_pos e]
      · rw [if_neg e, if_neg e]
        have := tStep_lt e
        rw [List.length_cons] at this h
        rw [trim_more l n k _ (by omega), trim_more l n c.length _ (by omega)]
  termination_by k => k
end Lc
end
section
set_option linter.all false
namespace Lc
open Vaaclf (Fact Kind Use Claim)
open VaaclBase (Reader Given Move Test Branch Loop Values readInt readTimes whole)
theorem times_all {A : Type} {a : Reader A} {P : A → Prop} (h : ∀ x u, a x = some u → P u.1) : ∀ (k : Nat) (x : List Int) (u : List A × List Int), readTimes a k x = some u → ∀ v ∈ u.1, P v
  | 0, x, u, e, v, hv => by cases e; cases hv
  | k + 1, x, u, e, v, hv => by
    unfold readTimes at e
    cases e1 : a x with
    | none => rw [e1] at e; cases e
    | some w =>
      rw [e1] at e
      simp only [Option.bind_some] at e
      cases e2 : readTimes a k w.2 with
      | none => rw [e2] at e; cases e
      | some t =>
        rw [e2] at e
        cases e
        rcases List.mem_cons.mp hv with rfl | hv
        · exact h _ _ e1
        · exact times_all h k _ _ e2 v hv
theorem bindR_some {A B : Type} {a : Reader A} {f : A → Reader B} {x : List Int} {u : B × List Int} (h : bindR a f x = some u) : ∃ v, a x = some v ∧ f v.1 v.2 = some u := by
  unfold bindR at h
  cases e : a x with
  | none => rw [e] at h; cases h
  | some v => rw [e] at h; exact ⟨v, rfl, h⟩
theorem testR_ok {n : Nat} (hn : 1 ≤ n) (x : List Int) (u : Test × List Int) (h : testR n x = some u) : OkT n u.1 := by
  rw [testR_eq hn] at h
  unfold VaaclBase.readTest at h
  have got : ∀ (o : Option (Test × List Int)), (o.bind fun u => if VaaclBase.okTest n u.1 then some u else none) = some u → OkT n u.1 := fun o q => by
    cases o with
    | none => cases q
    | some v =>
      simp only [Option.bind_some] at q
      split at q
      · rename_i z
        cases q
        exact z
      · cases q
  simp only at h
  split at h
  · exact got _ h
  · exact got _ h
  · exact got _ h
  · exact got _ h
  · cases h
theorem givenR_ok {n : Nat} (hn : 1 ≤ n) (x : List Int) (u : Given × List Int) (h : givenR n x = some u) : (∀ j, u.1.source = some j → j < n) ∧ -99 ≤ u.1.add ∧ u.1.add ≤ 99 := by
  obtain ⟨k, _, h⟩ := bindR_some h
  split at h
  · obtain ⟨c, hc, h⟩ := bindR_some h
    obtain ⟨z, hz, h⟩ := bindR_some h
    cases h
    obtain ⟨_, c1, c2⟩ := readInt_some hc
    obtain ⟨_, z1, z2⟩ := readInt_some hz
    exact ⟨fun j e => by cases e; omega, z1, z2⟩
  · obtain ⟨z, hz, h⟩ := bindR_some h
    cases h
    obtain ⟨_, z1, z2⟩ := readInt_some hz
    exact ⟨(fun j e => by cases e), z1, z2⟩
theorem branchR_ok {n : Nat} (hn : 1 ≤ n) (x : List Int) (u : Branch × List Int) (h : branchR n x = some u) : OkB n u.1 := by
  obtain ⟨k, hk, h⟩ := bindR_some h
  obtain ⟨ts, ht, h⟩ := bindR_some h
  obtain ⟨mv, hm, h⟩ := bindR_some h
  cases h
  obtain ⟨_, k1, k2⟩ := readInt_some hk
  have gm := times_all (P := fun g : Given => (∀ j, g.source = some j → j < n) ∧ -99 ≤ g.add ∧ g.add ≤ 99) (givenR_ok hn) _ _ _ hm
  refine ⟨times_all (P := OkT n) (testR_ok hn) _ _ _ ht, ?_, ⟨times_len _ _ _ _ hm, fun g hg => (gm g hg).1⟩, fun g hg => (gm g hg).2⟩
  show ts.1.length ≤ 3
  rw [times_len _ _ _ _ ht]
  omega
theorem loopR_ok {n : Nat} (hn : 1 ≤ n) (h4 : n ≤ 4) (x : List Int) (u : Loop × List Int) (h : loopR n x = some u) : OkL n u.1 := by
  obtain ⟨k, hk, h⟩ := bindR_some h
  obtain ⟨_, k1, k2⟩ := readInt_some hk
  exact ⟨hn, h4, by rw [times_len _ _ _ _ h]; omega, times_all (P := OkB n) (branchR_ok hn) _ _ _ h⟩
theorem remR_ok (x : List Int) (u : (Int × Int) × List Int) (h : remR x = some u) : 0 < u.1.1 ∧ 0 ≤ u.1.2 ∧ u.1.2 < u.1.1 := by
  obtain ⟨d, _, h⟩ := bindR_some h
  split at h
  · rename_i q
    obtain ⟨r, hr, h⟩ := bindR_some h
    cases h
    obtain ⟨_, r1, r2⟩ := readInt_some hr
    exact ⟨by show 0 < d.1; omega, r1, by show r.1 < d.1; omega⟩
  · cases h
theorem factR_ok (n : Nat) (x : List Int) (u : Fact × List Int) (h : factR n x = some u) : OkF n u.1 ∧ ∀ t ∈ u.1.times, -5 ≤ t ∧ t ≤ 5 := by
  obtain ⟨ts, ht, h⟩ := bindR_some h
  have hl := times_len _ _ _ _ ht
  have hs : ∀ t ∈ ts.1, -5 ≤ t ∧ t ≤ 5 := times_all (P := fun t => -5 ≤ t ∧ t ≤ 5) (fun x u e => (readInt_some e).2) _ _ _ ht
  obtain ⟨k, _, h⟩ := bindR_some h
  split at h
  · obtain ⟨q, hq, h⟩ := bindR_some h
    cases h
    have := remR_ok _ _ hq
    exact ⟨⟨hl, by show q.1.2.toNat < q.1.1.toNat; omega⟩, hs⟩
  · obtain ⟨z, hz, h⟩ := bindR_some h
    cases h
    refine ⟨⟨hl, ?_⟩, hs⟩
    split <;> first | trivial | (rename_i e; split at e <;> cases e)
theorem claimR_ok (n : Nat) (x : List Int) (u : Claim × List Int) (h : claimR n x = some u) : OkC n u.1 := by
  obtain ⟨k, hk, h⟩ := bindR_some h
  obtain ⟨_, k1, k2⟩ := readInt_some hk
  have gm := times_all (P := fun f : Fact => OkF n f ∧ ∀ t ∈ f.times, -5 ≤ t ∧ t ≤ 5) (factR_ok n) _ _ _ h
  exact ⟨by rw [times_len _ _ _ _ h]; omega, fun f hf => (gm f hf).1, fun f hf => (gm f hf).2⟩
end Lc
end
section
set_option linter.all false
namespace Lc
open Vaaclf (Fact Kind Use Claim)
open VaaclBase (Given Move Test Branch Loop Values valueAt)
def dot (ts vs : List Int) : Int := ((ts.zip vs).map fun x => x.1 * x.2).sum
theorem sumOf_dot (ts vs : List Int) : Vaaclf.sumOf ts vs = dot ts vs := by
  unfold Vaaclf.sumOf dot
  rw [foldl_sum, Int.zero_add]
theorem dot_cons (t v : Int) (ts vs : List Int) : dot (t :: ts) (v :: vs) = t * v + dot ts vs := by
  unfold dot
  rw [List.zip_cons_cons, List.map_cons, List.sum_cons]
theorem dot_rep : ∀ (n : Nat) (vs : List Int), dot (List.replicate n 0) vs = 0
  | 0, _ => rfl
  | n + 1, [] => by unfold dot; rw [List.zip_nil_right]; rfl
  | n + 1, v :: vs => by rw [List.replicate_succ, dot_cons, dot_rep n vs]; omega
theorem dot_set : ∀ (n : Nat) (vs : List Int) (i : Nat) (z : Int), i < n → n = vs.length → dot ((List.replicate n 0).set i z) vs = z * valueAt vs i
  | 0, _, i, z, h, _ => absurd h (Nat.not_lt_zero _)
  | n + 1, [], i, z, _, h => by simp at h
  | n + 1, v :: vs, 0, z, _, _ => by
    rw [List.replicate_succ, List.set_cons_zero, dot_cons, dot_rep]
    unfold valueAt
    simp
  | n + 1, v :: vs, i + 1, z, h, hl => by
    rw [List.replicate_succ, List.set_cons_succ, dot_cons, dot_set n vs i z (by omega) (by simpa using hl)]
    unfold valueAt
    simp
theorem dot_unit {n : Nat} {vs : List Int} (hl : vs.length = n) {i : Nat} (hi : i < n) (z : Int) : dot (Vaaclf.unit_ n i z) vs = z * valueAt vs i := by
  rw [unit_set]
  exact dot_set n vs i z hi hl.symm
theorem dot_plus : ∀ (a b vs : List Int), a.length = b.length → dot (Vaaclf.plus a b) vs = dot a vs + dot b vs
  | [], [], _, _ => rfl
  | [], _ :: _, _, h => by simp at h
  | _ :: _, [], _, h => by simp at h
  | x :: a, y :: b, [], _ => by unfold dot; simp
  | x :: a, y :: b, v :: vs, h => by
    have e : Vaaclf.plus (x :: a) (y :: b) = (x + y) :: Vaaclf.plus a b := rfl
    rw [e, dot_cons, dot_cons, dot_cons, dot_plus a b vs (by simpa using h), Int.add_mul]
    omega
theorem test_holds {n : Nat} {t : Test} (ok : OkT n t) {vs : List Int} (hl : vs.length = n) : fHolds (mF (Vaaclf.ofTest n t)) vs = VaaclBase.holds vs t := by
  rw [fHolds_eq]
  unfold Vaaclf.holds
  rw [sumOf_dot]
  unfold OkT VaaclBase.okTest at ok
  cases t with
  | atMost x c =>
    simp only [Bool.and_eq_true, decide_eq_true_eq] at ok
    show decide (dot (Vaaclf.unit_ n x 1) vs ≤ c) = decide (valueAt vs x ≤ c)
    rw [dot_unit hl ok.1, Int.one_mul]
  | atLeast x c =>
    simp only [Bool.and_eq_true, decide_eq_true_eq] at ok
    show decide (dot (Vaaclf.unit_ n x (-1)) vs ≤ 0 - c) = decide (c ≤ valueAt vs x)
    rw [dot_unit hl ok.1]
    exact decide_eq_decide.mpr (by omega)
  | below x y c =>
    simp only [Bool.and_eq_true, decide_eq_true_eq] at ok
    show decide (dot (Vaaclf.plus (Vaaclf.unit_ n x 1) (Vaaclf.unit_ n y (-1))) vs ≤ c) = decide (valueAt vs x ≤ valueAt vs y + c)
    rw [dot_plus _ _ _ (by rw [unit_length, unit_length]), dot_unit hl ok.1, dot_unit hl ok.2.1]
    exact decide_eq_decide.mpr (by omega)
  | rem x m r =>
    simp only [Bool.and_eq_true, decide_eq_true_eq] at ok
    show (dot (Vaaclf.unit_ n x 1) vs % (m : Int) == (r : Int)) = (valueAt vs x % (m : Int) == (r : Int))
    rw [dot_unit hl ok.1, Int.one_mul]
theorem unit_small {n i : Nat} {z : Int} (h1 : -1 ≤ z) (h2 : z ≤ 1) : ∀ t ∈ Vaaclf.unit_ n i z, -1 ≤ t ∧ t ≤ 1 := by
  intro t ht
  unfold Vaaclf.unit_ at ht
  obtain ⟨j, _, rfl⟩ := List.mem_map.mp ht
  split <;> omega
theorem plus_small {a b : List Int} (ha : ∀ t ∈ a, -1 ≤ t ∧ t ≤ 1) (hb : ∀ t ∈ b, -1 ≤ t ∧ t ≤ 1) : ∀ t ∈ Vaaclf.plus a b, -2 ≤ t ∧ t ≤ 2 := by
  intro t ht
  unfold Vaaclf.plus at ht
  obtain ⟨x, hx, rfl⟩ := List.mem_map.mp ht
  have := ha _ (List.of_mem_zip hx).1
  have := hb _ (List.of_mem_zip hx).2
  omega
theorem test_small (n : Nat) (t : Test) : ∀ z ∈ (mF (Vaaclf.ofTest n t)).ts, -5 ≤ z ∧ z ≤ 5 := by
  intro z hz
  rw [mF_ts] at hz
  cases t with
  | atMost x c => have := unit_small (by omega) (by omega) z hz; omega
  | atLeast x c => have := unit_small (by omega) (by omega) z hz; omega
  | below x y c => have := plus_small (unit_small (by omega) (by omega)) (unit_small (by omega) (by omega)) z hz; omega
  | rem x m r => have := unit_small (by omega) (by omega) z hz; omega
theorem all_idx {α : Type} (p : α → Bool) (l : List α) : (l.findIdx? fun x => !p x) = none ↔ l.all p = true := by
  rw [List.findIdx?_eq_none_iff, List.all_eq_true]
  simp
theorem guard_holds {n : Nat} {b : Branch} (ok : ∀ t ∈ b.guard, OkT n t) {vs : List Int} (hl : vs.length = n) : ((b.guard.map fun t => mF (Vaaclf.ofTest n t)).findIdx? fun f => !fHolds f vs) = none ↔ VaaclBase.allHold vs b.guard = true := by
  rw [all_idx, List.all_map]
  unfold VaaclBase.allHold
  rw [List.all_eq_true, List.all_eq_true]
  constructor
  · intro h t ht
    have := h t ht
    rw [← test_holds (ok t ht) hl]
    exact this
  · intro h t ht
    have := h t ht
    show fHolds _ _ = true
    rw [test_holds (ok t ht) hl]
    exact this
theorem chosen_lt {l : Loop} {s : Values} {i : Nat} (h : VaaclBase.chosen l s = some i) : i < l.length := by
  unfold VaaclBase.chosen at h
  rw [List.findIdx?_eq_some_iff_getElem] at h
  exact h.1
theorem moved_len (m : Move) (s : Values) : (VaaclBase.moved m s).length = m.length := by unfold VaaclBase.moved; rw [List.length_map]
theorem firstNot_eq (c : Claim) (s : Values) : ((c.map mF).findIdx? fun f => !fHolds f s) = Vaaclf.firstNot c s := by
  unfold Vaaclf.firstNot
  rw [List.findIdx?_map]
  congr 1
  funext f
  show (!fHolds (mF f) s) = _
  rw [fHolds_eq]
theorem firstNot_none (c : Claim) (s : Values) : Vaaclf.firstNot c s = none ↔ Vaaclf.allHold c s = true := by
  unfold Vaaclf.firstNot Vaaclf.allHold
  exact all_idx (Vaaclf.holds s) c
theorem beyond_eq (s : Values) : ((s.map fun v => decide (1000000000000 < if v < 0 then -v else v)).any id) = VaaclBase.isBeyond s := by
  unfold VaaclBase.isBeyond
  rw [List.any_map]
  congr 1
  funext v
  show decide (1000000000000 < if v < 0 then -v else v) = (decide (v < -VaaclBase.NUMBER) || decide (VaaclBase.NUMBER < v))
  have e : VaaclBase.NUMBER = 1000000000000 := rfl
  rw [e, Bool.eq_iff_iff]
  simp only [Bool.or_eq_true, decide_eq_true_eq]
  split <;> omega
def mRows (lo : Int) (m : Nat) : Nat → List Values
  | 0 => [[]]
  | n + 1 => (mRows lo m n).flatMap fun row => (List.range m).map fun (k : Nat) => row ++ [lo + (k : Int)]
theorem mRows_cons (lo : Int) (m : Nat) : ∀ n, mRows lo m (n + 1) = (List.range m).flatMap fun (k : Nat) => (mRows lo m n).map fun r => (lo + (k : Int)) :: r
  | 0 => by
    show [[]].flatMap _ = _
    rw [List.flatMap_cons, List.flatMap_nil, List.append_nil]
    show List.map _ _ = (List.range m).flatMap fun (k : Nat) => [[lo + (k : Int)]]
    rw [List.map_eq_flatMap]
    rfl
  | n + 1 => by
    rw [show mRows lo m (n + 1 + 1) = (mRows lo m (n + 1)).flatMap fun row => (List.range m).map fun (k : Nat) => row ++ [lo + (k : Int)] from rfl]
    rw [mRows_cons lo m n, List.flatMap_assoc]
    refine flatMap_congr _ fun k _ => ?_
    rw [← mRows_cons lo m n, List.flatMap_map]
    rw [show mRows lo m (n + 1) = (mRows lo m n).flatMap fun row => (List.range m).map fun (k : Nat) => row ++ [lo + (k : Int)] from rfl]
    rw [List.map_flatMap]
    refine flatMap_congr _ fun r _ => ?_
    rw [List.map_map]
    rfl
theorem box_eq (lo hi : Int) : ∀ n, Vaaclf.box lo hi n = mRows lo (hi - lo + 1).toNat n
  | 0 => rfl
  | n + 1 => by
    rw [mRows_cons]
    unfold Vaaclf.box
    rw [box_eq lo hi n]
theorem flat_const {α β : Type} {g : α → List β} {m : Nat} : ∀ (l : List α), (∀ x ∈ l, (g x).length = m) → (l.flatMap g).length = l.length * m
  | [], _ => by simp
  | x :: l, h => by
    rw [List.flatMap_cons, List.length_append, h x (List.mem_cons_self ..), flat_const l (fun y hy => h y (List.mem_cons_of_mem _ hy)), List.length_cons, Nat.add_mul, Nat.one_mul]
    omega
theorem mRows_length (lo : Int) (m : Nat) : ∀ n, (mRows lo m n).length = m ^ n
  | 0 => rfl
  | n + 1 => by
    show ((mRows lo m n).flatMap _).length = _
    rw [flat_const (m := m) _ (fun x _ => by rw [List.length_map, List.length_range]), mRows_length lo m n, Nat.pow_succ]
theorem mRows_row (lo : Int) (m : Nat) : ∀ n, ∀ r ∈ mRows lo m n, r.length = n
  | 0, r, h => by
    rw [List.mem_singleton.mp h]
    rfl
  | n + 1, r, h => by
    obtain ⟨r', h1, h2⟩ := List.mem_flatMap.mp h
    obtain ⟨k, _, rfl⟩ := List.mem_map.mp h2
    rw [List.length_append, mRows_row lo m n r' h1]
    rfl
theorem fits_eq {lo hi : Int} (h : lo ≤ hi) {n : Nat} (hn : 1 ≤ n) : (!Vaaclf.boxFits lo hi n) = decide (125 < (hi - lo + 1) ^ n) := by
  unfold Vaaclf.boxFits
  have e : Vaaclf.BOX = 125 := rfl
  rw [e, Bool.eq_iff_iff]
  simp only [Bool.not_eq_true', Bool.and_eq_false_iff, decide_eq_false_iff_not, decide_eq_true_eq]
  have key : (hi - lo + 1) ≤ (hi - lo + 1) ^ n := by
    obtain ⟨m, rfl⟩ : ∃ m, n = m + 1 := ⟨n - 1, by omega⟩
    have h1 : (1 : Int) ≤ (hi - lo + 1) ^ m := by
      have := Int.pow_pos (n := hi - lo + 1) (m := m) (by omega)
      omega
    rw [Int.pow_succ]
    have := Int.mul_le_mul_of_nonneg_right h1 (show 0 ≤ hi - lo + 1 by omega)
    omega
  constructor
  · rintro (h | h) <;> omega
  · intro h
    exact .inr (by omega)
theorem pow_lt_of {lo hi : Int} {n : Nat} (h : lo ≤ hi) (hf : ¬ 125 < (hi - lo + 1) ^ n) : (hi - lo + 1).toNat ^ n ≤ 125 := by
  have e : (((hi - lo + 1).toNat : Nat) : Int) = hi - lo + 1 := Int.toNat_of_nonneg (by omega)
  have : (((hi - lo + 1).toNat ^ n : Nat) : Int) = (hi - lo + 1) ^ n := by
    rw [Int.natCast_pow, e]
  omega
def mEnd (n : Nat) (cs : List F) : Loop → Option (List F)
  | [] => some cs
  | b :: l => match mWhere n b with
    | [] => none
    | f :: r => mEnd n (cs ++ (f :: r)) l
theorem mEnd_eq (n : Nat) : ∀ (l : Loop) (c : List Fact), mEnd n (c.map mF) l = (Vaaclf.atEnd l n c).map (List.map mF)
  | [], c => by
    unfold mEnd Vaaclf.atEnd
    simp
  | b :: l, c => by
    have hw := mWhere_eq n b
    have e : Vaaclf.atEnd (b :: l) n c = (Vaaclf.notBranch n b).bind fun f => Vaaclf.atEnd l n (c ++ [f]) := by
      unfold Vaaclf.atEnd
      rw [List.foldr_cons]
      cases List.foldr (fun b (o : Option (List Fact)) => o.bind fun r => (Vaaclf.notBranch n b).map fun f => f :: r) (some []) l with
      | none => cases Vaaclf.notBranch n b <;> rfl
      | some r =>
        cases Vaaclf.notBranch n b with
        | none => rfl
        | some f => simp
    rw [e]
    unfold mEnd
    cases hb : Vaaclf.notBranch n b with
    | none =>
      rw [hb] at hw
      have hw : mWhere n b = [] := hw
      simp only [hw]
      rfl
    | some f =>
      rw [hb] at hw
      have hw : mWhere n b = [mF f] := hw
      simp only [hw]
      have := mEnd_eq n l (c ++ [f])
      rw [List.map_append] at this
      exact this
theorem atEnd_ok {n : Nat} {l : Loop} {c : Claim} (oc : ∀ f ∈ c, OkF n f) {fs : List Fact} (h : Vaaclf.atEnd l n c = some fs) : ∀ f ∈ fs, OkF n f := by
  unfold Vaaclf.atEnd at h
  obtain ⟨r, hr, rfl⟩ := Option.map_eq_some_iff.mp h
  have : ∀ (l : Loop) (r : List Fact), List.foldr (fun b (o : Option (List Fact)) => o.bind fun r => (Vaaclf.notBranch n b).map fun f => f :: r) (some []) l = some r → ∀ f ∈ r, OkF n f := by
    intro l
    induction l with
    | nil => intro r h f hf; cases h; cases hf
    | cons b l ih =>
      intro r h f hf
      rw [List.foldr_cons] at h
      obtain ⟨r', h1, h2⟩ := Option.bind_eq_some_iff.mp h
      obtain ⟨g, h3, rfl⟩ := Option.map_eq_some_iff.mp h2
      rcases List.mem_cons.mp hf with rfl | hf
      · unfold Vaaclf.notBranch at h3
        split at h3
        · exact notTest_ok h3
        · cases h3
      · exact ih r' h1 f hf
  intro f hf
  rcases List.mem_append.mp hf with hf | hf
  · exact oc f hf
  · exact this l r hr f hf
theorem atEnd_len {n : Nat} {l : Loop} {c : Claim} {fs : List Fact} (h : Vaaclf.atEnd l n c = some fs) : fs.length = c.length + l.length := by
  unfold Vaaclf.atEnd at h
  obtain ⟨r, hr, rfl⟩ := Option.map_eq_some_iff.mp h
  have : ∀ (l : Loop) (r : List Fact), List.foldr (fun b (o : Option (List Fact)) => o.bind fun r => (Vaaclf.notBranch n b).map fun f => f :: r) (some []) l = some r → r.length = l.length := by
    intro l
    induction l with
    | nil => intro r h; cases h; rfl
    | cons b l ih =>
      intro r h
      rw [List.foldr_cons] at h
      obtain ⟨r', h1, h2⟩ := Option.bind_eq_some_iff.mp h
      obtain ⟨g, h3, rfl⟩ := Option.map_eq_some_iff.mp h2
      rw [List.length_cons, List.length_cons, ih r' h1]
  rw [List.length_append, this l r hr]
def mTold (f : F) : List Int := if f.k = 2 then f.ts ++ [2, f.d, f.c] else f.ts ++ [f.k, f.c]
theorem mTold_eq (f : Fact) : mTold (mF f) = Vaaclf.flatFact f := by
  obtain ⟨ts, k⟩ := f
  cases k <;> rfl
theorem run_step (l : Loop) (n : Nat) (s : Values) (k : Nat) : VaaclBase.runLoop l n s k = match VaaclBase.chosen l s with
    | none => ⟨.over, s, k⟩
    | some i => match n with
      | 0 => ⟨.long, s, k⟩
      | m + 1 => if VaaclBase.isBeyond (VaaclBase.moved (VaaclBase.branchAt l i).move s) then ⟨.beyond, VaaclBase.moved (VaaclBase.branchAt l i).move s, k + 1⟩ else VaaclBase.runLoop l m (VaaclBase.moved (VaaclBase.branchAt l i).move s) (k + 1) := by
  cases n with
  | zero =>
    unfold VaaclBase.runLoop
    cases VaaclBase.chosen l s <;> rfl
  | succ m =>
    rw [VaaclBase.runLoop]
    cases VaaclBase.chosen l s <;> rfl
end Lc
end
section
set_option linter.all false
namespace Lc
def RowIs (l : List Int) (xs t : List Int) : Prop := ∃ (m : Nat) (rest : List Int), l = (m : Int) :: rest ∧ m ≤ rest.length ∧ xs = rest.take m ∧ t = rest.drop m
def CallAt (l : List Int) (t : List Int) : Vaaclf.Call → Prop
  | .loop n xs => ∃ r, l = 0 :: n :: r ∧ RowIs r xs t
  | .claim xs => ∃ r, l = 1 :: r ∧ RowIs r xs t
  | .holds xs => ∃ r, l = 2 :: r ∧ RowIs r xs t
  | .shown b f => l = 3 :: b :: f :: t
  | .check => l = 4 :: t
  | .trim => l = 5 :: t
  | .use => l = 6 :: t
  | .broken x y => l = 7 :: x :: y :: t
  | .goal xs => ∃ r, l = 8 :: r ∧ RowIs r xs t
  | .atEnd xs => ∃ r, l = 9 :: r ∧ RowIs r xs t
  | .run n xs => ∃ r, l = 10 :: n :: r ∧ RowIs r xs t
  | .ahead b f => l = 11 :: b :: f :: t
theorem row_is {l x s : List Int} (h : PyFlat.row l = some (x, s)) : RowIs l x s := by
  cases l with
  | nil => cases h
  | cons n r =>
    have h : (if 0 ≤ n ∧ n.toNat ≤ r.length then some (r.take n.toNat, r.drop n.toNat) else none) = some (x, s) := h
    by_cases q : 0 ≤ n ∧ n.toNat ≤ r.length
    · rw [if_pos q] at h
      cases h
      exact ⟨n.toNat, r, by rw [Int.toNat_of_nonneg q.1], q.2, rfl, rfl⟩
    · rw [if_neg q] at h
      cases h
theorem rows1 {l t : List Int} {xs : List (List Int)} (h : PyFlat.rows 1 l = some (xs, t)) : ∃ x, xs = [x] ∧ RowIs l x t := by
  unfold PyFlat.rows at h
  cases e : PyFlat.row l with
  | none => rw [e] at h; cases h
  | some u =>
    rw [e] at h
    cases h
    exact ⟨u.1, rfl, row_is e⟩
theorem call_of {p : Int} {r : List Int} {n k : Nat} {c : List (List Int)} {t : List Int} (hs : PyVaaclf.shape p = some (n, k)) (h : PyFlat.call PyVaaclf.shape (p :: r) = some (c, t)) : n ≤ r.length ∧ ∃ xs, PyFlat.rows k (r.drop n) = some (xs, t) ∧ c = (p :: r.take n) :: xs := by
  unfold PyFlat.call at h
  simp only [hs] at h
  split at h
  · cases h
  · rename_i q
    cases e : PyFlat.rows k (r.drop n) with
    | none => rw [e] at h; cases h
    | some u =>
      rw [e] at h
      cases h
      exact ⟨by omega, u.1, rfl, rfl⟩
theorem call_at {l t : List Int} {c : List (List Int)} (h : PyFlat.call PyVaaclf.shape l = some (c, t)) : ∃ k, VaaclfNeutral.callOf (PyVaaclf.whole c) = some k ∧ CallAt l t k := by
  cases l with
  | nil => cases h
  | cons p r =>
    have r10 : ∀ {xs t : List Int} {ys : List (List Int)} {r : List Int}, PyFlat.rows 0 r = some (ys, t) → ys = [] ∧ t = r := fun h => by
      cases h
      exact ⟨rfl, rfl⟩
    by_cases h0 : p = 0
    · subst h0
      obtain ⟨hn, xs, hr, rfl⟩ := call_of (n := 1) (k := 1) rfl h
      obtain ⟨x, rfl, hx⟩ := rows1 hr
      match r, hn, hx with
      | n :: r, _, hx => exact ⟨.loop n x, rfl, r, rfl, hx⟩
    by_cases h1 : p = 1
    · subst h1
      obtain ⟨hn, xs, hr, rfl⟩ := call_of (n := 0) (k := 1) rfl h
      obtain ⟨x, rfl, hx⟩ := rows1 hr
      exact ⟨.claim x, rfl, r, rfl, hx⟩
    by_cases h2 : p = 2
    · subst h2
      obtain ⟨hn, xs, hr, rfl⟩ := call_of (n := 0) (k := 1) rfl h
      obtain ⟨x, rfl, hx⟩ := rows1 hr
      exact ⟨.holds x, rfl, r, rfl, hx⟩
    by_cases h3 : p = 3
    · subst h3
      obtain ⟨hn, xs, hr, rfl⟩ := call_of (n := 2) (k := 0) rfl h
      cases hr
      match r, hn with
      | b :: f :: r, _ => exact ⟨.shown b f, rfl, rfl⟩
    by_cases h4 : p = 4
    · subst h4
      obtain ⟨hn, xs, hr, rfl⟩ := call_of (n := 0) (k := 0) rfl h
      cases hr
      exact ⟨.check, rfl, rfl⟩
    by_cases h5 : p = 5
    · subst h5
      obtain ⟨hn, xs, hr, rfl⟩ := call_of (n := 0) (k := 0) rfl h
      cases hr
      exact ⟨.trim, rfl, rfl⟩
    by_cases h6 : p = 6
    · subst h6
      obtain ⟨hn, xs, hr, rfl⟩ := call_of (n := 0) (k := 0) rfl h
      cases hr
      exact ⟨.use, rfl, rfl⟩
    by_cases h7 : p = 7
    · subst h7
      obtain ⟨hn, xs, hr, rfl⟩ := call_of (n := 2) (k := 0) rfl h
      cases hr
      match r, hn with
      | b :: f :: r, _ => exact ⟨.broken b f, rfl, rfl⟩
    by_cases h8 : p = 8
    · subst h8
      obtain ⟨hn, xs, hr, rfl⟩ := call_of (n := 0) (k := 1) rfl h
      obtain ⟨x, rfl, hx⟩ := rows1 hr
      exact ⟨.goal x, rfl, r, rfl, hx⟩
    by_cases h9 : p = 9
    · subst h9
      obtain ⟨hn, xs, hr, rfl⟩ := call_of (n := 0) (k := 1) rfl h
      obtain ⟨x, rfl, hx⟩ := rows1 hr
      exact ⟨.atEnd x, rfl, r, rfl, hx⟩
    by_cases h10 : p = 10
    · subst h10
      obtain ⟨hn, xs, hr, rfl⟩ := call_of (n := 1) (k := 1) rfl h
      obtain ⟨x, rfl, hx⟩ := rows1 hr
      match r, hn, hx with
      | n :: r, _, hx => exact ⟨.run n x, rfl, r, rfl, hx⟩
    by_cases h11 : p = 11
    · subst h11
      obtain ⟨hn, xs, hr, rfl⟩ := call_of (n := 2) (k := 0) rfl h
      cases hr
      match r, hn with
      | b :: f :: r, _ => exact ⟨.ahead b f, rfl, rfl⟩
    exfalso
    unfold PyFlat.call at h
    have e : PyVaaclf.shape p = none := by
      unfold PyVaaclf.shape
      rw [if_neg h0, if_neg h1, if_neg h2, if_neg h3, if_neg h4, if_neg h5, if_neg h6, if_neg h7, if_neg h8, if_neg h9, if_neg h10, if_neg h11]
    simp only [e] at h
    cases h
theorem callAt_lt {l t : List Int} {k : Vaaclf.Call} (h : CallAt l t k) : t.length < l.length := by
  have rr : ∀ {r xs t : List Int}, RowIs r xs t → t.length ≤ r.length := fun ⟨m, rest, e1, _, _, e2⟩ => by
    subst e1 e2
    rw [List.length_drop, List.length_cons]
    omega
  cases k with
  | loop n xs => obtain ⟨r, rfl, h⟩ := h; have := rr h; simp only [List.length_cons]; omega
  | claim xs => obtain ⟨r, rfl, h⟩ := h; have := rr h; simp only [List.length_cons]; omega
  | holds xs => obtain ⟨r, rfl, h⟩ := h; have := rr h; simp only [List.length_cons]; omega
  | shown b f => have h : l = _ := h; subst h; simp only [List.length_cons]; omega
  | check => have h : l = _ := h; subst h; simp only [List.length_cons]; omega
  | trim => have h : l = _ := h; subst h; simp only [List.length_cons]; omega
  | use => have h : l = _ := h; subst h; simp only [List.length_cons]; omega
  | broken b f => have h : l = _ := h; subst h; simp only [List.length_cons]; omega
  | goal xs => obtain ⟨r, rfl, h⟩ := h; have := rr h; simp only [List.length_cons]; omega
  | atEnd xs => obtain ⟨r, rfl, h⟩ := h; have := rr h; simp only [List.length_cons]; omega
  | run n xs => obtain ⟨r, rfl, h⟩ := h; have := rr h; simp only [List.length_cons]; omega
  | ahead b f => have h : l = _ := h; subst h; simp only [List.length_cons]; omega
def due (st : Vaaclf.State) (cs : List (List (List Int))) : List Int := PyFlat.told (PyFlat.played VaaclfNeutral.step st (cs.map PyVaaclf.whole))
theorem due_nil (st : Vaaclf.State) : due st [] = [] := rfl
theorem due_cons {st : Vaaclf.State} {c : List (List Int)} {cs : List (List (List Int))} {k : Vaaclf.Call} (h : VaaclfNeutral.callOf (PyVaaclf.whole c) = some k) : due st (c :: cs) = ((Vaaclf.step st k).2.length : Int) :: ((Vaaclf.step st k).2 ++ due (Vaaclf.step st k).1 cs) := by
  have e : VaaclfNeutral.step st (PyVaaclf.whole c) = Vaaclf.step st k := by
    unfold VaaclfNeutral.step
    rw [h]
  have e2 : PyFlat.played VaaclfNeutral.step st ((c :: cs).map PyVaaclf.whole) = (VaaclfNeutral.step st (PyVaaclf.whole c)).2 :: PyFlat.played VaaclfNeutral.step (VaaclfNeutral.step st (PyVaaclf.whole c)).1 (cs.map PyVaaclf.whole) := rfl
  unfold due
  rw [e2, e]
  unfold PyFlat.told
  rw [List.flatMap_cons]
  rfl
theorem calls_cons {f : Nat} {p : Int} {r : List Int} {cs : List (List (List Int))} (h : PyFlat.calls PyVaaclf.shape f (p :: r) = some cs) : ∃ f' c t cs', PyFlat.call PyVaaclf.shape (p :: r) = some (c, t) ∧ PyFlat.calls PyVaaclf.shape f' t = some cs' ∧ cs = c :: cs' := by
  cases f with
  | zero => cases h
  | succ f =>
    unfold PyFlat.calls at h
    cases e : PyFlat.call PyVaaclf.shape (p :: r) with
    | none => rw [e] at h; cases h
    | some u =>
      rw [e] at h
      cases e2 : PyFlat.calls PyVaaclf.shape f u.2 with
      | none => simp only [e2] at h; cases h
      | some cs' =>
        simp only [e2] at h
        cases h
        exact ⟨f, u.1, u.2, cs', rfl, e2, rfl⟩
theorem calls_nil {f : Nat} {cs : List (List (List Int))} (h : PyFlat.calls PyVaaclf.shape f [] = some cs) : cs = [] := by
  cases f <;> (cases h; rfl)
theorem asked_due {l : List Int} (h : PyVaaclf.answers_asked l = true) : ∃ cs, PyFlat.calls PyVaaclf.shape l.length l = some cs ∧ PyVaaclf.answers l = due Vaaclf.start cs ∧ (due Vaaclf.start cs).length ≤ 10000000 := by
  unfold PyVaaclf.answers_asked at h
  cases e : PyFlat.calls PyVaaclf.shape l.length l with
  | none => rw [e] at h; cases h
  | some cs =>
    rw [e] at h
    simp only [Bool.and_eq_true] at h
    have ea : PyVaaclf.answers l = due Vaaclf.start cs := by
      unfold PyVaaclf.answers PyVaaclf.calls
      rw [e]
      rfl
    refine ⟨cs, rfl, ea, ?_⟩
    have := h.2
    rw [ea] at this
    exact of_decide_eq_true this
end Lc
end
section
set_option Elab.async false
set_option linter.all false
set_option maxRecDepth 100000
namespace Lc
open PySem PySem.Spec PyProof.Rows L2
def top (i : Nat) : Stmt := PySem.Challenge.pw_loopclaimsdesk_s01_answers.main.body.getD i (.Pass ⟨0, 0, 0, 0⟩)
abbrev s_Fact_init : Stmt := inClass (top 4) 0
abbrev s_holds_at : Stmt := top 5
abbrev s_first_not_holding : Stmt := top 6
abbrev s_contrary : Stmt := top 7
abbrev s_fact_as_numbers : Stmt := top 8
abbrev s_Ending_init : Stmt := inClass (top 14) 0
abbrev s_chosen_place : Stmt := top 15
abbrev s_moved : Stmt := top 16
abbrev s_some_beyond : Stmt := top 17
abbrev s_run_from : Stmt := top 18
abbrev s_Break_init : Stmt := inClass (top 20) 0
abbrev s_how_many_rows : Stmt := top 21
abbrev s_rows_of_values : Stmt := top 22
abbrev s_break_at : Stmt := top 23
abbrev s_first_break : Stmt := top 24
abbrev s_Given_init : Stmt := inClass (top 26) 0
abbrev s_Branch_init : Stmt := inClass (top 27) 0
abbrev s_never_chosen : Stmt := top 28
abbrev s_ahead_of : Stmt := top 29
abbrev s_where_not_chosen : Stmt := top 30
abbrev s_usable_for : Stmt := top 31
abbrev s_usable_at_end : Stmt := top 32
abbrev s_Reader_init : Stmt := inClass (top 46) 0
abbrev s_Reader_is_over : Stmt := inClass (top 46) 1
abbrev s_Reader_take : Stmt := inClass (top 46) 2
abbrev s_Reader_take_from : Stmt := inClass (top 46) 3
abbrev s_Reader_take_row : Stmt := inClass (top 46) 4
abbrev s_Reader_must_be_over : Stmt := inClass (top 46) 5
abbrev s_read_number : Stmt := top 47
abbrev s_read_remainder : Stmt := top 48
abbrev s_read_test : Stmt := top 49
abbrev s_read_given : Stmt := top 50
abbrev s_read_branch : Stmt := top 51
abbrev s_read_fact : Stmt := top 52
abbrev s_whole_loop : Stmt := top 53
abbrev s_whole_claim : Stmt := top 54
abbrev s_whole_fact : Stmt := top 55
abbrev s_whole_values : Stmt := top 56
abbrev s_Use_init : Stmt := inClass (top 58) 0
abbrev s_allowed_often : Stmt := top 59
abbrev s_allowed_uses : Stmt := top 60
abbrev s_less : Stmt := top 61
abbrev s_shown_by_none : Stmt := top 62
abbrev s_first_single_use : Stmt := top 63
abbrev s_first_uses : Stmt := top 64
abbrev s_uses_that_keep : Stmt := top 65
abbrev s_keeps : Stmt := top 66
abbrev s_kept_by_all : Stmt := top 67
abbrev s_trimmed : Stmt := top 68
abbrev s_uses_as_numbers : Stmt := top 73
abbrev s_claim_as_numbers : Stmt := top 74
abbrev s_Desk_init : Stmt := inClass (top 75) 0
abbrev s_Desk_set_loop : Stmt := inClass (top 75) 1
abbrev s_Desk_set_claim : Stmt := inClass (top 75) 2
abbrev s_Desk_tell_holds : Stmt := inClass (top 75) 3
abbrev s_Desk_refusal_of : Stmt := inClass (top 75) 4
abbrev s_Desk_tell_shown : Stmt := inClass (top 75) 5
abbrev s_Desk_tell_check : Stmt := inClass (top 75) 6
abbrev s_Desk_tell_trim : Stmt := inClass (top 75) 7
abbrev s_Desk_set_trimmed : Stmt := inClass (top 75) 8
abbrev s_Desk_tell_broken : Stmt := inClass (top 75) 9
abbrev s_Desk_tell_goal : Stmt := inClass (top 75) 10
abbrev s_Desk_tell_at_end : Stmt := inClass (top 75) 11
abbrev s_Desk_tell_run : Stmt := inClass (top 75) 12
abbrev s_Desk_tell_ahead : Stmt := inClass (top 75) 13
abbrev s_answer_next : Stmt := top 90
abbrev s_answers : Stmt := top 91
structure Ad where
  C_Fact : Addr
  C_Ending : Addr
  C_Break : Addr
  C_Given : Addr
  C_Branch : Addr
  C_NotWhole : Addr
  C_Reader : Addr
  C_Use : Addr
  C_Desk : Addr
  C_UnknownCall : Addr
  f_Fact_init : Addr
  d_Fact_init : FuncData
  f_holds_at : Addr
  d_holds_at : FuncData
  f_first_not_holding : Addr
  d_first_not_holding : FuncData
  f_contrary : Addr
  d_contrary : FuncData
  f_fact_as_numbers : Addr
  d_fact_as_numbers : FuncData
  f_Ending_init : Addr
  d_Ending_init : FuncData
  f_chosen_place : Addr
  d_chosen_place : FuncData
  f_moved : Addr
  d_moved : FuncData
  f_some_beyond : Addr
  d_some_beyond : FuncData
  f_run_from : Addr
  d_run_from : FuncData
  f_Break_init : Addr
  d_Break_init : FuncData
  f_how_many_rows : Addr
  d_how_many_rows : FuncData
  f_rows_of_values : Addr
  d_rows_of_values : FuncData
  f_break_at : Addr
  d_break_at : FuncData
  f_first_break : Addr
  d_first_break : FuncData
  f_Given_init : Addr
  d_Given_init : FuncData
  f_Branch_init : Addr
  d_Branch_init : FuncData
  f_never_chosen : Addr
  d_never_chosen : FuncData
  f_ahead_of : Addr
  d_ahead_of : FuncData
  f_where_not_chosen : Addr
  d_where_not_chosen : FuncData
  f_usable_for : Addr
  d_usable_for : FuncData
  f_usable_at_end : Addr
  d_usable_at_end : FuncData
  f_Reader_init : Addr
  d_Reader_init : FuncData
  f_Reader_is_over : Addr
  d_Reader_is_over : FuncData
  f_Reader_take : Addr
  d_Reader_take : FuncData
  f_Reader_take_from : Addr
  d_Reader_take_from : FuncData
  f_Reader_take_row : Addr
  d_Reader_take_row : FuncData
  f_Reader_must_be_over : Addr
  d_Reader_must_be_over : FuncData
  f_read_number : Addr
  d_read_number : FuncData
  f_read_remainder : Addr
  d_read_remainder : FuncData
  f_read_test : Addr
  d_read_test : FuncData
  f_read_given : Addr
  d_read_given : FuncData
  f_read_branch : Addr
  d_read_branch : FuncData
  f_read_fact : Addr
  d_read_fact : FuncData
  f_whole_loop : Addr
  d_whole_loop : FuncData
  f_whole_claim : Addr
  d_whole_claim : FuncData
  f_whole_fact : Addr
  d_whole_fact : FuncData
  f_whole_values : Addr
  d_whole_values : FuncData
  f_Use_init : Addr
  d_Use_init : FuncData
  f_allowed_often : Addr
  d_allowed_often : FuncData
  f_allowed_uses : Addr
  d_allowed_uses : FuncData
  f_less : Addr
  d_less : FuncData
  f_shown_by_none : Addr
  d_shown_by_none : FuncData
  f_first_single_use : Addr
  d_first_single_use : FuncData
  f_first_uses : Addr
  d_first_uses : FuncData
  f_uses_that_keep : Addr
  d_uses_that_keep : FuncData
  f_keeps : Addr
  d_keeps : FuncData
  f_kept_by_all : Addr
  d_kept_by_all : FuncData
  f_trimmed : Addr
  d_trimmed : FuncData
  f_uses_as_numbers : Addr
  d_uses_as_numbers : FuncData
  f_claim_as_numbers : Addr
  d_claim_as_numbers : FuncData
  f_Desk_init : Addr
  d_Desk_init : FuncData
  f_Desk_set_loop : Addr
  d_Desk_set_loop : FuncData
  f_Desk_set_claim : Addr
  d_Desk_set_claim : FuncData
  f_Desk_tell_holds : Addr
  d_Desk_tell_holds : FuncData
  f_Desk_refusal_of : Addr
  d_Desk_refusal_of : FuncData
  f_Desk_tell_shown : Addr
  d_Desk_tell_shown : FuncData
  f_Desk_tell_check : Addr
  d_Desk_tell_check : FuncData
  f_Desk_tell_trim : Addr
  d_Desk_tell_trim : FuncData
  f_Desk_set_trimmed : Addr
  d_Desk_set_trimmed : FuncData
  f_Desk_tell_broken : Addr
  d_Desk_tell_broken : FuncData
  f_Desk_tell_goal : Addr
  d_Desk_tell_goal : FuncData
  f_Desk_tell_at_end : Addr
  d_Desk_tell_at_end : FuncData
  f_Desk_tell_run : Addr
  d_Desk_tell_run : FuncData
  f_Desk_tell_ahead : Addr
  d_Desk_tell_ahead : FuncData
  f_answer_next : Addr
  d_answer_next : FuncData
  f_answers : Addr
  d_answers : FuncData
  t_DIVISORS : Addr
structure Txt (K : PySem.W.Frag) (mg : Str → Option Value) (a : Ad) : Prop where
  mg_Fact : mg "Fact" = some (.ref a.C_Fact)
  cl_Fact : Cls K a.C_Fact
  na_Fact_times : NoAttr K a.C_Fact "times"
  na_Fact_kind : NoAttr K a.C_Fact "kind"
  na_Fact_divisor : NoAttr K a.C_Fact "divisor"
  na_Fact_number : NoAttr K a.C_Fact "number"
  mk_Fact : Mk K a.C_Fact a.f_Fact_init
  mg_Ending : mg "Ending" = some (.ref a.C_Ending)
  cl_Ending : Cls K a.C_Ending
  na_Ending_outcome : NoAttr K a.C_Ending "outcome"
  na_Ending_rounds : NoAttr K a.C_Ending "rounds"
  na_Ending_reached : NoAttr K a.C_Ending "reached"
  mk_Ending : Mk K a.C_Ending a.f_Ending_init
  mg_Break : mg "Break" = some (.ref a.C_Break)
  cl_Break : Cls K a.C_Break
  na_Break_branch : NoAttr K a.C_Break "branch"
  na_Break_broken : NoAttr K a.C_Break "broken"
  na_Break_origin : NoAttr K a.C_Break "origin"
  mk_Break : Mk K a.C_Break a.f_Break_init
  mg_Given : mg "Given" = some (.ref a.C_Given)
  cl_Given : Cls K a.C_Given
  na_Given_source : NoAttr K a.C_Given "source"
  na_Given_added : NoAttr K a.C_Given "added"
  mk_Given : Mk K a.C_Given a.f_Given_init
  mg_Branch : mg "Branch" = some (.ref a.C_Branch)
  cl_Branch : Cls K a.C_Branch
  na_Branch_tests : NoAttr K a.C_Branch "tests"
  na_Branch_move : NoAttr K a.C_Branch "move"
  mk_Branch : Mk K a.C_Branch a.f_Branch_init
  mg_NotWhole : mg "NotWhole" = some (.ref a.C_NotWhole)
  ex_NotWhole : PySem.W.excIn K a.C_NotWhole VErr "ValueError.__new__" = true
  mg_Reader : mg "Reader" = some (.ref a.C_Reader)
  cl_Reader : Cls K a.C_Reader
  na_Reader_numbers : NoAttr K a.C_Reader "numbers"
  na_Reader_place : NoAttr K a.C_Reader "place"
  mk_Reader : Mk K a.C_Reader a.f_Reader_init
  me_Reader_is_over : Meth K a.C_Reader "is_over" a.f_Reader_is_over
  me_Reader_take : Meth K a.C_Reader "take" a.f_Reader_take
  me_Reader_take_from : Meth K a.C_Reader "take_from" a.f_Reader_take_from
  me_Reader_take_row : Meth K a.C_Reader "take_row" a.f_Reader_take_row
  me_Reader_must_be_over : Meth K a.C_Reader "must_be_over" a.f_Reader_must_be_over
  mg_Use : mg "Use" = some (.ref a.C_Use)
  cl_Use : Cls K a.C_Use
  na_Use_place : NoAttr K a.C_Use "place"
  na_Use_often : NoAttr K a.C_Use "often"
  na_Use_times : NoAttr K a.C_Use "times"
  na_Use_number : NoAttr K a.C_Use "number"
  mk_Use : Mk K a.C_Use a.f_Use_init
  mg_Desk : mg "Desk" = some (.ref a.C_Desk)
  cl_Desk : Cls K a.C_Desk
  na_Desk_counters : NoAttr K a.C_Desk "counters"
  na_Desk_branches : NoAttr K a.C_Desk "branches"
  na_Desk_claim : NoAttr K a.C_Desk "claim"
  mk_Desk : Mk K a.C_Desk a.f_Desk_init
  me_Desk_set_loop : Meth K a.C_Desk "set_loop" a.f_Desk_set_loop
  me_Desk_set_claim : Meth K a.C_Desk "set_claim" a.f_Desk_set_claim
  me_Desk_tell_holds : Meth K a.C_Desk "tell_holds" a.f_Desk_tell_holds
  me_Desk_refusal_of : Meth K a.C_Desk "refusal_of" a.f_Desk_refusal_of
  me_Desk_tell_shown : Meth K a.C_Desk "tell_shown" a.f_Desk_tell_shown
  me_Desk_tell_check : Meth K a.C_Desk "tell_check" a.f_Desk_tell_check
  me_Desk_tell_trim : Meth K a.C_Desk "tell_trim" a.f_Desk_tell_trim
  me_Desk_set_trimmed : Meth K a.C_Desk "set_trimmed" a.f_Desk_set_trimmed
  me_Desk_tell_broken : Meth K a.C_Desk "tell_broken" a.f_Desk_tell_broken
  me_Desk_tell_goal : Meth K a.C_Desk "tell_goal" a.f_Desk_tell_goal
  me_Desk_tell_at_end : Meth K a.C_Desk "tell_at_end" a.f_Desk_tell_at_end
  me_Desk_tell_run : Meth K a.C_Desk "tell_run" a.f_Desk_tell_run
  me_Desk_tell_ahead : Meth K a.C_Desk "tell_ahead" a.f_Desk_tell_ahead
  mg_UnknownCall : mg "UnknownCall" = some (.ref a.C_UnknownCall)
  ex_UnknownCall : PySem.W.excIn K a.C_UnknownCall VErr "ValueError.__new__" = true
  F_Fact_init : Fun K "__init__" "Fact.__init__" s_Fact_init a.f_Fact_init a.d_Fact_init
  b_Fact_init : Binds K a.d_Fact_init ["self", "times", "kind", "divisor", "number"] []
  F_holds_at : Fun K "holds_at" "holds_at" s_holds_at a.f_holds_at a.d_holds_at
  b_holds_at : Binds K a.d_holds_at ["fact", "values"] []
  g_holds_at : mg "holds_at" = some (.ref a.f_holds_at)
  F_first_not_holding : Fun K "first_not_holding" "first_not_holding" s_first_not_holding a.f_first_not_holding a.d_first_not_holding
  b_first_not_holding : Binds K a.d_first_not_holding ["facts", "values"] []
  g_first_not_holding : mg "first_not_holding" = some (.ref a.f_first_not_holding)
  F_contrary : Fun K "contrary" "contrary" s_contrary a.f_contrary a.d_contrary
  b_contrary : Binds K a.d_contrary ["fact"] []
  g_contrary : mg "contrary" = some (.ref a.f_contrary)
  F_fact_as_numbers : Fun K "fact_as_numbers" "fact_as_numbers" s_fact_as_numbers a.f_fact_as_numbers a.d_fact_as_numbers
  b_fact_as_numbers : Binds K a.d_fact_as_numbers ["fact"] []
  g_fact_as_numbers : mg "fact_as_numbers" = some (.ref a.f_fact_as_numbers)
  F_Ending_init : Fun K "__init__" "Ending.__init__" s_Ending_init a.f_Ending_init a.d_Ending_init
  b_Ending_init : Binds K a.d_Ending_init ["self", "outcome", "rounds", "reached"] []
  F_chosen_place : Fun K "chosen_place" "chosen_place" s_chosen_place a.f_chosen_place a.d_chosen_place
  b_chosen_place : Binds K a.d_chosen_place ["branches", "values"] []
  g_chosen_place : mg "chosen_place" = some (.ref a.f_chosen_place)
  F_moved : Fun K "moved" "moved" s_moved a.f_moved a.d_moved
  b_moved : Binds K a.d_moved ["move", "values"] []
  g_moved : mg "moved" = some (.ref a.f_moved)
  F_some_beyond : Fun K "some_beyond" "some_beyond" s_some_beyond a.f_some_beyond a.d_some_beyond
  b_some_beyond : Binds K a.d_some_beyond ["values"] []
  g_some_beyond : mg "some_beyond" = some (.ref a.f_some_beyond)
  F_run_from : Fun K "run_from" "run_from" s_run_from a.f_run_from a.d_run_from
  b_run_from : Binds K a.d_run_from ["branches", "values", "most"] []
  g_run_from : mg "run_from" = some (.ref a.f_run_from)
  F_Break_init : Fun K "__init__" "Break.__init__" s_Break_init a.f_Break_init a.d_Break_init
  b_Break_init : Binds K a.d_Break_init ["self", "branch", "broken", "origin"] []
  F_how_many_rows : Fun K "how_many_rows" "how_many_rows" s_how_many_rows a.f_how_many_rows a.d_how_many_rows
  b_how_many_rows : Binds K a.d_how_many_rows ["low", "high", "counters"] []
  g_how_many_rows : mg "how_many_rows" = some (.ref a.f_how_many_rows)
  F_rows_of_values : Fun K "rows_of_values" "rows_of_values" s_rows_of_values a.f_rows_of_values a.d_rows_of_values
  b_rows_of_values : Binds K a.d_rows_of_values ["low", "high", "counters"] []
  g_rows_of_values : mg "rows_of_values" = some (.ref a.f_rows_of_values)
  F_break_at : Fun K "break_at" "break_at" s_break_at a.f_break_at a.d_break_at
  b_break_at : Binds K a.d_break_at ["branches", "claim", "values"] []
  g_break_at : mg "break_at" = some (.ref a.f_break_at)
  F_first_break : Fun K "first_break" "first_break" s_first_break a.f_first_break a.d_first_break
  b_first_break : Binds K a.d_first_break ["branches", "claim", "rows"] []
  g_first_break : mg "first_break" = some (.ref a.f_first_break)
  F_Given_init : Fun K "__init__" "Given.__init__" s_Given_init a.f_Given_init a.d_Given_init
  b_Given_init : Binds K a.d_Given_init ["self", "source", "added"] []
  F_Branch_init : Fun K "__init__" "Branch.__init__" s_Branch_init a.f_Branch_init a.d_Branch_init
  b_Branch_init : Binds K a.d_Branch_init ["self", "tests", "move"] []
  F_never_chosen : Fun K "never_chosen" "never_chosen" s_never_chosen a.f_never_chosen a.d_never_chosen
  b_never_chosen : Binds K a.d_never_chosen [] []
  g_never_chosen : mg "never_chosen" = some (.ref a.f_never_chosen)
  F_ahead_of : Fun K "ahead_of" "ahead_of" s_ahead_of a.f_ahead_of a.d_ahead_of
  b_ahead_of : Binds K a.d_ahead_of ["move", "fact"] []
  g_ahead_of : mg "ahead_of" = some (.ref a.f_ahead_of)
  F_where_not_chosen : Fun K "where_not_chosen" "where_not_chosen" s_where_not_chosen a.f_where_not_chosen a.d_where_not_chosen
  b_where_not_chosen : Binds K a.d_where_not_chosen ["branch"] []
  g_where_not_chosen : mg "where_not_chosen" = some (.ref a.f_where_not_chosen)
  F_usable_for : Fun K "usable_for" "usable_for" s_usable_for a.f_usable_for a.d_usable_for
  b_usable_for : Binds K a.d_usable_for ["branches", "place", "claim"] []
  g_usable_for : mg "usable_for" = some (.ref a.f_usable_for)
  F_usable_at_end : Fun K "usable_at_end" "usable_at_end" s_usable_at_end a.f_usable_at_end a.d_usable_at_end
  b_usable_at_end : Binds K a.d_usable_at_end ["branches", "claim"] []
  g_usable_at_end : mg "usable_at_end" = some (.ref a.f_usable_at_end)
  F_Reader_init : Fun K "__init__" "Reader.__init__" s_Reader_init a.f_Reader_init a.d_Reader_init
  b_Reader_init : Binds K a.d_Reader_init ["self", "numbers"] []
  F_Reader_is_over : Fun K "is_over" "Reader.is_over" s_Reader_is_over a.f_Reader_is_over a.d_Reader_is_over
  b_Reader_is_over : Binds K a.d_Reader_is_over ["self"] []
  F_Reader_take : Fun K "take" "Reader.take" s_Reader_take a.f_Reader_take a.d_Reader_take
  b_Reader_take : Binds K a.d_Reader_take ["self"] []
  F_Reader_take_from : Fun K "take_from" "Reader.take_from" s_Reader_take_from a.f_Reader_take_from a.d_Reader_take_from
  b_Reader_take_from : Binds K a.d_Reader_take_from ["self", "low", "high"] []
  F_Reader_take_row : Fun K "take_row" "Reader.take_row" s_Reader_take_row a.f_Reader_take_row a.d_Reader_take_row
  b_Reader_take_row : Binds K a.d_Reader_take_row ["self"] []
  F_Reader_must_be_over : Fun K "must_be_over" "Reader.must_be_over" s_Reader_must_be_over a.f_Reader_must_be_over a.d_Reader_must_be_over
  b_Reader_must_be_over : Binds K a.d_Reader_must_be_over ["self"] []
  F_read_number : Fun K "read_number" "read_number" s_read_number a.f_read_number a.d_read_number
  b_read_number : Binds K a.d_read_number ["reader"] []
  g_read_number : mg "read_number" = some (.ref a.f_read_number)
  F_read_remainder : Fun K "read_remainder" "read_remainder" s_read_remainder a.f_read_remainder a.d_read_remainder
  b_read_remainder : Binds K a.d_read_remainder ["reader", "times"] []
  g_read_remainder : mg "read_remainder" = some (.ref a.f_read_remainder)
  F_read_test : Fun K "read_test" "read_test" s_read_test a.f_read_test a.d_read_test
  b_read_test : Binds K a.d_read_test ["reader", "counters"] []
  g_read_test : mg "read_test" = some (.ref a.f_read_test)
  F_read_given : Fun K "read_given" "read_given" s_read_given a.f_read_given a.d_read_given
  b_read_given : Binds K a.d_read_given ["reader", "counters"] []
  g_read_given : mg "read_given" = some (.ref a.f_read_given)
  F_read_branch : Fun K "read_branch" "read_branch" s_read_branch a.f_read_branch a.d_read_branch
  b_read_branch : Binds K a.d_read_branch ["reader", "counters"] []
  g_read_branch : mg "read_branch" = some (.ref a.f_read_branch)
  F_read_fact : Fun K "read_fact" "read_fact" s_read_fact a.f_read_fact a.d_read_fact
  b_read_fact : Binds K a.d_read_fact ["reader", "counters"] []
  g_read_fact : mg "read_fact" = some (.ref a.f_read_fact)
  F_whole_loop : Fun K "whole_loop" "whole_loop" s_whole_loop a.f_whole_loop a.d_whole_loop
  b_whole_loop : Binds K a.d_whole_loop ["numbers", "counters"] []
  g_whole_loop : mg "whole_loop" = some (.ref a.f_whole_loop)
  F_whole_claim : Fun K "whole_claim" "whole_claim" s_whole_claim a.f_whole_claim a.d_whole_claim
  b_whole_claim : Binds K a.d_whole_claim ["numbers", "counters"] []
  g_whole_claim : mg "whole_claim" = some (.ref a.f_whole_claim)
  F_whole_fact : Fun K "whole_fact" "whole_fact" s_whole_fact a.f_whole_fact a.d_whole_fact
  b_whole_fact : Binds K a.d_whole_fact ["numbers", "counters"] []
  g_whole_fact : mg "whole_fact" = some (.ref a.f_whole_fact)
  F_whole_values : Fun K "whole_values" "whole_values" s_whole_values a.f_whole_values a.d_whole_values
  b_whole_values : Binds K a.d_whole_values ["numbers", "counters"] []
  g_whole_values : mg "whole_values" = some (.ref a.f_whole_values)
  F_Use_init : Fun K "__init__" "Use.__init__" s_Use_init a.f_Use_init a.d_Use_init
  b_Use_init : Binds K a.d_Use_init ["self", "place", "often", "fact"] []
  F_allowed_often : Fun K "allowed_often" "allowed_often" s_allowed_often a.f_allowed_often a.d_allowed_often
  b_allowed_often : Binds K a.d_allowed_often ["fact", "target"] []
  g_allowed_often : mg "allowed_often" = some (.ref a.f_allowed_often)
  F_allowed_uses : Fun K "allowed_uses" "allowed_uses" s_allowed_uses a.f_allowed_uses a.d_allowed_uses
  b_allowed_uses : Binds K a.d_allowed_uses ["usable", "target"] []
  g_allowed_uses : mg "allowed_uses" = some (.ref a.f_allowed_uses)
  F_less : Fun K "less" "less" s_less a.f_less a.d_less
  b_less : Binds K a.d_less ["target", "use"] []
  g_less : mg "less" = some (.ref a.f_less)
  F_shown_by_none : Fun K "shown_by_none" "shown_by_none" s_shown_by_none a.f_shown_by_none a.d_shown_by_none
  b_shown_by_none : Binds K a.d_shown_by_none ["target"] []
  g_shown_by_none : mg "shown_by_none" = some (.ref a.f_shown_by_none)
  F_first_single_use : Fun K "first_single_use" "first_single_use" s_first_single_use a.f_first_single_use a.d_first_single_use
  b_first_single_use : Binds K a.d_first_single_use ["target", "uses"] []
  g_first_single_use : mg "first_single_use" = some (.ref a.f_first_single_use)
  F_first_uses : Fun K "first_uses" "first_uses" s_first_uses a.f_first_uses a.d_first_uses
  b_first_uses : Binds K a.d_first_uses ["target", "usable"] []
  g_first_uses : mg "first_uses" = some (.ref a.f_first_uses)
  F_uses_that_keep : Fun K "uses_that_keep" "uses_that_keep" s_uses_that_keep a.f_uses_that_keep a.d_uses_that_keep
  b_uses_that_keep : Binds K a.d_uses_that_keep ["branches", "place", "claim", "fact"] []
  g_uses_that_keep : mg "uses_that_keep" = some (.ref a.f_uses_that_keep)
  F_keeps : Fun K "keeps" "keeps" s_keeps a.f_keeps a.d_keeps
  b_keeps : Binds K a.d_keeps ["branches", "place", "claim", "fact"] []
  g_keeps : mg "keeps" = some (.ref a.f_keeps)
  F_kept_by_all : Fun K "kept_by_all" "kept_by_all" s_kept_by_all a.f_kept_by_all a.d_kept_by_all
  b_kept_by_all : Binds K a.d_kept_by_all ["branches", "claim", "fact"] []
  g_kept_by_all : mg "kept_by_all" = some (.ref a.f_kept_by_all)
  F_trimmed : Fun K "trimmed" "trimmed" s_trimmed a.f_trimmed a.d_trimmed
  b_trimmed : Binds K a.d_trimmed ["branches", "claim"] []
  g_trimmed : mg "trimmed" = some (.ref a.f_trimmed)
  F_uses_as_numbers : Fun K "uses_as_numbers" "uses_as_numbers" s_uses_as_numbers a.f_uses_as_numbers a.d_uses_as_numbers
  b_uses_as_numbers : Binds K a.d_uses_as_numbers ["uses"] []
  g_uses_as_numbers : mg "uses_as_numbers" = some (.ref a.f_uses_as_numbers)
  F_claim_as_numbers : Fun K "claim_as_numbers" "claim_as_numbers" s_claim_as_numbers a.f_claim_as_numbers a.d_claim_as_numbers
  b_claim_as_numbers : Binds K a.d_claim_as_numbers ["claim"] []
  g_claim_as_numbers : mg "claim_as_numbers" = some (.ref a.f_claim_as_numbers)
  F_Desk_init : Fun K "__init__" "Desk.__init__" s_Desk_init a.f_Desk_init a.d_Desk_init
  b_Desk_init : Binds K a.d_Desk_init ["self"] []
  F_Desk_set_loop : Fun K "set_loop" "Desk.set_loop" s_Desk_set_loop a.f_Desk_set_loop a.d_Desk_set_loop
  b_Desk_set_loop : Binds K a.d_Desk_set_loop ["self", "counters", "numbers"] []
  F_Desk_set_claim : Fun K "set_claim" "Desk.set_claim" s_Desk_set_claim a.f_Desk_set_claim a.d_Desk_set_claim
  b_Desk_set_claim : Binds K a.d_Desk_set_claim ["self", "numbers"] []
  F_Desk_tell_holds : Fun K "tell_holds" "Desk.tell_holds" s_Desk_tell_holds a.f_Desk_tell_holds a.d_Desk_tell_holds
  b_Desk_tell_holds : Binds K a.d_Desk_tell_holds ["self", "numbers"] []
  F_Desk_refusal_of : Fun K "refusal_of" "Desk.refusal_of" s_Desk_refusal_of a.f_Desk_refusal_of a.d_Desk_refusal_of
  b_Desk_refusal_of : Binds K a.d_Desk_refusal_of ["self", "branch", "fact"] []
  F_Desk_tell_shown : Fun K "tell_shown" "Desk.tell_shown" s_Desk_tell_shown a.f_Desk_tell_shown a.d_Desk_tell_shown
  b_Desk_tell_shown : Binds K a.d_Desk_tell_shown ["self", "branch", "fact"] []
  F_Desk_tell_check : Fun K "tell_check" "Desk.tell_check" s_Desk_tell_check a.f_Desk_tell_check a.d_Desk_tell_check
  b_Desk_tell_check : Binds K a.d_Desk_tell_check ["self"] []
  F_Desk_tell_trim : Fun K "tell_trim" "Desk.tell_trim" s_Desk_tell_trim a.f_Desk_tell_trim a.d_Desk_tell_trim
  b_Desk_tell_trim : Binds K a.d_Desk_tell_trim ["self"] []
  F_Desk_set_trimmed : Fun K "set_trimmed" "Desk.set_trimmed" s_Desk_set_trimmed a.f_Desk_set_trimmed a.d_Desk_set_trimmed
  b_Desk_set_trimmed : Binds K a.d_Desk_set_trimmed ["self"] []
  F_Desk_tell_broken : Fun K "tell_broken" "Desk.tell_broken" s_Desk_tell_broken a.f_Desk_tell_broken a.d_Desk_tell_broken
  b_Desk_tell_broken : Binds K a.d_Desk_tell_broken ["self", "low", "high"] []
  F_Desk_tell_goal : Fun K "tell_goal" "Desk.tell_goal" s_Desk_tell_goal a.f_Desk_tell_goal a.d_Desk_tell_goal
  b_Desk_tell_goal : Binds K a.d_Desk_tell_goal ["self", "numbers"] []
  F_Desk_tell_at_end : Fun K "tell_at_end" "Desk.tell_at_end" s_Desk_tell_at_end a.f_Desk_tell_at_end a.d_Desk_tell_at_end
  b_Desk_tell_at_end : Binds K a.d_Desk_tell_at_end ["self", "numbers"] []
  F_Desk_tell_run : Fun K "tell_run" "Desk.tell_run" s_Desk_tell_run a.f_Desk_tell_run a.d_Desk_tell_run
  b_Desk_tell_run : Binds K a.d_Desk_tell_run ["self", "most", "numbers"] []
  F_Desk_tell_ahead : Fun K "tell_ahead" "Desk.tell_ahead" s_Desk_tell_ahead a.f_Desk_tell_ahead a.d_Desk_tell_ahead
  b_Desk_tell_ahead : Binds K a.d_Desk_tell_ahead ["self", "branch", "fact"] []
  F_answer_next : Fun K "answer_next" "answer_next" s_answer_next a.f_answer_next a.d_answer_next
  b_answer_next : Binds K a.d_answer_next ["desk", "reader"] []
  g_answer_next : mg "answer_next" = some (.ref a.f_answer_next)
  F_answers : Fun K "answers" "answers" s_answers a.f_answers a.d_answers
  b_answers : Binds K a.d_answers ["calls"] []
  g_answers : mg "answers" = some (.ref a.f_answers)
  c_AT_MOST : Cst mg "AT_MOST" (.int 0)
  c_JUST : Cst mg "JUST" (.int 1)
  c_REMAINDER : Cst mg "REMAINDER" (.int 2)
  c_OVER : Cst mg "OVER" (.int 0)
  c_BEYOND : Cst mg "BEYOND" (.int 1)
  c_CHOSEN_STILL : Cst mg "CHOSEN_STILL" (.int 2)
  c_FARTHEST : Cst mg "FARTHEST" (.int 1000000000000)
  c_MOST_BRANCHES : Cst mg "MOST_BRANCHES" (.int 3)
  c_MOST_TESTS : Cst mg "MOST_TESTS" (.int 3)
  c_MOST_FACTS : Cst mg "MOST_FACTS" (.int 6)
  c_MOST_TIMES : Cst mg "MOST_TIMES" (.int 5)
  c_MOST_ADDED : Cst mg "MOST_ADDED" (.int 99)
  c_MOST_NUMBER : Cst mg "MOST_NUMBER" (.int 999999)
  c_MOST_VALUE : Cst mg "MOST_VALUE" (.int 1000000)
  c_DIVISORS : Cst mg "DIVISORS" (.ref a.t_DIVISORS)
  q_DIVISORS : ∀ H : Hp, SqT K H a.t_DIVISORS [.int 2, .int 3, .int 4, .int 6]
  c_TEST_AT_LEAST : Cst mg "TEST_AT_LEAST" (.int 1)
  c_TEST_BELOW : Cst mg "TEST_BELOW" (.int 2)
  c_TEST_REMAINDER : Cst mg "TEST_REMAINDER" (.int 3)
  c_MOST_COUNTERS : Cst mg "MOST_COUNTERS" (.int 4)
  c_MOST_ROUNDS : Cst mg "MOST_ROUNDS" (.int 200)
  c_MOST_ROWS : Cst mg "MOST_ROWS" (.int 125)
  c_LOOP : Cst mg "LOOP" (.int 0)
  c_CLAIM : Cst mg "CLAIM" (.int 1)
  c_HOLDS : Cst mg "HOLDS" (.int 2)
  c_SHOWN : Cst mg "SHOWN" (.int 3)
  c_CHECK : Cst mg "CHECK" (.int 4)
  c_TRIM : Cst mg "TRIM" (.int 5)
  c_USE : Cst mg "USE" (.int 6)
  c_BROKEN : Cst mg "BROKEN" (.int 7)
  c_GOAL : Cst mg "GOAL" (.int 8)
  c_AT_END : Cst mg "AT_END" (.int 9)
  c_RUN : Cst mg "RUN" (.int 10)
  c_AHEAD : Cst mg "AHEAD" (.int 11)
  bl_abs : mg "abs" = none
  bl_all : mg "all" = none
  bl_any : mg "any" = none
  bl_enumerate : mg "enumerate" = none
  bl_len : mg "len" = none
  bl_list : mg "list" = none
  bl_range : mg "range" = none
  bl_sum : mg "sum" = none
  bl_zip : mg "zip" = none
end Lc
end
section
set_option Elab.async false
set_option linter.all false
set_option maxRecDepth 100000
set_option maxHeartbeats 1000000
namespace Lc
open PySem PySem.Spec PyProof.Rows L2
section
variable {X : Cx}
theorem pe_new {C f : Addr} {k : Nat} {fd : FuncData} {ps : List Str} {sp : Sp} {x : Str} {p pos : Pos} {e : Expr} {es : List Expr} {t : TA} {r : List V → Hp → VK → Prop} (M : Mk X.K C f) (F : FnOk X.prog X.w X.K X.mg X.base CX0 k f fd ps sp) (hr : Room (k + 1) X.A) (hm : X.mg x = some (.ref C)) (hb : Binds X.K fd ps [])
    (ha : PA X (e :: es) t) (conv : ∀ vs H Q, r vs H Q → ∀ y dx, H y = none → H dx = none → dx ≠ y → sp (.ref y :: vs) (upd (upd H dx (.own y)) y (.ins C dx [])) (fun v H2 => v = .non ∧ Q (.ref y) H2) E0) (hg : Gl X x := by rfl)
    (hdb : (x == ("__debug__" : Str)) = false := by decide) (he : starEach (e :: es) X.env = (false, eval e X.env) :: starEach es X.env := by rfl) (hpl : (backTo pos (starEach es X.env)).any (·.1) = false := by rfl) :
    PE X (.Call (.Name x p) (e :: es) [] pos) (tCB r t) := by
  intro pins s σ H Q I h
  refine wpAny_Call_Name_kw (ld_glob I hg hm ?_ hdb)
  refine PySem.W.callWith_K (h₀ := X.base) I.ok.mod.kin M.kp (thn (ha pos pins s σ H _ I h) fun us s1 ⟨vs, H1, I1, rv, q⟩ => ⟨I1.kIn, ?_⟩) he hpl
  exact run_make (dvs := []) (ds := []) M F hr hb .nil pass0 I1 rv fun y dx h1 h2 h3 => by
    rw [List.append_nil]
    exact conv vs H1 Q q y dx h1 h2 h3
end
theorem pn {X : Cx} {pos : Pos} (i : Nat) {x : Str} (hN : X.N.Nodup) (hi : X.N[i]? = some x) (hx : X.env.scope.names.lookup x = some .local) : PG X (.Name x pos) (gName i) := pg_name hN hi (.inl hx) (.inr hx)
theorem yes {σ : L2.St} {H : Hp} {A B : Hp → Prop} (h : A H) : tYes σ H fun b H3 => if b = true then A H3 else B H3 := by
  show if true = true then A H else B H
  rw [if_pos rfl]
  exact h
theorem decI {i j : Int} : (decide (V.int i = V.int j) = true) ↔ i = j := by
  rw [decide_eq_true_iff]
  exact ⟨fun e => V.int.inj e, fun e => by rw [e]⟩
theorem decI' (i j : Int) : decide (V.int i = V.int j) = (i == j) := by
  rw [Bool.eq_iff_iff, decI, beq_iff_eq]
def But (r : Addr) (H H' : Hp) : Prop := ∀ b o, H b = some o → b ≠ r → H' b = some o
theorem But.of {r : Addr} {H H' : Hp} (s : Same H H') : But r H H' := fun b o h _ => s b o h
theorem But.trans {r : Addr} {H H1 H2 : Hp} (a : But r H H1) (b : But r H1 H2) : But r H H2 := fun c o h n => b c o (a c o h n) n
theorem Same.upd {H : Hp} {p : Addr} {o : HO} (h : H p = none) : Same H (L2.upd H p o) := fun b u e => by rw [upd_ne (ne_of_none e h)]; exact e
theorem But.made {H H1 : Hp} {x dx C : Addr} (nx : H x = none) (nd : H dx = none) (k : But x (L2.upd (L2.upd H dx (.own x)) x (.ins C dx [])) H1) : Same H H1 := Same.made nx nd k
def factFs (l : Addr) (k d c : Int) : List (Str × V) := [("times", .ref l), ("kind", .int k), ("divisor", .int d), ("number", .int c)]
structure FactAt (a : Ad) (H : Hp) (x : Addr) (f : F) : Prop where
  ex : ∃ dx l, H x = some (.ins a.C_Fact dx (factFs l f.k f.d f.c)) ∧ H l = some (.lst (f.ts.map V.int))
theorem FactAt.mono {a : Ad} {H H' : Hp} {x : Addr} {f : F} (h : FactAt a H x f) (s : Same H H') : FactAt a H' x f := by
  obtain ⟨dx, l, h1, h2⟩ := h.ex
  exact ⟨dx, l, s _ _ h1, s _ _ h2⟩
section
variable {K : PySem.W.Frag} {mg : Str → Option Value} {a : Ad} {H : Hp} {x : Addr} {f : F}
theorem FactAt.kind (h : FactAt a H x f) (T : Txt K mg a) : Fld K H (.ref x) "kind" (.int f.k) := let ⟨dx, l, h1, _⟩ := h.ex; ⟨x, _, dx, _, rfl, h1, T.cl_Fact, T.na_Fact_kind, rfl⟩
theorem FactAt.divisor (h : FactAt a H x f) (T : Txt K mg a) : Fld K H (.ref x) "divisor" (.int f.d) := let ⟨dx, l, h1, _⟩ := h.ex; ⟨x, _, dx, _, rfl, h1, T.cl_Fact, T.na_Fact_divisor, rfl⟩
theorem FactAt.number (h : FactAt a H x f) (T : Txt K mg a) : Fld K H (.ref x) "number" (.int f.c) := let ⟨dx, l, h1, _⟩ := h.ex; ⟨x, _, dx, _, rfl, h1, T.cl_Fact, T.na_Fact_number, rfl⟩
theorem FactAt.times (h : FactAt a H x f) (T : Txt K mg a) : ∃ l, Fld K H (.ref x) "times" (.ref l) ∧ H l = some (.lst (f.ts.map V.int)) := let ⟨dx, l, h1, h2⟩ := h.ex; ⟨l, ⟨x, _, dx, _, rfl, h1, T.cl_Fact, T.na_Fact_times, rfl⟩, h2⟩
end
theorem map_get {α β : Type} {g : α → β} {l : List α} {i : Nat} {x : β} (h : (l.map g)[i]? = some x) : ∃ z, l[i]? = some z ∧ x = g z := by
  rw [List.getElem?_map] at h
  cases e : l[i]? with
  | none => rw [e] at h; cases h
  | some z => rw [e] at h; exact ⟨z, rfl, (Option.some.inj h).symm⟩
theorem take_snoc {α : Type} {l : List α} {i : Nat} {x : α} (h : l[i]? = some x) : l.take (i + 1) = l.take i ++ [x] := by
  obtain ⟨hi, e⟩ := List.getElem?_eq_some_iff.mp h
  rw [List.take_succ, h]
  rfl
theorem take_all {α : Type} (l : List α) {n : Nat} (h : l.length ≤ n) : l.take n = l := List.take_of_length_le h
def sp_Fact_init (a : Ad) : Sp := fun vs H Q _ => ∃ (p dx l : Addr) (k d c : Int), vs = [.ref p, .ref l, .int k, .int d, .int c] ∧ H p = some (.ins a.C_Fact dx []) ∧ ∀ H' : Hp, H' p = some (.ins a.C_Fact dx (factFs l k d c)) → But p H H' → Q .non H'
section
variable {P : Program} {w : World} {K : PySem.W.Frag} {mg : Str → Option Value} {base : Heap} {a : Ad}
theorem sc_Fact_init : FnScope ["self", "times", "kind", "divisor", "number"] ["self", "times", "kind", "divisor", "number"] (defScope s_Fact_init) := ⟨rfl, rfl, rfl, by decide +kernel, rfl, by decide +kernel, by decide +kernel⟩
theorem ok_Fact_init (T : Txt K mg a) : FnOk P w K mg base CX0 1 a.f_Fact_init a.d_Fact_init ["self", "times", "kind", "divisor", "number"] (sp_Fact_init a) := by
  refine T.F_Fact_init.ok sc_Fact_init (fun vs H Q E h => ?_) (fun cdv A outer s H vs Q E hr h => ?_)
  · obtain ⟨p, dx, l, k, d, c, rfl, _⟩ := h
    rfl
  · obtain ⟨p, dx, l, k, d, c, rfl, hp, q⟩ := h
    refine ⟨_, pss_cons (ps_fld (pv 0) (pv 1) rfl) (pss_cons (ps_fld (pv 0) (pv 2) rfl) (pss_cons (ps_fld (pv 0) (pv 3) rfl) (pss_one (ps_fld (pv 0) (pv 4) rfl)))), ?_⟩
    refine ⟨_, rfl, _, rfl, p, _, dx, _, rfl, hp, T.cl_Fact, T.na_Fact_times, (by show 0 < 1000; decide), ?_⟩
    refine ⟨_, rfl, _, rfl, p, _, dx, _, rfl, upd_same, T.cl_Fact, T.na_Fact_kind, (by show 1 < 1000; decide), ?_⟩
    refine ⟨_, rfl, _, rfl, p, _, dx, _, rfl, upd_same, T.cl_Fact, T.na_Fact_divisor, (by show 2 < 1000; decide), ?_⟩
    refine ⟨_, rfl, _, rfl, p, _, dx, _, rfl, upd_same, T.cl_Fact, T.na_Fact_number, (by show 3 < 1000; decide), ?_⟩
    rw [upd_upd, upd_upd, upd_upd]
    exact q _ upd_same fun b o e hb => by rw [upd_ne hb]; exact e
end
def rNewFact (a : Ad) : List V → Hp → VK → Prop := fun vs H Q => ∃ (l : Addr) (k d c : Int), vs = [.ref l, .int k, .int d, .int c] ∧ ∀ (x : Addr) (H2 : Hp), Same H H2 → (∃ dx, H2 x = some (.ins a.C_Fact dx (factFs l k d c))) → Q (.ref x) H2
theorem pe_newFact {X : Cx} {a : Ad} {p pos : Pos} {e : Expr} {es : List Expr} {t : TA} (T : Txt X.K X.mg a) (hr : Room 2 X.A) (ha : PA X (e :: es) t) (hg : Gl X "Fact" := by rfl)
    (he : starEach (e :: es) X.env = (false, eval e X.env) :: starEach es X.env := by rfl) (hpl : (backTo pos (starEach es X.env)).any (·.1) = false := by rfl) :
    PE X (.Call (.Name "Fact" p) (e :: es) [] pos) (tCB (rNewFact a) t) :=
  pe_new T.mk_Fact (ok_Fact_init T) hr T.mg_Fact T.b_Fact_init ha (fun vs H Q ⟨l, k, d, c, e1, q⟩ y dx h1 h2 h3 => by
    subst e1
    exact ⟨y, dx, l, k, d, c, rfl, upd_same, fun H' h4 h5 => ⟨rfl, q y H' (But.made h1 h2 h5) ⟨dx, h4⟩⟩⟩) hg (by decide) he hpl
def All2 {α β : Type} (R : α → β → Prop) (xs : List α) (ys : List β) : Prop := xs.length = ys.length ∧ ∀ (i : Nat) x y, xs[i]? = some x → ys[i]? = some y → R x y
section
variable {α β : Type} {R R' : α → β → Prop}
theorem All2.nil : All2 R [] [] := ⟨rfl, fun i x y h => by simp at h⟩
theorem All2.mono {xs : List α} {ys : List β} (h : All2 R xs ys) (m : ∀ x y, R x y → R' x y) : All2 R' xs ys := ⟨h.1, fun i x y h1 h2 => m x y (h.2 i x y h1 h2)⟩
theorem All2.get {xs : List α} {ys : List β} (h : All2 R xs ys) {i : Nat} {x : α} (e : xs[i]? = some x) : ∃ y, ys[i]? = some y ∧ R x y := by
  have hi := (List.getElem?_eq_some_iff.mp e).1
  have e2 := List.getElem?_eq_getElem (l := ys) (i := i) (by rw [← h.1]; exact hi)
  exact ⟨_, e2, h.2 i _ _ e e2⟩
theorem All2.get' {xs : List α} {ys : List β} (h : All2 R xs ys) {i : Nat} {y : β} (e : ys[i]? = some y) : ∃ x, xs[i]? = some x ∧ R x y := by
  have hi := (List.getElem?_eq_some_iff.mp e).1
  have e2 := List.getElem?_eq_getElem (l := xs) (i := i) (by rw [h.1]; exact hi)
  exact ⟨_, e2, h.2 i _ _ e2 e⟩
theorem All2.cons {x : α} {y : β} {xs : List α} {ys : List β} (r : R x y) (h : All2 R xs ys) : All2 R (x :: xs) (y :: ys) := by
  refine ⟨by simp [h.1], fun i u v h1 h2 => ?_⟩
  cases i with
  | zero => simp at h1 h2; subst h1 h2; exact r
  | succ i => exact h.2 i u v (by simpa using h1) (by simpa using h2)
theorem All2.tail {x : α} {y : β} {xs : List α} {ys : List β} (h : All2 R (x :: xs) (y :: ys)) : R x y ∧ All2 R xs ys :=
  ⟨h.2 0 x y rfl rfl, by simpa using h.1, fun i u v h1 h2 => h.2 (i + 1) u v (by simpa using h1) (by simpa using h2)⟩
theorem All2.append {xs xs' : List α} {ys ys' : List β} (h : All2 R xs ys) (h' : All2 R xs' ys') : All2 R (xs ++ xs') (ys ++ ys') := by
  refine ⟨by rw [List.length_append, List.length_append, h.1, h'.1], fun i u v h1 h2 => ?_⟩
  by_cases hi : i < xs.length
  · rw [List.getElem?_append_left hi] at h1
    rw [List.getElem?_append_left (by rw [← h.1]; exact hi)] at h2
    exact h.2 i u v h1 h2
  · rw [List.getElem?_append_right (by omega)] at h1
    rw [List.getElem?_append_right (by rw [← h.1]; omega), ← h.1] at h2
    exact h'.2 _ u v h1 h2
theorem All2.take {xs : List α} {ys : List β} (h : All2 R xs ys) (n : Nat) : All2 R (xs.take n) (ys.take n) := by
  refine ⟨by rw [List.length_take, List.length_take, h.1], fun i u v h1 h2 => ?_⟩
  rw [List.getElem?_take] at h1 h2
  split at h1
  · rename_i q
    rw [if_pos q] at h2
    exact h.2 i u v h1 h2
  · cases h1
end
theorem findIdx_some {α : Type} {p : α → Bool} : ∀ {l : List α} {i : Nat} {x : α}, l[i]? = some x → p x = true → (∀ (j : Nat) y, j < i → l[j]? = some y → p y = false) → l.findIdx? p = some i
  | [], i, x, h, _, _ => by simp at h
  | a :: l, 0, x, h, hp, _ => by
    have e : a = x := Option.some.inj h
    subst e
    rw [List.findIdx?_cons, hp]
    rfl
  | a :: l, i + 1, x, h, hp, hn => by
    rw [List.findIdx?_cons, hn 0 a (Nat.zero_lt_succ _) rfl, findIdx_some (l := l) (i := i) (x := x) h hp fun j y hj hy => hn (j + 1) y (by omega) hy]
    rfl
theorem findIdx_none {α : Type} {p : α → Bool} {l : List α} (h : ∀ (j : Nat) y, l[j]? = some y → p y = false) : l.findIdx? p = none := by
  rw [List.findIdx?_eq_none_iff]
  intro x hx
  obtain ⟨i, hi, e⟩ := List.getElem_of_mem hx
  rw [h i x (by rw [List.getElem?_eq_getElem hi, e])]
def Facts (a : Ad) (H : Hp) (l : Addr) (fs : List F) : Prop := ∃ xs : List Addr, H l = some (.lst (xs.map V.ref)) ∧ All2 (FactAt a H) xs fs
theorem Facts.mono {a : Ad} {H H' : Hp} {l : Addr} {fs : List F} (h : Facts a H l fs) (s : Same H H') : Facts a H' l fs := by
  obtain ⟨xs, h1, h2⟩ := h
  exact ⟨xs, s _ _ h1, h2.mono fun x y r => r.mono s⟩
def optV : Option Nat → V
  | none => .non
  | some i => .int (i : Nat)
end Lc
end
section
set_option Elab.async false
set_option linter.all false
set_option maxRecDepth 100000
set_option maxHeartbeats 1000000
namespace Lc
open PySem PySem.Spec PyProof.Rows L2
section
variable {P : Program} {w : World} {K : PySem.W.Frag} {mg : Str → Option Value} {base : Heap} {a : Ad}
def sp_holds_at (a : Ad) : Sp := fun vs H Q _ => ∃ (x l : Addr) (f : F) (ns : List Int), vs = [.ref x, .ref l] ∧ FactAt a H x f ∧ H l = some (.lst (ns.map V.int)) ∧ f.ts.length = ns.length ∧ ns.length ≤ 4 ∧ (∀ t ∈ f.ts, -5 ≤ t ∧ t ≤ 5) ∧ (f.k ≠ 0 → f.k ≠ 1 → 0 < f.d) ∧
  ∀ H' : Hp, Same H H' → Q (.bl (fHolds f ns)) H'
theorem sc_holds_at : FnScope ["fact", "values", "total", "each", "value"] ["fact", "values"] (defScope s_holds_at) := ⟨rfl, rfl, rfl, by decide +kernel, rfl, by decide +kernel, by decide +kernel⟩
theorem ok_holds_at (T : Txt K mg a) : FnOk P w K mg base CX0 1 a.f_holds_at a.d_holds_at ["fact", "values"] (sp_holds_at a) := by
  refine T.F_holds_at.ok sc_holds_at (fun vs H Q E h => ?_) (fun cdv A outer s H vs Q E hr h => ?_)
  · obtain ⟨x, l, f, ns, rfl, _⟩ := h
    rfl
  · obtain ⟨x, l, f, ns, rfl, hf, hl, hlen, h4, hsm, hd, q⟩ := h
    refine ⟨_, pss_cons (ps_set (i := 2) sc_holds_at.nd rfl (Or.inl rfl) (pe_callB (cr_sum rfl) rfl T.bl_sum boot_sum (pa_cons
        (pe_lc (own := [("each", 3), ("value", 4)]) (g := gTup K 2 (gCons (gName 3) (gCons (gName 4) gNil))) rfl sc_holds_at.nd (pi_zip rfl T.bl_zip (pa_cons (pg 0) (pa_cons (pv 1) pa_nil))) (blkOk_by rfl)
          (fun _ _ _ _ _ => pg_tup (n := 2) rfl (pgs_cons (pn 3 sc_holds_at.nd rfl rfl) (pgs_cons (pn 4 sc_holds_at.nd rfl rfl) pgs_nil)))
          (fun _ _ _ _ _ => pts_nil) (fun _ _ _ _ _ => pe_op op_mul (pv 3) (pv 4))) pa_nil)))
      (pss_cons (ps_if (pt_cmpR op_eq (pg 0) (pe_cst T.c_AT_MOST) (nomark _)) (pss_one (ps_ret (pe_cmpR op_le (pv 2) (pg 0) (nomark _)))) pss_nil)
      (pss_cons (ps_if (pt_cmpR op_eq (pg 0) (pe_cst T.c_JUST) (nomark _)) (pss_one (ps_ret (pe_cmpR op_eq (pv 2) (pg 0) (nomark _)))) pss_nil)
      (pss_one (ps_ret (pe_cmpR op_eq (pe_op op_mod (pv 2) (pg 0)) (pg 0) (nomark _)))))), ?_⟩
    obtain ⟨lt, ft, hlt⟩ := hf.times T
    refine ⟨_, rfl, _, ft, _, rfl, lt, l, _, _, rfl, SqL.of hlt, SqL.of hl, fun D hD => ?_⟩
    generalize hp : (f.ts.zip ns).map (fun x => x.1 * x.2) = ps
    have lp : ps.length = f.ts.length := by rw [← hp, List.length_map, List.length_zip, hlen, Nat.min_self]
    refine lc_zip (xs := f.ts.map V.int) (ys := ns.map V.int) (by simp [hlen]) (fun i H' => H' D = some (.lst ((ps.take i).map V.int)) ∧ Same H H') ⟨upd_same, Same.upd hD⟩ (fun i H' _ h => ⟨SqL.of (h.2 _ _ hlt), SqL.of (h.2 _ _ hl)⟩) ?_ ?_
    · rintro i x y H' S hx hy ⟨hD', hs⟩ hS
      obtain ⟨u, hu, rfl⟩ := map_get hx
      obtain ⟨v, hv, rfl⟩ := map_get hy
      have hb := hsm u (List.mem_of_getElem? hu)
      refine ⟨S, _, rfl, SqT.of upd_same, rfl, _, _, rfl, _, _, rfl, rfl, rfl, yes ?_⟩
      refine ⟨_, rfl, _, rfl, u, v, rfl, rfl, .inl ⟨by omega, by omega⟩, _, (Same.upd hS) _ _ hD', ?_, ?_, ?_⟩
      · rw [List.length_map, List.length_take, lp, hlen, sizeLine_eq]; omega
      · have e : ps[i]? = some (u * v) := by rw [← hp, List.getElem?_map, List.getElem?_zip_eq_some (z := (u, v)) |>.mpr ⟨hu, hv⟩]; rfl
        rw [upd_same, take_snoc e, List.map_append]
        rfl
      · exact fun b o e => by rw [upd_ne (ne_of_none e hD)]; exact (Same.upd hS) _ _ (hs _ _ e)
    · rintro H' ⟨hD', hs⟩
      rw [take_all ps (by rw [List.length_map]; omega)] at hD'
      refine ⟨D, ps, rfl, SqL.of hD', ?_⟩
      have hf' := hf.mono hs
      have fk := hf'.kind T
      have fn := hf'.number T
      have fd := hf'.divisor T
      refine ⟨_, rfl, _, fk, rfl, _, rfl, ite2 (fun h0 => ?_) (fun h0 => ?_)⟩
      · refine ⟨_, rfl, _, rfl, _, fn, _, _, rfl, rfl, ?_⟩
        have z := q H' hs
        unfold fHolds at z
        rw [if_pos (decI.mp h0), hp] at z
        exact z
      · refine ⟨_, rfl, _, fk, rfl, _, rfl, ite2 (fun h1 => ?_) (fun h1 => ?_)⟩
        · refine ⟨_, rfl, _, rfl, _, fn, rfl, ?_⟩
          have z := q H' hs
          unfold fHolds at z
          rw [if_neg (fun e => h0 (decI.mpr e)), if_pos (decI.mp h1), hp, ← decI'] at z
          exact z
        · have k0 : f.k ≠ 0 := fun e => h0 (decI.mpr e)
          have k1 : f.k ≠ 1 := fun e => h1 (decI.mpr e)
          refine ⟨_, rfl, _, rfl, _, fd, _, _, rfl, rfl, hd k0 k1, _, rfl, _, fn, rfl, ?_⟩
          have z := q H' hs
          unfold fHolds at z
          rw [if_neg k0, if_neg k1, hp, ← decI'] at z
          exact z
def sp_first_not_holding (a : Ad) : Sp := fun vs H Q _ => ∃ (l m : Addr) (fs : List F) (ns : List Int), vs = [.ref l, .ref m] ∧ Facts a H l fs ∧ H m = some (.lst (ns.map V.int)) ∧ ns.length ≤ 4 ∧ (∀ f ∈ fs, f.ts.length = ns.length ∧ (∀ t ∈ f.ts, -5 ≤ t ∧ t ≤ 5) ∧ (f.k ≠ 0 → f.k ≠ 1 → 0 < f.d)) ∧
  ∀ H' : Hp, Same H H' → Q (optV (fs.findIdx? fun f => !fHolds f ns)) H'
theorem sc_first_not_holding : FnScope ["facts", "values", "place", "fact"] ["facts", "values"] (defScope s_first_not_holding) := ⟨rfl, rfl, rfl, by decide +kernel, rfl, by decide +kernel, by decide +kernel⟩
theorem ok_first_not_holding (T : Txt K mg a) : FnOk P w K mg base CX0 2 a.f_first_not_holding a.d_first_not_holding ["facts", "values"] (sp_first_not_holding a) := by
  refine T.F_first_not_holding.ok sc_first_not_holding (fun vs H Q E h => ?_) (fun cdv A outer s H vs Q E hr h => ?_)
  · obtain ⟨l, m, fs, ns, rfl, _⟩ := h
    rfl
  · obtain ⟨l, m, fs, ns, rfl, ⟨xs, hl, hx⟩, hm, h4, hall, q⟩ := h
    refine ⟨_, pss_cons (ps_for PassesOwn.never rfl (pi_enum rfl T.bl_enumerate (pa_cons (pv 0) pa_nil)) (pg_tup (n := 2) rfl (pgs_cons (pn 2 sc_first_not_holding.nd rfl rfl) (pgs_cons (pn 3 sc_first_not_holding.nd rfl rfl) pgs_nil)))
        (pss_one (ps_if (pt_not (pt_val (pe_call (ok_holds_at T) hr rfl T.g_holds_at T.F_holds_at.kp T.b_holds_at .nil pass0 (pa_cons (pv 3) (pa_cons (pv 1) pa_nil))))) (pss_one (ps_ret (pv 2))) pss_nil)))
      (pss_one (ps_ret pe_non)), ?_⟩
    refine ⟨_, rfl, l, _, rfl, SqL.of hl, for_enum (K := K) (xs := xs.map V.ref) (fun i σ H' => (∃ v2 v3, σ = [some (.ref l), some (.ref m), v2, v3]) ∧ Same H H' ∧ ∀ (j : Nat) f, j < i → fs[j]? = some f → fHolds f ns = true) ⟨⟨none, none, rfl⟩, Same.refl H, fun j f h => absurd h (Nat.not_lt_zero _)⟩ (fun i σ H' _ h => SqL.of (h.2.1 _ _ hl)) ?_ ?_⟩
    · rintro i x σ H' S hi ⟨⟨v2, v3, rfl⟩, hs, hn⟩ hS
      obtain ⟨y, hy, rfl⟩ := map_get hi
      obtain ⟨f, hf, fa⟩ := hx.get hy
      have s2 : Same H (upd H' S (.tup [.int (i : Nat), .ref y])) := hs.trans (Same.upd hS)
      obtain ⟨c1, c2, c3⟩ := hall f (List.mem_of_getElem? hf)
      refine ⟨S, _, rfl, SqT.of upd_same, rfl, _, _, rfl, _, _, rfl, rfl, ?_⟩
      refine ⟨_, rfl, _, rfl, y, m, f, ns, rfl, fa.mono s2, s2 _ _ hm, c1, h4, c2, c3, fun H2 s3 => ?_⟩
      refine ⟨_, rfl, ?_⟩
      cases hb : fHolds f ns with
      | true =>
        refine iteF ⟨⟨_, _, rfl⟩, s2.trans s3, fun j g hj hg => ?_⟩
        rcases Nat.lt_succ_iff_lt_or_eq.mp hj with h | h
        · exact hn j g h hg
        · subst h
          rw [hf] at hg
          cases hg
          exact hb
      | false =>
        refine iteT ⟨_, rfl, ?_⟩
        have z := q H2 (s2.trans s3)
        rw [findIdx_some hf (by simp [hb]) fun j g hj hg => by simp [hn j g hj hg]] at z
        exact z
    · rintro σ H' ⟨⟨v2, v3, rfl⟩, hs, hn⟩
      have z := q H' hs
      rw [findIdx_none fun j f hf => by
        have := (List.getElem?_eq_some_iff.mp hf).1
        simp [hn j f (by rw [List.length_map, hx.1]; exact this) hf]] at z
      exact z
def sp_contrary (a : Ad) : Sp := fun vs H Q _ => ∃ (x : Addr) (f : F), vs = [.ref x] ∧ FactAt a H x f ∧ f.ts.length ≤ 4 ∧ ∀ (y : Addr) (H' : Hp), Same H H' → FactAt a H' y (mContrary f) → Q (.ref y) H'
theorem sc_contrary : FnScope ["fact", "each"] ["fact"] (defScope s_contrary) := ⟨rfl, rfl, rfl, by decide +kernel, rfl, by decide +kernel, by decide +kernel⟩
theorem ok_contrary (T : Txt K mg a) : FnOk P w K mg base CX0 3 a.f_contrary a.d_contrary ["fact"] (sp_contrary a) := by
  refine T.F_contrary.ok sc_contrary (fun vs H Q E h => ?_) (fun cdv A outer s H vs Q E hr h => ?_)
  · obtain ⟨x, f, rfl, _⟩ := h
    rfl
  · obtain ⟨x, f, rfl, hf, h4, q⟩ := h
    refine ⟨_, pss_one (ps_ret (pe_newFact T hr (pa_cons (pe_lc (own := [("each", 1)]) rfl sc_contrary.nd (pi_list (pg 0)) (blkOk_by rfl) (fun _ _ _ _ _ => pn 1 sc_contrary.nd rfl rfl) (fun _ _ _ _ _ => pts_nil) (fun _ _ _ _ _ => pe_un un_neg (pv 1)))
      (pa_cons (pe_cst T.c_AT_MOST) (pa_cons pe_int (pa_cons (pe_op op_sub (pe_un un_neg (pg 0)) pe_int) pa_nil)))))), ?_⟩
    obtain ⟨lt, ft, hlt⟩ := hf.times T
    refine ⟨_, rfl, _, ft, lt, rfl, ⟨_, SqL.of hlt⟩, fun D hD => ?_⟩
    refine lc_list (K := K) (xs := f.ts.map V.int) (fun i H' => H' D = some (.lst (((f.ts.map fun z => -z).take i).map V.int)) ∧ Same H H') ⟨upd_same, Same.upd hD⟩ (fun i H' _ h => SqL.of (h.2 _ _ hlt)) ?_ ?_
    · rintro i y H' hx ⟨hD', hs⟩
      obtain ⟨u, hu, rfl⟩ := map_get hx
      refine ⟨rfl, yes ?_⟩
      refine ⟨_, rfl, u, rfl, _, hD', ?_, ?_, ?_⟩
      · rw [List.length_map, List.length_take, List.length_map, sizeLine_eq]; omega
      · have e : (f.ts.map fun z => -z)[i]? = some (-u) := by rw [List.getElem?_map, hu]; rfl
        rw [upd_same, take_snoc e, List.map_append]
        rfl
      · exact fun b o e => by rw [upd_ne (ne_of_none e hD)]; exact hs _ _ e
    · rintro H' ⟨hD', hs⟩
      rw [take_all _ (by rw [List.length_map, List.length_map]; exact Nat.le_refl _)] at hD'
      have hf' := hf.mono hs
      refine ⟨_, rfl, _, hf'.number T, _, rfl, _, _, rfl, rfl, D, _, _, _, rfl, fun y H2 s2 ⟨dx, hy⟩ => ?_⟩
      exact q y H2 (hs.trans s2) ⟨dx, D, hy, s2 _ _ hD'⟩
end
end Lc
end
section
set_option Elab.async false
set_option linter.all false
set_option maxRecDepth 100000
set_option maxHeartbeats 1000000
namespace Lc
open PySem PySem.Spec PyProof.Rows L2
open VaaclBase (Test Branch Loop)
def srcV : Option Nat → V
  | none => .non
  | some j => .int (j : Nat)
def givenFs (v : V) (z : Int) : List (Str × V) := [("source", v), ("added", .int z)]
def branchFs (lt lm : Addr) : List (Str × V) := [("tests", .ref lt), ("move", .ref lm)]
structure GivenAt (a : Ad) (H : Hp) (x : Addr) (g : VaaclBase.Given) : Prop where
  ex : ∃ dx, H x = some (.ins a.C_Given dx (givenFs (srcV g.source) g.add))
def Givens (a : Ad) (H : Hp) (l : Addr) (gs : VaaclBase.Move) : Prop := ∃ xs : List Addr, H l = some (.lst (xs.map V.ref)) ∧ All2 (GivenAt a H) xs gs
def testFs (n : Nat) (b : Branch) : List F := b.guard.map fun t => mF (Vaaclf.ofTest n t)
structure BranchAt (a : Ad) (n : Nat) (H : Hp) (x : Addr) (b : Branch) : Prop where
  ex : ∃ dx lt lm, H x = some (.ins a.C_Branch dx (branchFs lt lm)) ∧ Facts a H lt (testFs n b) ∧ Givens a H lm b.move
def Branches (a : Ad) (n : Nat) (H : Hp) (l : Addr) (bs : Loop) : Prop := ∃ xs : List Addr, H l = some (.lst (xs.map V.ref)) ∧ All2 (BranchAt a n H) xs bs
section
variable {K : PySem.W.Frag} {mg : Str → Option Value} {a : Ad} {n : Nat} {H H' : Hp} {x l : Addr}
theorem GivenAt.mono {g : VaaclBase.Given} (h : GivenAt a H x g) (s : Same H H') : GivenAt a H' x g := let ⟨dx, h1⟩ := h.ex; ⟨dx, s _ _ h1⟩
theorem Givens.mono {gs : VaaclBase.Move} (h : Givens a H l gs) (s : Same H H') : Givens a H' l gs := let ⟨xs, h1, h2⟩ := h; ⟨xs, s _ _ h1, h2.mono fun x y r => r.mono s⟩
theorem BranchAt.mono {b : Branch} (h : BranchAt a n H x b) (s : Same H H') : BranchAt a n H' x b := let ⟨dx, lt, lm, h1, h2, h3⟩ := h.ex; ⟨dx, lt, lm, s _ _ h1, h2.mono s, h3.mono s⟩
theorem Branches.mono {bs : Loop} (h : Branches a n H l bs) (s : Same H H') : Branches a n H' l bs := let ⟨xs, h1, h2⟩ := h; ⟨xs, s _ _ h1, h2.mono fun x y r => r.mono s⟩
theorem GivenAt.source {g : VaaclBase.Given} (h : GivenAt a H x g) (T : Txt K mg a) : Fld K H (.ref x) "source" (srcV g.source) := let ⟨dx, h1⟩ := h.ex; ⟨x, _, dx, _, rfl, h1, T.cl_Given, T.na_Given_source, rfl⟩
theorem GivenAt.added {g : VaaclBase.Given} (h : GivenAt a H x g) (T : Txt K mg a) : Fld K H (.ref x) "added" (.int g.add) := let ⟨dx, h1⟩ := h.ex; ⟨x, _, dx, _, rfl, h1, T.cl_Given, T.na_Given_added, rfl⟩
theorem BranchAt.tests {b : Branch} (h : BranchAt a n H x b) (T : Txt K mg a) : ∃ lt, Fld K H (.ref x) "tests" (.ref lt) ∧ Facts a H lt (testFs n b) := let ⟨dx, lt, lm, h1, h2, _⟩ := h.ex; ⟨lt, ⟨x, _, dx, _, rfl, h1, T.cl_Branch, T.na_Branch_tests, rfl⟩, h2⟩
theorem BranchAt.move {b : Branch} (h : BranchAt a n H x b) (T : Txt K mg a) : ∃ lm, Fld K H (.ref x) "move" (.ref lm) ∧ Givens a H lm b.move := let ⟨dx, lt, lm, h1, _, h3⟩ := h.ex; ⟨lm, ⟨x, _, dx, _, rfl, h1, T.cl_Branch, T.na_Branch_move, rfl⟩, h3⟩
end
section
variable {P : Program} {w : World} {K : PySem.W.Frag} {mg : Str → Option Value} {base : Heap} {a : Ad}
def sp_Given_init (a : Ad) : Sp := fun vs H Q _ => ∃ (p dx : Addr) (v : V) (z : Int), vs = [.ref p, v, .int z] ∧ H p = some (.ins a.C_Given dx []) ∧ ∀ H' : Hp, H' p = some (.ins a.C_Given dx (givenFs v z)) → But p H H' → Q .non H'
theorem sc_Given_init : FnScope ["self", "source", "added"] ["self", "source", "added"] (defScope s_Given_init) := ⟨rfl, rfl, rfl, by decide +kernel, rfl, by decide +kernel, by decide +kernel⟩
theorem ok_Given_init (T : Txt K mg a) : FnOk P w K mg base CX0 1 a.f_Given_init a.d_Given_init ["self", "source", "added"] (sp_Given_init a) := by
  refine T.F_Given_init.ok sc_Given_init (fun vs H Q E h => ?_) (fun cdv A outer s H vs Q E hr h => ?_)
  · obtain ⟨p, dx, v, z, rfl, _⟩ := h
    rfl
  · obtain ⟨p, dx, v, z, rfl, hp, q⟩ := h
    refine ⟨_, pss_cons (ps_fld (pv 0) (pv 1) rfl) (pss_one (ps_fld (pv 0) (pv 2) rfl)), ?_⟩
    refine ⟨_, rfl, _, rfl, p, _, dx, _, rfl, hp, T.cl_Given, T.na_Given_source, (by show 0 < 1000; decide), ?_⟩
    refine ⟨_, rfl, _, rfl, p, _, dx, _, rfl, upd_same, T.cl_Given, T.na_Given_added, (by show 1 < 1000; decide), ?_⟩
    rw [upd_upd]
    exact q _ upd_same fun b o e hb => by rw [upd_ne hb]; exact e
def sp_Branch_init (a : Ad) : Sp := fun vs H Q _ => ∃ (p dx lt lm : Addr), vs = [.ref p, .ref lt, .ref lm] ∧ H p = some (.ins a.C_Branch dx []) ∧ ∀ H' : Hp, H' p = some (.ins a.C_Branch dx (branchFs lt lm)) → But p H H' → Q .non H'
theorem sc_Branch_init : FnScope ["self", "tests", "move"] ["self", "tests", "move"] (defScope s_Branch_init) := ⟨rfl, rfl, rfl, by decide +kernel, rfl, by decide +kernel, by decide +kernel⟩
theorem ok_Branch_init (T : Txt K mg a) : FnOk P w K mg base CX0 1 a.f_Branch_init a.d_Branch_init ["self", "tests", "move"] (sp_Branch_init a) := by
  refine T.F_Branch_init.ok sc_Branch_init (fun vs H Q E h => ?_) (fun cdv A outer s H vs Q E hr h => ?_)
  · obtain ⟨p, dx, lt, lm, rfl, _⟩ := h
    rfl
  · obtain ⟨p, dx, lt, lm, rfl, hp, q⟩ := h
    refine ⟨_, pss_cons (ps_fld (pv 0) (pv 1) rfl) (pss_one (ps_fld (pv 0) (pv 2) rfl)), ?_⟩
    refine ⟨_, rfl, _, rfl, p, _, dx, _, rfl, hp, T.cl_Branch, T.na_Branch_tests, (by show 0 < 1000; decide), ?_⟩
    refine ⟨_, rfl, _, rfl, p, _, dx, _, rfl, upd_same, T.cl_Branch, T.na_Branch_move, (by show 1 < 1000; decide), ?_⟩
    rw [upd_upd]
    exact q _ upd_same fun b o e hb => by rw [upd_ne hb]; exact e
end
section
variable {X : Cx} {a : Ad} {p pos : Pos} {e : Expr} {es : List Expr} {t : TA}
end
section
variable {P : Program} {w : World} {K : PySem.W.Frag} {mg : Str → Option Value} {base : Heap} {a : Ad}
def branch0 : Branch := ⟨[.atMost 0 (-1), .atLeast 0 0], VaaclBase.still 1⟩
theorem sc_never_chosen : FnScope ["tests"] [] (defScope s_never_chosen) := ⟨rfl, rfl, rfl, by decide +kernel, rfl, by decide +kernel, by decide +kernel⟩
end
end Lc
end
section
set_option Elab.async false
set_option linter.all false
set_option maxRecDepth 100000
set_option maxHeartbeats 1000000
namespace Lc
open PySem PySem.Spec PyProof.Rows L2
open VaaclBase (Test Branch Loop)
section
variable {P : Program} {w : World} {K : PySem.W.Frag} {mg : Str → Option Value} {base : Heap} {a : Ad}
theorem rep_zero (n : Nat) : (List.replicate n [V.int 0]).flatten = (List.replicate n (0 : Int)).map V.int := by
  induction n with
  | zero => rfl
  | succ n ih => rw [List.replicate_succ, List.flatten_cons, ih, List.replicate_succ]; rfl
theorem ixN_nat {n j : Nat} (h : j < n) : ixN n ((j : Nat) : Int) = some j := by
  unfold ixN
  rw [if_pos (by omega), if_pos (by omega)]
  simp
def sp_ahead_of (a : Ad) : Sp := fun vs H Q _ => ∃ (m x : Addr) (mv : VaaclBase.Move) (f : F), vs = [.ref m, .ref x] ∧ Givens a H m mv ∧ FactAt a H x f ∧ f.ts.length = mv.length ∧ mv.length ≤ 4 ∧ (∀ g ∈ mv, ∀ j, g.source = some j → j < mv.length) ∧ (∀ g ∈ mv, -99 ≤ g.add ∧ g.add ≤ 99) ∧ (f.k = 2 → 0 < f.d) ∧
  ∀ (y : Addr) (H' : Hp), Same H H' → FactAt a H' y (mAhead mv f) → Q (.ref y) H'
theorem sc_ahead_of : FnScope ["move", "fact", "together", "number", "each", "given"] ["move", "fact"] (defScope s_ahead_of) := ⟨rfl, rfl, rfl, by decide +kernel, rfl, by decide +kernel, by decide +kernel⟩
theorem ok_ahead_of (T : Txt K mg a) : FnOk P w K mg base CX0 3 a.f_ahead_of a.d_ahead_of ["move", "fact"] (sp_ahead_of a) := by
  refine T.F_ahead_of.ok sc_ahead_of (fun vs H Q E h => ?_) (fun cdv A outer s H vs Q E hr h => ?_)
  · obtain ⟨m, x, mv, f, rfl, _⟩ := h
    rfl
  · obtain ⟨m, x, mv, f, rfl, ⟨ms, hm, hms⟩, hf, hlen, h4, hsrc, hadd, hd, q⟩ := h
    refine ⟨_, pss_cons (ps_set (i := 2) sc_ahead_of.nd rfl (Or.inl rfl) (pe_op op_rep (pe_lst (pa_cons pe_int pa_nil)) (pe_callB call_len_seq rfl T.bl_len PySem.boot_len (pa_cons (pv 0) pa_nil))))
      (pss_cons (ps_set (i := 3) sc_ahead_of.nd rfl (Or.inl rfl) (pg 1))
      (pss_cons (ps_for PassesOwn.never rfl (pi_zip rfl T.bl_zip (pa_cons (pg 1) (pa_cons (pv 0) pa_nil))) (pg_tup (n := 2) rfl (pgs_cons (pn 4 sc_ahead_of.nd rfl rfl) (pgs_cons (pn 5 sc_ahead_of.nd rfl rfl) pgs_nil)))
        (pss_cons (ps_if (pt_cmp (pc_notN (pg 5))) (pss_one (ps_augS (pv 2) (pg 5) get_list (pv 4) ip_add set_list)) pss_nil)
          (pss_one (ps_aug (i := 3) sc_ahead_of.nd rfl (Or.inl rfl) (pe_op op_mul (pv 4) (pg 5)) ip_sub))))
      (pss_cons (ps_if (pt_cmpR op_eq (pg 1) (pe_cst T.c_REMAINDER) (nomark _)) (pss_one (ps_set (i := 3) sc_ahead_of.nd rfl (Or.inl rfl) (pe_op op_mod (pv 3) (pg 1)))) pss_nil)
      (pss_one (ps_ret (pe_newFact T hr (pa_cons (pv 2) (pa_cons (pg 1) (pa_cons (pg 1) (pa_cons (pv 3) pa_nil)))))))))), ?_⟩
    have hml : ms.length = mv.length := hms.1
    refine ⟨(by show 1 ≤ sizeLine; decide), fun l0 n0 => ?_⟩
    have s0 : Same H (upd H l0 (.lst [.int 0])) := Same.upd n0
    refine ⟨_, rfl, m, _, rfl, .inl (SqL.of (s0 _ _ hm)), l0, _, _, rfl, rfl, upd_same, by omega, by rw [List.length_map]; omega, ?_, fun D hD => ?_⟩
    · rw [List.length_map, sizeLine_eq]; show 1 * _ ≤ _; omega
    have s1 : Same H (upd (upd H l0 (.lst [.int 0])) D (.lst (List.replicate ((ms.map V.ref).length : Int).toNat [V.int 0]).flatten)) := s0.trans (Same.upd hD)
    have hD1 : (upd (upd H l0 (.lst [.int 0])) D (.lst (List.replicate ((ms.map V.ref).length : Int).toNat [V.int 0]).flatten)) D = some (.lst ((List.replicate mv.length (0 : Int)).map V.int)) := by
      rw [upd_same, rep_zero, List.length_map, hml]
      rfl
    have hDn : H D = none := s0.free hD
    generalize upd (upd H l0 (.lst [.int 0])) D (.lst (List.replicate ((ms.map V.ref).length : Int).toNat [V.int 0]).flatten) = H1 at s1 hD1 ⊢
    have hf1 := hf.mono s1
    refine ⟨_, rfl, _, hf1.number T, ?_⟩
    obtain ⟨lt, ft, hlt⟩ := hf.times T
    have hft1 : Fld K H1 (.ref x) "times" (.ref lt) := by
      obtain ⟨b, C, dx, fs, e1, e2, e3, e4, e5⟩ := ft
      exact ⟨b, C, dx, fs, e1, s1 _ _ e2, e3, e4, e5⟩
    refine ⟨_, rfl, _, hft1, _, rfl, lt, m, _, _, rfl, SqL.of (s1 _ _ hlt), SqL.of (s1 _ _ hm), ?_⟩
    refine for_zip (K := K) (xs := f.ts.map V.int) (ys := ms.map V.ref) (by rw [List.length_map, List.length_map, hlen, hml]) (fun i σ H' => ∃ v4 v5, σ = [some (.ref m), some (.ref x), some (.ref D), some (.int (((f.ts.zip mv).take i).foldl aStep (List.replicate mv.length 0, f.c)).2), v4, v5] ∧
      H' D = some (.lst ((((f.ts.zip mv).take i).foldl aStep (List.replicate mv.length 0, f.c)).1.map V.int)) ∧ Same H H') ⟨none, none, rfl, hD1, s1⟩ (fun i σ H' _ ⟨_, _, _, _, s2⟩ => ⟨SqL.of (s2 _ _ hlt), SqL.of (s2 _ _ hm)⟩) ?_ ?_
    · rintro i u g σ H' S hu hg ⟨v4, v5, rfl, hD', hs⟩ hS
      obtain ⟨t, ht, rfl⟩ := map_get hu
      obtain ⟨y, hy, rfl⟩ := map_get hg
      obtain ⟨gv, hgv, ga⟩ := hms.get hy
      have hz : (f.ts.zip mv)[i]? = some (t, gv) := List.getElem?_zip_eq_some.mpr ⟨ht, hgv⟩
      have mg' := List.mem_of_getElem? hgv
      have ha := hadd gv mg'
      rw [take_snoc hz, List.foldl_append]
      generalize hst : ((f.ts.zip mv).take i).foldl aStep (List.replicate mv.length 0, f.c) = st at hD' ⊢
      have lst : st.1.length = mv.length := by rw [← hst, aFold_len]; exact List.length_replicate
      have s2 : Same H (upd H' S (.tup [.int t, .ref y])) := hs.trans (Same.upd hS)
      have hD2 := (Same.upd hS (o := .tup [.int t, .ref y])) _ _ hD'
      have g2 := ga.mono s2
      refine ⟨S, _, rfl, SqT.of upd_same, rfl, _, _, rfl, _, _, rfl, rfl, ?_⟩
      refine ⟨_, rfl, _, g2.source T, _, rfl, ?_⟩
      cases hsv : gv.source with
      | none =>
        refine iteF ?_
        refine ⟨_, rfl, _, rfl, _, rfl, _, g2.added T, t, gv.add, rfl, rfl, .inr ⟨by omega, by omega⟩, _, _, rfl, rfl, ?_⟩
        refine ⟨_, _, rfl, ?_, s2⟩
        show _ = some (HO.lst ((aStep st (t, gv)).1.map V.int))
        unfold aStep
        simp only [hsv]
        exact hD2
      | some j =>
        have hj := hsrc gv mg' j hsv
        refine iteT ?_
        have e2 := g2.source T
        rw [hsv] at e2
        refine ⟨_, rfl, _, rfl, _, e2, D, _, j, .int (st.1.getD j 0), rfl, rfl, SqL.of hD2, ?_, ?_⟩
        · rw [List.getElem?_map, List.getD_eq_getElem?_getD, List.getElem?_eq_getElem (by omega)]
          rfl
        refine ⟨_, rfl, _, _, rfl, rfl, D, _, _, j, rfl, rfl, hD2, ixN_nat (by rw [List.length_map, lst]; exact hj), ?_⟩
        have s3 : Same H (upd (upd H' S (.tup [.int t, .ref y])) D (.lst ((st.1.map V.int).set j (.int (st.1.getD j 0 + t))))) := fun b o e => by rw [upd_ne (ne_of_none e hDn)]; exact s2 _ _ e
        refine ⟨_, rfl, _, rfl, _, rfl, _, (ga.mono s3).added T, t, gv.add, rfl, rfl, .inr ⟨by omega, by omega⟩, _, _, rfl, rfl, ?_⟩
        refine ⟨_, _, rfl, ?_, s3⟩
        rw [upd_same]
        show _ = some (HO.lst ((aStep st (t, gv)).1.map V.int))
        unfold aStep
        simp only [hsv]
        rw [List.map_set]
    · rintro σ H' ⟨v4, v5, rfl, hD', hs⟩
      rw [take_all (f.ts.zip mv) (by rw [List.length_map, List.length_zip]; omega)] at hD' ⊢
      generalize hst : (f.ts.zip mv).foldl aStep (List.replicate mv.length 0, f.c) = st at hD' ⊢
      have hf2 := hf.mono hs
      have fin : ∀ z, z = (if f.k = 2 then st.2 % f.d else st.2) → ∀ (y : Addr) (H2 : Hp), Same H' H2 → (∃ dx, H2 y = some (.ins a.C_Fact dx (factFs D f.k f.d z))) → Q (.ref y) H2 := fun z hz y H2 s2 ⟨dx, e⟩ => by
        refine q y H2 (hs.trans s2) ⟨dx, D, ?_, ?_⟩
        · subst hz
          unfold mAhead
          simp only [hst]
          exact e
        · have : (mAhead mv f).ts = st.1 := by unfold mAhead; simp only [hst]
          rw [this]
          exact s2 _ _ hD'
      refine ⟨_, rfl, _, hf2.kind T, rfl, _, rfl, ite2 (fun h2 => ?_) (fun h2 => ?_)⟩
      · have k2 := decI.mp h2
        refine ⟨_, rfl, _, rfl, _, hf2.divisor T, _, _, rfl, rfl, hd k2, ?_⟩
        refine ⟨_, rfl, _, rfl, _, hf2.kind T, _, rfl, _, hf2.divisor T, _, rfl, D, _, _, _, rfl, fin _ (by rw [if_pos k2])⟩
      · have k2 : ¬ f.k = 2 := fun e => h2 (decI.mpr e)
        refine ⟨_, rfl, _, rfl, _, hf2.kind T, _, rfl, _, hf2.divisor T, _, rfl, D, _, _, _, rfl, fin _ (by rw [if_neg k2])⟩
def sp_where_not_chosen (a : Ad) : Sp := fun vs H Q _ => ∃ (x : Addr) (n : Nat) (b : Branch), vs = [.ref x] ∧ BranchAt a n H x b ∧ n ≤ 4 ∧ (∀ t ∈ b.guard, OkT n t) ∧ b.guard.length ≤ 3 ∧ ∀ (l : Addr) (H' : Hp), Same H H' → Facts a H' l (mWhere n b) → Q (.ref l) H'
theorem sc_where_not_chosen : FnScope ["branch"] ["branch"] (defScope s_where_not_chosen) := ⟨rfl, rfl, rfl, by decide +kernel, rfl, by decide +kernel, by decide +kernel⟩
theorem ok_where_not_chosen (T : Txt K mg a) : FnOk P w K mg base CX0 4 a.f_where_not_chosen a.d_where_not_chosen ["branch"] (sp_where_not_chosen a) := by
  refine T.F_where_not_chosen.ok sc_where_not_chosen (fun vs H Q E h => ?_) (fun cdv A outer s H vs Q E hr h => ?_)
  · obtain ⟨x, n, b, rfl, _⟩ := h
    rfl
  · obtain ⟨x, n, b, rfl, hb, hn, hok, h3, q⟩ := h
    refine ⟨_, pss_cons (ps_if (pw_or (pt_cmpR op_ne (pe_callB call_len_seq (by rfl) T.bl_len PySem.boot_len (pa_cons (pg 0) pa_nil)) pe_int (nomark _)) (pw_or1 (pt_cmpR op_eq (pe_fld (pe_ix ix_list (pg 0) pe_int (fun _ _ => rfl)) rfl) (pe_cst T.c_REMAINDER) (nomark _)))).pt
        (pss_one (ps_ret (pe_lst pa_nil))) pss_nil)
      (pss_one (ps_ret (pe_lst (pa_cons (pe_call (ok_contrary T) hr rfl T.g_contrary T.F_contrary.kp T.b_contrary .nil pass0 (pa_cons (pe_ix ix_list (pg 0) pe_int (fun _ _ => rfl)) pa_nil)) pa_nil)))), ?_⟩
    obtain ⟨lt, ft, ts, hlt, hts⟩ := hb.tests T
    have hlen : ts.length = b.guard.length := by rw [hts.1]; unfold testFs; rw [List.length_map]
    refine ⟨_, rfl, _, ft, lt, _, rfl, .inl (SqL.of hlt), rfl, _, rfl, ?_⟩
    have none : (match b.guard with | [t] => isRem t = true | _ => True) → ∀ l, H l = none → Q (.ref l) (upd H l (.lst [])) := fun hw l hl => by
      refine q l _ (Same.upd hl) ⟨[], upd_same, ?_⟩
      have e : mWhere n b = [] := by
        unfold mWhere
        split
        · rename_i t e
          rw [e] at hw
          rw [if_pos hw]
        · rfl
      rw [e]
      exact All2.nil
    refine ite2 (fun h1 => iteT ⟨Nat.zero_le _, none ?_⟩) (fun h1 => ?_)
    · split
      · rename_i t e
        exfalso
        rw [e] at hlen
        rw [List.length_map, hlen] at h1
        simp at h1
      · trivial
    · have h1' : b.guard.length = 1 := by
        apply Classical.byContradiction
        intro z
        apply h1
        rw [List.length_map, hlen]
        simp
        omega
      obtain ⟨t, ht⟩ : ∃ t, b.guard = [t] := List.length_eq_one_iff.mp h1'
      obtain ⟨y, hy⟩ : ∃ y, ts = [y] := List.length_eq_one_iff.mp (by rw [hlen]; exact h1')
      subst hy
      have fy : FactAt a H y (mF (Vaaclf.ofTest n t)) := by
        have := hts
        unfold testFs at this
        rw [ht] at this
        exact this.tail.1
      obtain ⟨b1, C1, dx1, fs1, e1, e2, e3, e4, e5⟩ := fy.kind T
      refine ⟨_, rfl, _, ft, lt, _, 0, .ref y, rfl, rfl, SqL.of hlt, rfl, b1, C1, dx1, fs1, _, e1, e2, e3, e4, e5, rfl, _, rfl, ite2 (fun h2 => ⟨Nat.zero_le _, none ?_⟩) (fun h2 => ?_)⟩
      · rw [ht]
        exact (isRem_k n t).mp (decI.mp h2)
      · have nr : ¬ isRem t = true := fun z => h2 (decI.mpr ((isRem_k n t).mpr z))
        have ot := ofTest_ok (hok t (by rw [ht]; exact List.mem_cons_self ..))
        refine ⟨_, rfl, _, ft, lt, _, 0, .ref y, rfl, rfl, SqL.of hlt, rfl, y, _, rfl, fy, by rw [mF_ts, ot.1]; exact hn, fun z H1 s1 fz => ⟨(by show 1 ≤ sizeLine; decide), fun l hl => ?_⟩⟩
        refine q l _ (s1.trans (Same.upd hl)) ⟨[z], upd_same, ?_⟩
        have e : mWhere n b = [mContrary (mF (Vaaclf.ofTest n t))] := by
          unfold mWhere
          rw [ht]
          exact if_neg nr
        rw [e]
        exact All2.cons (fz.mono (Same.upd hl)) All2.nil
theorem cut_take {xs : List V} {k : Nat} (h : k ≤ xs.length) : cutV xs none (some ((k : Nat) : Int)) = xs.take k := by
  have e1 : HT.sIx xs.length 0 none = 0 := rfl
  have e2 : HT.sIx xs.length xs.length (some ((k : Nat) : Int)) = k := by
    rw [HT.sIx_nat]
    omega
  unfold cutV
  rw [e1, e2]
  rfl
theorem mWhere_len (n : Nat) (b : Branch) : (mWhere n b).length ≤ 1 := by
  unfold mWhere
  split
  · split <;> simp
  · simp
theorem flat_len (n : Nat) : ∀ l : Loop, (l.flatMap (mWhere n)).length ≤ l.length
  | [] => Nat.le_refl _
  | b :: l => by
    rw [List.flatMap_cons, List.length_append, List.length_cons]
    have := mWhere_len n b
    have := flat_len n l
    omega
def sp_usable_for (a : Ad) : Sp := fun vs H Q _ => ∃ (lb lc : Addr) (n : Nat) (bs : Loop) (b : Nat) (cs : List F), vs = [.ref lb, .int (b : Nat), .ref lc] ∧ Branches a n H lb bs ∧ OkL n bs ∧ b < bs.length ∧ Facts a H lc cs ∧ cs.length ≤ 6 ∧ ∀ (l : Addr) (H' : Hp), Same H H' → Facts a H' l (mUsable bs n cs b) → Q (.ref l) H'
theorem sc_usable_for : FnScope ["branches", "place", "claim", "usable", "branch"] ["branches", "place", "claim"] (defScope s_usable_for) := ⟨rfl, rfl, rfl, by decide +kernel, rfl, by decide +kernel, by decide +kernel⟩
theorem ok_usable_for (T : Txt K mg a) : FnOk P w K mg base CX0 5 a.f_usable_for a.d_usable_for ["branches", "place", "claim"] (sp_usable_for a) := by
  refine T.F_usable_for.ok sc_usable_for (fun vs H Q E h => ?_) (fun cdv A outer s H vs Q E hr h => ?_)
  · obtain ⟨lb, lc, n, bs, b, cs, rfl, _⟩ := h
    rfl
  · obtain ⟨lb, lc, n, bs, b, cs, rfl, ⟨ys, hlb, hys⟩, ol, hb, ⟨xs, hlc, hxs⟩, h6, q⟩ := h
    refine ⟨_, pss_cons (ps_set (i := 3) sc_usable_for.nd rfl (Or.inl rfl) (pe_op op_cat (pv 2) (pe_fld (pe_ix ix_list (pv 0) (pv 1) (fun _ _ => rfl)) rfl)))
      (pss_cons (ps_for PassesOwn.never rfl (pi_list (pe_slice sl_list (pv 0) po_none (po_some (pv 1)))) (pn 4 sc_usable_for.nd rfl rfl)
        (pss_one (ps_set (i := 3) sc_usable_for.nd rfl (Or.inl rfl) (pe_op op_cat (pv 3) (pe_call (ok_where_not_chosen T) hr rfl T.g_where_not_chosen T.F_where_not_chosen.kp T.b_where_not_chosen .nil pass0 (pa_cons (pv 4) pa_nil))))))
      (pss_one (ps_ret (pv 3)))), ?_⟩
    have hyl := hys.1
    obtain ⟨y, hy⟩ : ∃ y, ys[b]? = some y := ⟨_, List.getElem?_eq_getElem (by rw [hyl]; exact hb)⟩
    obtain ⟨br, hbr, by'⟩ := hys.get hy
    have hat : VaaclBase.branchAt bs b = br := by unfold VaaclBase.branchAt; rw [hbr]; rfl
    have ob : OkB n br := by rw [← hat]; exact branchAt_ok ol hb
    obtain ⟨lt, ⟨b1, C1, dx1, fs1, e1, e2, e3, e4, e5⟩, ts, hlt, hts⟩ := by'.tests T
    have lts : ts.length ≤ 3 := by rw [hts.1]; unfold testFs; rw [List.length_map]; exact ob.2.1
    have lxs := hxs.1
    refine ⟨_, rfl, _, rfl, _, rfl, lb, _, _, _, rfl, rfl, SqL.of hlb, atI_nat (by rw [List.getElem?_map, hy]; rfl), b1, C1, dx1, fs1, _, e1, e2, e3, e4, e5, lc, lt, _, _, rfl, rfl, hlc, hlt, ?_, fun l1 n1 => ?_⟩
    · rw [List.length_map, List.length_map, sizeLine_eq]; omega
    have s1 := Same.upd n1 (o := .lst (xs.map V.ref ++ ts.map V.ref))
    refine ⟨_, rfl, _, rfl, _, rfl, lb, _, rfl, SqL.of (s1 _ _ hlb), fun l2 n2 => ?_⟩
    rw [cut_take (by rw [List.length_map, hyl]; omega), ← List.map_take]
    have s2 := s1.trans (Same.upd n2 (o := .lst ((ys.take b).map V.ref)))
    refine ⟨l2, rfl, ⟨_, SqL.of upd_same⟩, ?_⟩
    refine for_list (K := K) (xs := (ys.take b).map V.ref) (fun i σ H' => ∃ lu v4, σ = [some (.ref lb), some (.int (b : Nat)), some (.ref lc), some (.ref lu), v4] ∧ Same H H' ∧ H' l2 = some (.lst ((ys.take b).map V.ref)) ∧ Facts a H' lu (cs ++ testFs n br ++ ((bs.take b).take i).flatMap (mWhere n)))
      ⟨l1, none, rfl, s2, upd_same, xs ++ ts, ?_, ?_⟩ (fun i σ H' _ ⟨_, _, _, _, h, _⟩ => SqL.of h) ?_ ?_
    · rw [List.map_append]
      exact (Same.upd n2) _ _ upd_same
    · rw [List.take_zero, List.flatMap_nil, List.append_nil]
      exact (hxs.mono fun x f r => r.mono s2).append (hts.mono fun x f r => r.mono s2)
    · rintro i u σ H' hu ⟨lu, v4, rfl, hs, hl2, us, hlu, hus⟩
      obtain ⟨z, hz, rfl⟩ := map_get hu
      have hz' : (ys.take b)[i]? = some z := hz
      obtain ⟨bz, hbz, az⟩ := (hys.take b).get hz'
      have obz : OkB n bz := ol.all bz (List.mem_of_mem_take (List.mem_of_getElem? hbz))
      refine ⟨_, rfl, _, rfl, z, n, bz, rfl, az.mono hs, ol.lt, obz.1, obz.2.1, fun l3 H3 s3 ⟨ws, hl3, hws⟩ => ?_⟩
      have lus := hus.1
      have lws := hws.1
      have lw := mWhere_len n bz
      have lfl := flat_len n ((bs.take b).take i)
      have ll := ol.len
      refine ⟨lu, l3, _, _, rfl, rfl, s3 _ _ hlu, hl3, ?_, fun l4 n4 => ?_⟩
      · rw [List.length_map, List.length_map, lus, lws, sizeLine_eq, List.length_append, List.length_append, ← hts.1]
        rw [List.length_take, List.length_take] at lfl
        omega
      have s4 := s3.trans (Same.upd n4 (o := .lst (us.map V.ref ++ ws.map V.ref)))
      refine ⟨l4, _, rfl, hs.trans s4, s4 _ _ hl2, us ++ ws, ?_, ?_⟩
      · rw [List.map_append]
        exact upd_same
      · rw [take_snoc hbz, List.flatMap_append, ← List.append_assoc]
        refine (hus.mono fun x f r => r.mono s4).append ?_
        rw [List.flatMap_cons, List.flatMap_nil, List.append_nil]
        exact hws.mono fun x f r => r.mono (Same.upd n4)
    · rintro σ H' ⟨lu, v4, rfl, hs, hl2, hus⟩
      refine ⟨_, rfl, q lu H' hs ?_⟩
      have e : mUsable bs n cs b = cs ++ testFs n br ++ ((bs.take b).take ((ys.take b).map V.ref).length).flatMap (mWhere n) := by
        unfold mUsable testFs
        rw [hat, take_all (bs.take b) (by rw [List.length_map, List.length_take, List.length_take, hyl]; exact Nat.le_refl _)]
      rw [e]
      exact hus
end
end Lc
end
section
set_option Elab.async false
set_option linter.all false
set_option maxRecDepth 100000
set_option maxHeartbeats 1000000
namespace Lc
open PySem PySem.Spec PyProof.Rows L2
open VaaclBase (Test Branch Loop)
def useFs (i : Int) (k : Int) (l : Addr) (c : Int) : List (Str × V) := [("place", .int i), ("often", .int k), ("times", .ref l), ("number", .int c)]
structure UseAt (a : Ad) (H : Hp) (x : Addr) (u : U) : Prop where
  ex : ∃ dx l, H x = some (.ins a.C_Use dx (useFs (u.place : Nat) u.often l u.c)) ∧ H l = some (.lst (u.ts.map V.int))
def Uses (a : Ad) (H : Hp) (l : Addr) (us : List U) : Prop := ∃ xs : List Addr, H l = some (.lst (xs.map V.ref)) ∧ All2 (UseAt a H) xs us
def hid (D : Addr) (H : Hp) : Hp := fun b => if b = D then none else H b
theorem hid_upd {D : Addr} {H : Hp} {o : HO} : hid D (upd H D o) = hid D H := by
  funext b
  unfold hid upd
  split <;> rfl
theorem hid_ne {D b : Addr} {H : Hp} (h : b ≠ D) : hid D H b = H b := by unfold hid; rw [if_neg h]
theorem hid_sub {D : Addr} {H : Hp} : Same (hid D H) H := fun b o e => by
  unfold hid at e
  split at e
  · cases e
  · exact e
theorem hid_same {D : Addr} {H H' : Hp} (s : Same H H') : Same (hid D H) (hid D H') := fun b o e => by
  unfold hid at e ⊢
  split at e
  · cases e
  · rename_i n
    rw [if_neg n]
    exact s _ _ e
theorem hid_of {D : Addr} {H H' : Hp} (s : Same H H') (h : H D = none) : Same H (hid D H') := fun b o e => by
  rw [hid_ne (ne_of_none e h)]
  exact s _ _ e
section
variable {K : PySem.W.Frag} {mg : Str → Option Value} {a : Ad} {H H' : Hp} {x l : Addr} {u : U}
theorem UseAt.mono (h : UseAt a H x u) (s : Same H H') : UseAt a H' x u := let ⟨dx, l, h1, h2⟩ := h.ex; ⟨dx, l, s _ _ h1, s _ _ h2⟩
theorem Uses.mono {us : List U} (h : Uses a H l us) (s : Same H H') : Uses a H' l us := let ⟨xs, h1, h2⟩ := h; ⟨xs, s _ _ h1, h2.mono fun x y r => r.mono s⟩
theorem UseAt.place (h : UseAt a H x u) (T : Txt K mg a) : Fld K H (.ref x) "place" (.int (u.place : Nat)) := let ⟨dx, l, h1, _⟩ := h.ex; ⟨x, _, dx, _, rfl, h1, T.cl_Use, T.na_Use_place, rfl⟩
theorem UseAt.often (h : UseAt a H x u) (T : Txt K mg a) : Fld K H (.ref x) "often" (.int u.often) := let ⟨dx, l, h1, _⟩ := h.ex; ⟨x, _, dx, _, rfl, h1, T.cl_Use, T.na_Use_often, rfl⟩
theorem UseAt.number (h : UseAt a H x u) (T : Txt K mg a) : Fld K H (.ref x) "number" (.int u.c) := let ⟨dx, l, h1, _⟩ := h.ex; ⟨x, _, dx, _, rfl, h1, T.cl_Use, T.na_Use_number, rfl⟩
theorem UseAt.times (h : UseAt a H x u) (T : Txt K mg a) : ∃ l, Fld K H (.ref x) "times" (.ref l) ∧ H l = some (.lst (u.ts.map V.int)) := let ⟨dx, l, h1, h2⟩ := h.ex; ⟨l, ⟨x, _, dx, _, rfl, h1, T.cl_Use, T.na_Use_times, rfl⟩, h2⟩
end
section
variable {P : Program} {w : World} {K : PySem.W.Frag} {mg : Str → Option Value} {base : Heap} {a : Ad}
def sp_Use_init (a : Ad) : Sp := fun vs H Q _ => ∃ (p dx x : Addr) (f : F) (i k : Int), vs = [.ref p, .int i, .int k, .ref x] ∧ H p = some (.ins a.C_Use dx []) ∧ FactAt a H x f ∧ f.ts.length ≤ 4 ∧ -2 ≤ k ∧ k ≤ 2 ∧
  ∀ (l : Addr) (H' : Hp), H l = none → H' p = some (.ins a.C_Use dx (useFs i k l (k * f.c))) → H' l = some (.lst ((f.ts.map (k * ·)).map V.int)) → But p H H' → Q .non H'
theorem sc_Use_init : FnScope ["self", "place", "often", "fact", "each"] ["self", "place", "often", "fact"] (defScope s_Use_init) := ⟨rfl, rfl, rfl, by decide +kernel, rfl, by decide +kernel, by decide +kernel⟩
theorem ok_Use_init (T : Txt K mg a) : FnOk P w K mg base CX0 1 a.f_Use_init a.d_Use_init ["self", "place", "often", "fact"] (sp_Use_init a) := by
  refine T.F_Use_init.ok sc_Use_init (fun vs H Q E h => ?_) (fun cdv A outer s H vs Q E hr h => ?_)
  · obtain ⟨p, dx, x, f, i, k, rfl, _⟩ := h
    rfl
  · obtain ⟨p, dx, x, f, i, k, rfl, hp, hf, h4, k1, k2, q⟩ := h
    refine ⟨_, pss_cons (ps_fld (pv 0) (pv 1) rfl) (pss_cons (ps_fld (pv 0) (pv 2) rfl)
      (pss_cons (ps_fld (pv 0) (pe_lc (own := [("each", 4)]) rfl sc_Use_init.nd (pi_list (pg 3)) (blkOk_by rfl) (fun _ _ _ _ _ => pn 4 sc_Use_init.nd rfl rfl) (fun _ _ _ _ _ => pts_nil) (fun _ _ _ _ _ => pe_op op_mul (pv 2) (pv 4))) rfl)
      (pss_one (ps_fld (pv 0) (pe_op op_mul (pv 2) (pg 3)) rfl)))), ?_⟩
    obtain ⟨dxf, lf, hx, hlf⟩ := hf.ex
    have nx : x ≠ p := ne_of hx hp (by intro z; injection z with z1 z2 z3; exact absurd z3 (by simp [factFs]))
    have nl : lf ≠ p := ne_of hlf hp (by intro z; cases z)
    have fa : ∀ {H' : Hp}, But p H H' → FactAt a H' x f := fun {H'} b => ⟨dxf, lf, b _ _ hx nx, b _ _ hlf nl⟩
    refine ⟨_, rfl, _, rfl, p, _, dx, _, rfl, hp, T.cl_Use, T.na_Use_place, (by show 0 < 1000; decide), ?_⟩
    refine ⟨_, rfl, _, rfl, p, _, dx, _, rfl, upd_same, T.cl_Use, T.na_Use_often, (by show 1 < 1000; decide), ?_⟩
    rw [upd_upd]
    generalize hH1 : upd H p _ = H1
    have b1 : But p H H1 := fun b o e hb => by rw [← hH1, upd_ne hb]; exact e
    have p1 : H1 p = some (.ins a.C_Use dx [("place", .int i), ("often", .int k)]) := by rw [← hH1]; exact upd_same
    obtain ⟨lt, ft, hlt⟩ := (fa b1).times T
    refine ⟨_, rfl, _, ft, lt, rfl, ⟨_, SqL.of hlt⟩, fun D hD => ?_⟩
    refine lc_list (K := K) (xs := f.ts.map V.int) (fun j H' => H' D = some (.lst (((f.ts.map (k * ·)).take j).map V.int)) ∧ Same H1 H') ⟨upd_same, Same.upd hD⟩ (fun i H' _ h => SqL.of (h.2 _ _ hlt)) ?_ ?_
    · rintro j y H' hx ⟨hD', hs⟩
      obtain ⟨u, hu, rfl⟩ := map_get hx
      refine ⟨rfl, yes ?_⟩
      refine ⟨_, rfl, _, rfl, k, u, rfl, rfl, .inl ⟨by omega, by omega⟩, _, hD', ?_, ?_, ?_⟩
      · rw [List.length_map, List.length_take, List.length_map, sizeLine_eq]; omega
      · have e : (f.ts.map (k * ·))[j]? = some (k * u) := by rw [List.getElem?_map, hu]; rfl
        rw [upd_same, take_snoc e, List.map_append]
        rfl
      · exact fun b o e => by rw [upd_ne (ne_of_none e hD)]; exact hs _ _ e
    · rintro H' ⟨hD', hs⟩
      rw [take_all _ (by rw [List.length_map, List.length_map]; exact Nat.le_refl _)] at hD'
      refine ⟨_, rfl, p, _, dx, _, rfl, hs _ _ p1, T.cl_Use, T.na_Use_times, (by show 2 < 1000; decide), ?_⟩
      generalize hH2 : upd H' p _ = H2
      have b2 : But p H H2 := fun b o e hb => by rw [← hH2, upd_ne hb]; exact hs _ _ (b1 _ _ e hb)
      have hDp : D ≠ p := fun z => by rw [z, p1] at hD; cases hD
      have d2 : H2 D = some (.lst ((f.ts.map (k * ·)).map V.int)) := by rw [← hH2, upd_ne hDp]; exact hD'
      have p2 : H2 p = some (.ins a.C_Use dx [("place", .int i), ("often", .int k), ("times", .ref D)]) := by rw [← hH2]; exact upd_same
      refine ⟨_, rfl, _, rfl, _, (fa b2).number T, k, f.c, rfl, rfl, .inl ⟨by omega, by omega⟩, _, rfl, p, _, dx, _, rfl, p2, T.cl_Use, T.na_Use_number, (by show 3 < 1000; decide), ?_⟩
      refine q D _ ?_ upd_same (by rw [upd_ne hDp]; exact d2) fun b o e hb => by rw [upd_ne hb]; exact b2 _ _ e hb
      rw [← hH1, upd_ne hDp] at hD
      exact hD
def rNewUse (a : Ad) : List V → Hp → VK → Prop := fun vs H Q => ∃ (x : Addr) (f : F) (i k : Int), vs = [.int i, .int k, .ref x] ∧ FactAt a H x f ∧ f.ts.length ≤ 4 ∧ -2 ≤ k ∧ k ≤ 2 ∧
  ∀ (y l dx : Addr) (H2 : Hp), H y = none → H l = none → Same H H2 → H2 y = some (.ins a.C_Use dx (useFs i k l (k * f.c))) → H2 l = some (.lst ((f.ts.map (k * ·)).map V.int)) → Q (.ref y) H2
theorem upd_none {H : Hp} {p b : Addr} {o : HO} (h : upd H p o b = none) : H b = none := by
  unfold upd at h
  split at h
  · cases h
  · exact h
theorem pe_newUse {X : Cx} {p pos : Pos} {e : Expr} {es : List Expr} {t : TA} (T : Txt X.K X.mg a) (hr : Room 2 X.A) (ha : PA X (e :: es) t) (hg : Gl X "Use" := by rfl)
    (he : starEach (e :: es) X.env = (false, eval e X.env) :: starEach es X.env := by rfl) (hpl : (backTo pos (starEach es X.env)).any (·.1) = false := by rfl) :
    PE X (.Call (.Name "Use" p) (e :: es) [] pos) (tCB (rNewUse a) t) :=
  pe_new T.mk_Use (ok_Use_init T) hr T.mg_Use T.b_Use_init ha (fun vs H Q ⟨x, f, i, k, e1, hf, h4, k1, k2, q⟩ y dx h1 h2 h3 => by
    subst e1
    refine ⟨y, dx, x, f, i, k, rfl, upd_same, hf.mono ?_, h4, k1, k2, fun l H' hl h5 h6 h7 => ⟨rfl, q y l dx H' h1 (upd_none (upd_none hl)) (But.made h1 h2 h7) h5 h6⟩⟩
    exact fun b o e => by rw [upd_ne (ne_of_none e h1), upd_ne (ne_of_none e h2)]; exact e) hg (by decide) he hpl
def sp_allowed_often (a : Ad) : Sp := fun vs H Q _ => ∃ (x y : Addr) (f t : F), vs = [.ref x, .ref y] ∧ FactAt a H x f ∧ FactAt a H y t ∧ (f.k ≠ 1 → f.k = t.k → f.k ≠ 0 → 0 < t.d) ∧ ∀ (p : Addr) (H' : Hp), H p = none → Same H H' → H' p = some (.tup ((often f t).map V.int)) → Q (.ref p) H'
theorem sc_allowed_often : FnScope ["fact", "target"] ["fact", "target"] (defScope s_allowed_often) := ⟨rfl, rfl, rfl, by decide +kernel, rfl, by decide +kernel, by decide +kernel⟩
theorem ok_allowed_often (T : Txt K mg a) : FnOk P w K mg base CX0 1 a.f_allowed_often a.d_allowed_often ["fact", "target"] (sp_allowed_often a) := by
  refine T.F_allowed_often.ok sc_allowed_often (fun vs H Q E h => ?_) (fun cdv A outer s H vs Q E hr h => ?_)
  · obtain ⟨x, y, f, t, rfl, _⟩ := h
    rfl
  · obtain ⟨x, y, f, t, rfl, hf, ht, hd, q⟩ := h
    refine ⟨_, pss_cons (ps_if (pt_cmpR op_eq (pg 0) (pe_cst T.c_JUST) (nomark _)) (pss_one (ps_ret (pe_tup (pa_cons pe_int (pa_cons pe_int (pa_cons (pe_un un_neg pe_int) (pa_cons (pe_un un_neg pe_int) pa_nil))))))) pss_nil)
      (pss_cons (ps_if (pt_cmpR op_ne (pg 0) (pg 1) (nomark _)) (pss_one (ps_ret (pe_tup pa_nil))) pss_nil)
      (pss_cons (ps_if (pt_cmpR op_eq (pg 0) (pe_cst T.c_AT_MOST) (nomark _)) (pss_one (ps_ret (pe_tup (pa_cons pe_int (pa_cons pe_int pa_nil))))) pss_nil)
      (pss_cons (ps_if (pt_cmpR op_eq (pe_op op_mod (pg 0) (pg 1)) pe_int (nomark _)) (pss_one (ps_ret (pe_tup (pa_cons pe_int (pa_cons pe_int (pa_cons (pe_un un_neg pe_int) (pa_cons (pe_un un_neg pe_int) pa_nil))))))) pss_nil)
      (pss_one (ps_ret (pe_tup pa_nil)))))), ?_⟩
    have fin : ∀ {p : Addr} {zs : List Int}, H p = none → often f t = zs → Q (.ref p) (upd H p (.tup (zs.map V.int))) := fun {p zs} hp e => q p _ hp (Same.upd hp) (by rw [e]; exact upd_same)
    refine ⟨_, rfl, _, hf.kind T, rfl, _, rfl, ite2 (fun h1 => ?_) (fun h1 => ?_)⟩
    · refine ⟨_, rfl, _, rfl, (by show 4 ≤ sizeLine; decide), fun p hp => fin (zs := [1, 2, -1, -2]) hp ?_⟩
      unfold often
      rw [if_pos (decI.mp h1)]
    have k1 : ¬ f.k = 1 := fun e => h1 (decI.mpr e)
    refine ⟨_, rfl, _, hf.kind T, _, rfl, _, ht.kind T, rfl, _, rfl, ite2 (fun h2 => ?_) (fun h2 => ?_)⟩
    · refine ⟨Nat.zero_le _, fun p hp => fin (zs := []) hp ?_⟩
      unfold often
      rw [if_neg k1, if_pos]
      intro e
      rw [decI.mpr e] at h2
      cases h2
    have k2 : f.k = t.k := by
      apply Classical.byContradiction
      intro e
      apply h2
      rw [show decide (V.int f.k = V.int t.k) = false from by rw [decI']; simpa using e]
      rfl
    refine ⟨_, rfl, _, hf.kind T, rfl, _, rfl, ite2 (fun h3 => ?_) (fun h3 => ?_)⟩
    · refine ⟨(by show 2 ≤ sizeLine; decide), fun p hp => fin (zs := [1, 2]) hp ?_⟩
      unfold often
      rw [if_neg k1, if_neg (fun z => z k2), if_pos (decI.mp h3)]
    have k3 : ¬ f.k = 0 := fun e => h3 (decI.mpr e)
    refine ⟨_, rfl, _, hf.divisor T, _, rfl, _, ht.divisor T, _, _, rfl, rfl, hd k1 k2 k3, rfl, _, rfl, ite2 (fun h4 => ?_) (fun h4 => ?_)⟩
    · refine ⟨_, rfl, _, rfl, (by show 4 ≤ sizeLine; decide), fun p hp => fin (zs := [1, 2, -1, -2]) hp ?_⟩
      unfold often
      rw [if_neg k1, if_neg (fun z => z k2), if_neg k3, if_pos (decI.mp h4)]
    · refine ⟨Nat.zero_le _, fun p hp => fin (zs := []) hp ?_⟩
      unfold often
      rw [if_neg k1, if_neg (fun z => z k2), if_neg k3, if_neg (fun e => h4 (decI.mpr e))]
end
end Lc
end
section
set_option Elab.async false
set_option linter.all false
set_option maxRecDepth 100000
set_option maxHeartbeats 1000000
namespace Lc
open PySem PySem.Spec PyProof.Rows L2
open VaaclBase (Test Branch Loop)
section
variable {P : Program} {w : World} {K : PySem.W.Frag} {mg : Str → Option Value} {base : Heap} {a : Ad}
def UseOk (fs : List F) (t : F) : Prop := ∀ f ∈ fs, f.ts.length ≤ 4 ∧ (f.k ≠ 1 → f.k = t.k → f.k ≠ 0 → 0 < t.d)
theorem often_small (f t : F) : ∀ k ∈ often f t, -2 ≤ k ∧ k ≤ 2 := by
  intro k hk
  unfold often at hk
  split at hk
  · simp at hk; omega
  split at hk
  · cases hk
  split at hk
  · simp at hk; omega
  split at hk
  · simp at hk; omega
  · cases hk
theorem often_len (f t : F) : (often f t).length ≤ 4 := by
  unfold often
  split
  · simp
  split
  · simp
  split
  · simp
  split <;> simp
theorem zipIdx_at {α : Type} {l : List α} {i : Nat} {x : α} (h : l[i]? = some x) : l.zipIdx[i]? = some (x, i) := by
  rw [List.getElem?_zipIdx, h]
  simp
theorem flat4 {α β : Type} {g : α → List β} (h : ∀ x, (g x).length ≤ 4) : ∀ l : List α, (l.flatMap g).length ≤ 4 * l.length
  | [] => Nat.le_refl _
  | x :: l => by
    rw [List.flatMap_cons, List.length_append, List.length_cons]
    have := h x
    have := flat4 h l
    omega
def sp_allowed_uses (a : Ad) : Sp := fun vs H Q _ => ∃ (l y : Addr) (fs : List F) (t : F), vs = [.ref l, .ref y] ∧ Facts a H l fs ∧ FactAt a H y t ∧ fs.length ≤ 12 ∧ UseOk fs t ∧ ∀ (D : Addr) (H' : Hp), Same H H' → Uses a H' D (mUses fs t) → Q (.ref D) H'
theorem sc_allowed_uses : FnScope ["usable", "target", "uses", "place", "fact", "often"] ["usable", "target"] (defScope s_allowed_uses) := ⟨rfl, rfl, rfl, by decide +kernel, rfl, by decide +kernel, by decide +kernel⟩
theorem ok_allowed_uses (T : Txt K mg a) : FnOk P w K mg base CX0 3 a.f_allowed_uses a.d_allowed_uses ["usable", "target"] (sp_allowed_uses a) := by
  refine T.F_allowed_uses.ok sc_allowed_uses (fun vs H Q E h => ?_) (fun cdv A outer s H vs Q E hr h => ?_)
  · obtain ⟨l, y, fs, t, rfl, _⟩ := h
    rfl
  · obtain ⟨l, y, fs, t, rfl, ⟨xs, hl, hx⟩, ht, h12, hok, q⟩ := h
    have hr1 : Room 1 _ := hr.mono (by decide)
    refine ⟨_, pss_cons (ps_set (i := 2) sc_allowed_uses.nd rfl (Or.inl rfl) (pe_lst pa_nil))
      (pss_cons (ps_for PassesOwn.never rfl (pi_enum rfl T.bl_enumerate (pa_cons (pv 0) pa_nil)) (pg_tup (n := 2) rfl (pgs_cons (pn 3 sc_allowed_uses.nd rfl rfl) (pgs_cons (pn 4 sc_allowed_uses.nd rfl rfl) pgs_nil)))
        (pss_one (ps_for PassesOwn.never rfl (pi_tup (pe_call (ok_allowed_often T) hr1 rfl T.g_allowed_often T.F_allowed_often.kp T.b_allowed_often .nil pass0 (pa_cons (pv 4) (pa_cons (pv 1) pa_nil)))) (pn 5 sc_allowed_uses.nd rfl rfl)
          (pss_one (ps_expr (pe_bm PySem.F.plainAttrs_list PySem.F.slot_list_append PySem.F.type_list_append mt_append (pv 2) (pa_cons (pe_newUse T hr (pa_cons (pv 3) (pa_cons (pv 5) (pa_cons (pv 4) pa_nil)))) pa_nil)))))))
      (pss_one (ps_ret (pv 2)))), ?_⟩
    refine ⟨Nat.zero_le _, fun D hD => ?_⟩
    have lx := hx.1
    generalize hg : (fun x : F × Nat => (often x.1 t).map (mkUse x.2 x.1)) = g
    have g4 : ∀ x, (g x).length ≤ 4 := fun x => by rw [← hg]; show ((often x.1 t).map _).length ≤ 4; rw [List.length_map]; exact often_len _ _
    refine ⟨_, rfl, l, _, rfl, SqL.of ((Same.upd hD) _ _ hl), for_enum (K := K) (xs := xs.map V.ref) (fun i σ H' => (∃ v3 v4 v5, σ = [some (.ref l), some (.ref y), some (.ref D), v3, v4, v5]) ∧ Same H H' ∧
      ∃ zs, H' D = some (.lst (zs.map V.ref)) ∧ All2 (UseAt a (hid D H')) zs ((fs.zipIdx.take i).flatMap g)) ⟨⟨none, none, none, rfl⟩, Same.upd hD, [], upd_same, All2.nil⟩ (fun i σ H' _ h => SqL.of (h.2.1 _ _ hl)) ?_ ?_⟩
    · rintro i x σ H' S hi ⟨⟨v3, v4, v5, rfl⟩, hs, zs, hz, hzs⟩ hS
      obtain ⟨z, hzx, rfl⟩ := map_get hi
      obtain ⟨f, hf, fa⟩ := hx.get hzx
      have s2 := hs.trans (Same.upd hS (o := .tup [.int (i : Nat), .ref z]))
      obtain ⟨f4, fd⟩ := hok f (List.mem_of_getElem? hf)
      refine ⟨S, _, rfl, SqT.of upd_same, rfl, _, _, rfl, _, _, rfl, rfl, ?_⟩
      refine ⟨_, rfl, _, rfl, z, y, f, t, rfl, fa.mono s2, ht.mono s2, fd, fun p H2 np s3 hp => ?_⟩
      have s4 := s2.trans s3
      have s24 : Same H' H2 := (Same.upd hS).trans s3
      have pD : p ≠ D := fun e => by rw [e] at np; rw [(Same.upd hS) _ _ hz] at np; cases np
      refine ⟨p, rfl, ⟨_, SqT.of hp⟩, ?_⟩
      have hin : (fs.zipIdx.take (i + 1)).flatMap g = (fs.zipIdx.take i).flatMap g ++ (often f t).map (mkUse i f) := by
        rw [take_snoc (zipIdx_at hf), List.flatMap_append, List.flatMap_cons, List.flatMap_nil, List.append_nil, ← hg]
      have il : i < fs.length := (List.getElem?_eq_some_iff.mp hf).1
      have len1 : ((fs.zipIdx.take i).flatMap g).length ≤ 48 := by
        have := flat4 g4 (fs.zipIdx.take i)
        rw [List.length_take, List.length_zipIdx] at this
        omega
      refine for_tup (K := K) (xs := (often f t).map V.int) (fun j σ H' => (∃ v5, σ = [some (.ref l), some (.ref y), some (.ref D), some (.int (i : Nat)), some (.ref z), v5]) ∧ Same H H' ∧ H' p = some (.tup ((often f t).map V.int)) ∧
        ∃ zs, H' D = some (.lst (zs.map V.ref)) ∧ All2 (UseAt a (hid D H')) zs ((fs.zipIdx.take i).flatMap g ++ ((often f t).take j).map (mkUse i f))) ⟨⟨_, rfl⟩, s4, hp, zs, s24 _ _ hz, ?_⟩ (fun j σ H' _ h => SqT.of h.2.2.1) ?_ ?_
      · rw [List.take_zero, List.map_nil, List.append_nil]
        exact hzs.mono fun x u r => r.mono (hid_same s24)
      · rintro j kv σ H3 hkv ⟨⟨v5', rfl⟩, hs3, hp3, zs3, hz3, hzs3⟩
        obtain ⟨k, hk, rfl⟩ := map_get hkv
        have kb := often_small f t k (List.mem_of_getElem? hk)
        refine ⟨_, rfl, .inl ⟨rfl, _, SqL.of hz3⟩, _, rfl, _, rfl, _, rfl, z, f, _, _, rfl, fa.mono hs3, f4, kb.1, kb.2, fun u lu dxu H4 n1 n2 s5 e1 e2 => ?_⟩
        have l3 := hzs3.1
        refine ⟨D, _, _, rfl, rfl, s5 _ _ hz3, ?_, ?_⟩
        · rw [List.length_map, l3, List.length_append, List.length_map, List.length_take, sizeLine_eq]
          have := often_len f t
          omega
        have nu : u ≠ D := fun e => by rw [e, hz3] at n1; cases n1
        have nlu : lu ≠ D := fun e => by rw [e, hz3] at n2; cases n2
        have npD : p ≠ D := pD
        refine ⟨⟨_, rfl⟩, fun b o e => by rw [upd_ne (ne_of_none e hD)]; exact s5 _ _ (hs3 _ _ e), by rw [upd_ne npD]; exact s5 _ _ hp3, zs3 ++ [u], ?_, ?_⟩
        · rw [upd_same, List.map_append]
          rfl
        · rw [hid_upd, take_snoc hk, List.map_append, ← List.append_assoc]
          refine (hzs3.mono fun x v r => r.mono (hid_same s5)).append (All2.cons ⟨dxu, lu, ?_, ?_⟩ All2.nil)
          · rw [hid_ne nu]
            exact e1
          · rw [hid_ne nlu]
            exact e2
      · rintro σ H3 ⟨⟨v5', rfl⟩, hs3, hp3, zs3, hz3, hzs3⟩
        refine ⟨⟨_, _, _, rfl⟩, hs3, zs3, hz3, ?_⟩
        rw [hin, take_all (often f t) (by rw [List.length_map]; exact Nat.le_refl _)] at *
        exact hzs3
    · rintro σ H' ⟨⟨v3, v4, v5, rfl⟩, hs, zs, hz, hzs⟩
      refine ⟨_, rfl, q D H' hs ⟨zs, hz, ?_⟩⟩
      rw [take_all fs.zipIdx (by rw [List.length_zipIdx, List.length_map, lx]; exact Nat.le_refl _), ← hg] at hzs
      exact hzs.mono fun x u r => r.mono hid_sub
def sp_less (a : Ad) : Sp := fun vs H Q _ => ∃ (x y : Addr) (t : F) (u : U), vs = [.ref x, .ref y] ∧ FactAt a H x t ∧ UseAt a H y u ∧ t.ts.length = u.ts.length ∧ t.ts.length ≤ 4 ∧ ∀ (z : Addr) (H' : Hp), Same H H' → FactAt a H' z (mLess t u) → Q (.ref z) H'
theorem sc_less : FnScope ["target", "use", "times", "each", "used"] ["target", "use"] (defScope s_less) := ⟨rfl, rfl, rfl, by decide +kernel, rfl, by decide +kernel, by decide +kernel⟩
theorem ok_less (T : Txt K mg a) : FnOk P w K mg base CX0 3 a.f_less a.d_less ["target", "use"] (sp_less a) := by
  refine T.F_less.ok sc_less (fun vs H Q E h => ?_) (fun cdv A outer s H vs Q E hr h => ?_)
  · obtain ⟨x, y, t, u, rfl, _⟩ := h
    rfl
  · obtain ⟨x, y, t, u, rfl, ht, hu, hlen, h4, q⟩ := h
    refine ⟨_, pss_cons (ps_setLc (i := 2) (own := [("each", 3), ("used", 4)]) (g := gTup K 2 (gCons (gName 3) (gCons (gName 4) gNil))) rfl sc_less.nd rfl rfl (sw_true rfl rfl rfl rfl) (pi_zip rfl T.bl_zip (pa_cons (pg 0) (pa_cons (pg 1) pa_nil))) (blkOk_by rfl)
        (fun _ _ _ _ _ => pg_tup (n := 2) rfl (pgs_cons (pn 3 sc_less.nd rfl rfl) (pgs_cons (pn 4 sc_less.nd rfl rfl) pgs_nil))) (fun _ _ _ _ _ => pts_nil) (fun _ _ _ _ _ => pe_op op_sub (pv 3) (pv 4)))
      (pss_one (ps_ret (pe_newFact T hr (pa_cons (pv 2) (pa_cons (pg 0) (pa_cons (pg 0) (pa_cons (pe_op op_sub (pg 0) (pg 1)) pa_nil))))))), ?_⟩
    obtain ⟨lt, ft, hlt⟩ := ht.times T
    obtain ⟨lu, fu, hlu⟩ := hu.times T
    refine ⟨_, rfl, _, ft, _, rfl, _, fu, lt, lu, _, _, rfl, SqL.of hlt, SqL.of hlu, fun D hD => ?_⟩
    generalize hp : List.zipWith (fun a b => a - b) t.ts u.ts = ps
    have lp : ps.length = t.ts.length := by rw [← hp, List.length_zipWith, hlen, Nat.min_self]
    refine lc_zip (K := K) (xs := t.ts.map V.int) (ys := u.ts.map V.int) (by rw [List.length_map, List.length_map, hlen]) (fun i H' => H' D = some (.lst ((ps.take i).map V.int)) ∧ Same H H') ⟨upd_same, Same.upd hD⟩ (fun i H' _ h => ⟨SqL.of (h.2 _ _ hlt), SqL.of (h.2 _ _ hlu)⟩) ?_ ?_
    · rintro i x' y' H' S hx hy ⟨hD', hs⟩ hS
      obtain ⟨e1, he1, rfl⟩ := map_get hx
      obtain ⟨e2, he2, rfl⟩ := map_get hy
      refine ⟨S, _, rfl, SqT.of upd_same, rfl, _, _, rfl, _, _, rfl, rfl, rfl, yes ?_⟩
      refine ⟨_, rfl, _, rfl, e1, e2, rfl, rfl, _, (Same.upd hS) _ _ hD', ?_, ?_, ?_⟩
      · rw [List.length_map, List.length_take, lp, sizeLine_eq]; omega
      · have e : ps[i]? = some (e1 - e2) := by rw [← hp, List.getElem?_zipWith, he1, he2]
        rw [upd_same, take_snoc e, List.map_append]
        rfl
      · exact fun b o e => by rw [upd_ne (ne_of_none e hD)]; exact (Same.upd hS) _ _ (hs _ _ e)
    · rintro H' ⟨hD', hs⟩
      rw [take_all ps (by rw [List.length_map]; omega)] at hD'
      have t2 := ht.mono hs
      have u2 := hu.mono hs
      refine ⟨_, rfl, _, rfl, _, t2.kind T, _, rfl, _, t2.divisor T, _, rfl, _, t2.number T, _, rfl, _, u2.number T, _, _, rfl, rfl, D, _, _, _, rfl, fun z H2 s2 ⟨dx, hz⟩ => ?_⟩
      exact q z H2 (hs.trans s2) ⟨dx, D, hz, by unfold mLess; rw [hp]; exact s2 _ _ hD'⟩
end
end Lc
end
section
set_option Elab.async false
set_option linter.all false
set_option maxRecDepth 100000
set_option maxHeartbeats 1000000
namespace Lc
open PySem PySem.Spec PyProof.Rows L2
open VaaclBase (Test Branch Loop)
section
variable {P : Program} {w : World} {K : PySem.W.Frag} {mg : Str → Option Value} {base : Heap} {a : Ad}
theorem any_zeros (ts : List Int) : (!(ts.any (· != 0))) = zeros ts := by
  unfold zeros
  induction ts with
  | nil => rfl
  | cons x l ih =>
    rw [List.any_cons, List.all_cons, Bool.not_or, ih]
    congr 1
    simp [bne]
def sp_shown_by_none (a : Ad) : Sp := fun vs H Q _ => ∃ (x : Addr) (t : F), vs = [.ref x] ∧ FactAt a H x t ∧ t.ts.length ≤ 4 ∧ (t.k ≠ 0 → t.k ≠ 1 → 0 < t.d) ∧ ∀ H' : Hp, Same H H' → Q (.bl (mNone t)) H'
theorem sc_shown_by_none : FnScope ["target", "divisor", "each"] ["target"] (defScope s_shown_by_none) := ⟨rfl, rfl, rfl, by decide +kernel, rfl, by decide +kernel, by decide +kernel⟩
theorem ok_shown_by_none (T : Txt K mg a) : FnOk P w K mg base CX0 1 a.f_shown_by_none a.d_shown_by_none ["target"] (sp_shown_by_none a) := by
  refine T.F_shown_by_none.ok sc_shown_by_none (fun vs H Q E h => ?_) (fun cdv A outer s H vs Q E hr h => ?_)
  · obtain ⟨x, t, rfl, _⟩ := h
    rfl
  · obtain ⟨x, t, rfl, ht, h4, hd, q⟩ := h
    refine ⟨_, pss_cons (ps_if (pt_cmpR op_eq (pg 0) (pe_cst T.c_AT_MOST) (nomark _)) (pss_one (ps_ret (pe_and (pe_not (pe_callB (cr_anyI rfl) (by rfl) T.bl_any boot_any (pa_cons (pg 0) pa_nil))) (pe_one (pe_cmpR op_ge (pg 0) pe_int (nomark _)))))) pss_nil)
      (pss_cons (ps_if (pt_cmpR op_eq (pg 0) (pe_cst T.c_JUST) (nomark _)) (pss_one (ps_ret (pe_and (pe_not (pe_callB (cr_anyI rfl) (by rfl) T.bl_any boot_any (pa_cons (pg 0) pa_nil))) (pe_one (pe_cmpR op_eq (pg 0) pe_int (nomark _)))))) pss_nil)
      (pss_cons (ps_set (i := 1) sc_shown_by_none.nd rfl (Or.inr rfl) (pg 0))
      (pss_one (ps_ret (pe_and (pe_cmpR op_eq (pe_op op_mod (pg 0) (pv 1)) pe_int (nomark _)) (pe_one (pe_not (pe_callB (cr_anyI rfl) (by rfl) T.bl_any boot_any (pa_cons
        (pe_lc (own := [("each", 2)]) rfl sc_shown_by_none.nd (pi_list (pg 0)) (blkOk_by rfl) (fun _ _ _ _ _ => pn 2 sc_shown_by_none.nd rfl rfl) (fun _ _ _ _ _ => pts_nil) (fun _ _ _ _ _ => pe_op op_mod (pv 2) (pv 1))) pa_nil))))))))), ?_⟩
    obtain ⟨lt, ft, hlt⟩ := ht.times T
    refine ⟨_, rfl, _, ht.kind T, rfl, _, rfl, ite2 (fun h0 => ?_) (fun h0 => ?_)⟩
    · have k0 := decI.mp h0
      have z := q H (Same.refl H)
      unfold mNone at z
      rw [if_pos k0] at z
      refine ⟨_, rfl, _, ft, lt, t.ts, rfl, SqL.of hlt, _, rfl, ?_⟩
      refine ⟨_, rfl, ?_⟩
      rw [any_zeros]
      cases hz : zeros t.ts with
      | true =>
        rw [hz] at z
        exact iteT ⟨_, rfl, _, ht.number T, _, _, rfl, rfl, z⟩
      | false =>
        rw [hz] at z
        exact iteF z
    have k0 : ¬ t.k = 0 := fun e => h0 (decI.mpr e)
    refine ⟨_, rfl, _, ht.kind T, rfl, _, rfl, ite2 (fun h1 => ?_) (fun h1 => ?_)⟩
    · have k1 := decI.mp h1
      have z := q H (Same.refl H)
      unfold mNone at z
      rw [if_neg k0, if_pos k1] at z
      refine ⟨_, rfl, _, ft, lt, t.ts, rfl, SqL.of hlt, _, rfl, ?_⟩
      refine ⟨_, rfl, ?_⟩
      rw [any_zeros]
      cases hz : zeros t.ts with
      | true =>
        rw [hz, ← decI'] at z
        exact iteT ⟨_, rfl, _, ht.number T, rfl, z⟩
      | false =>
        rw [hz] at z
        exact iteF z
    have k1 : ¬ t.k = 1 := fun e => h1 (decI.mpr e)
    have hd := hd k0 k1
    have z : ∀ H' : Hp, Same H H' → Q (.bl (t.c % t.d == 0 && zeros (t.ts.map (· % t.d)))) H' := fun H' s => by
      have z := q H' s
      unfold mNone at z
      rw [if_neg k0, if_neg k1] at z
      exact z
    refine ⟨_, rfl, _, ht.divisor T, ?_⟩
    refine ⟨_, rfl, _, ht.number T, _, rfl, _, _, rfl, rfl, hd, rfl, _, rfl, ?_⟩
    rw [decI']
    cases hc : (t.c % t.d == 0) with
    | false =>
      have y := z H (Same.refl H)
      rw [hc] at y
      exact iteF y
    | true =>
      refine iteT ⟨_, rfl, _, ft, lt, rfl, ⟨_, SqL.of hlt⟩, fun D hD => ?_⟩
      refine lc_list (K := K) (xs := t.ts.map V.int) (fun i H' => H' D = some (.lst (((t.ts.map (· % t.d)).take i).map V.int)) ∧ Same H H') ⟨upd_same, Same.upd hD⟩ (fun i H' _ h => SqL.of (h.2 _ _ hlt)) ?_ ?_
      · rintro i y H' hx ⟨hD', hs⟩
        obtain ⟨u, hu, rfl⟩ := map_get hx
        refine ⟨rfl, yes ?_⟩
        refine ⟨_, rfl, _, rfl, u, t.d, rfl, rfl, hd, _, hD', ?_, ?_, ?_⟩
        · rw [List.length_map, List.length_take, List.length_map, sizeLine_eq]; omega
        · have e : (t.ts.map (· % t.d))[i]? = some (u % t.d) := by rw [List.getElem?_map, hu]; rfl
          rw [upd_same, take_snoc e, List.map_append]
          rfl
        · exact fun b o e => by rw [upd_ne (ne_of_none e hD)]; exact hs _ _ e
      · rintro H' ⟨hD', hs⟩
        rw [take_all _ (by rw [List.length_map, List.length_map]; exact Nat.le_refl _)] at hD'
        refine ⟨D, _, rfl, SqL.of hD', _, rfl, ?_⟩
        have y := z H' hs
        rw [hc] at y
        rw [any_zeros]
        exact y
def OptUse (a : Ad) (H : Hp) (v : V) : Option U → Prop
  | none => v = .non
  | some u => ∃ y, v = .ref y ∧ UseAt a H y u
def OptUses (a : Ad) (H : Hp) (v : V) : Option (List U) → Prop
  | none => v = .non
  | some us => ∃ D, v = .ref D ∧ Uses a H D us
theorem find_some_at {α : Type} {p : α → Bool} : ∀ {l : List α} {i : Nat} {x : α}, l[i]? = some x → p x = true → (∀ (j : Nat) y, j < i → l[j]? = some y → p y = false) → l.find? p = some x
  | [], i, x, h, _, _ => by simp at h
  | a :: l, 0, x, h, hp, _ => by
    have e : a = x := Option.some.inj h
    subst e
    rw [List.find?_cons, hp]
  | a :: l, i + 1, x, h, hp, hn => by
    rw [List.find?_cons, hn 0 a (Nat.zero_lt_succ _) rfl]
    exact find_some_at (l := l) (i := i) (x := x) h hp fun j y hj hy => hn (j + 1) y (by omega) hy
theorem find_none_at {α : Type} {p : α → Bool} {l : List α} (h : ∀ (j : Nat) y, l[j]? = some y → p y = false) : l.find? p = none := by
  rw [List.find?_eq_none]
  intro x hx
  obtain ⟨i, hi, e⟩ := List.getElem_of_mem hx
  rw [h i x (by rw [List.getElem?_eq_getElem hi, e])]
  simp
theorem findSome_at {α β : Type} {p : α → Option β} : ∀ {l : List α} {i : Nat} {x : α} {b : β}, l[i]? = some x → p x = some b → (∀ (j : Nat) y, j < i → l[j]? = some y → p y = none) → l.findSome? p = some b
  | [], i, x, b, h, _, _ => by simp at h
  | a :: l, 0, x, b, h, hp, _ => by
    have e : a = x := Option.some.inj h
    subst e
    rw [List.findSome?_cons, hp]
  | a :: l, i + 1, x, b, h, hp, hn => by
    rw [List.findSome?_cons, hn 0 a (Nat.zero_lt_succ _) rfl]
    exact findSome_at (l := l) (i := i) (x := x) h hp fun j y hj hy => hn (j + 1) y (by omega) hy
theorem findSome_none_at {α β : Type} {p : α → Option β} {l : List α} (h : ∀ (j : Nat) y, l[j]? = some y → p y = none) : l.findSome? p = none := by
  rw [List.findSome?_eq_none_iff]
  intro x hx
  obtain ⟨i, hi, e⟩ := List.getElem_of_mem hx
  exact h i x (by rw [List.getElem?_eq_getElem hi, e])
def sp_first_single_use (a : Ad) : Sp := fun vs H Q _ => ∃ (x l : Addr) (t : F) (us : List U), vs = [.ref x, .ref l] ∧ FactAt a H x t ∧ Uses a H l us ∧ t.ts.length ≤ 4 ∧ (∀ u ∈ us, t.ts.length = u.ts.length) ∧ (t.k ≠ 0 → t.k ≠ 1 → 0 < t.d) ∧ ∀ (v : V) (H' : Hp), Same H H' → OptUse a H' v (mSingle t us) → Q v H'
theorem sc_first_single_use : FnScope ["target", "uses", "use"] ["target", "uses"] (defScope s_first_single_use) := ⟨rfl, rfl, rfl, by decide +kernel, rfl, by decide +kernel, by decide +kernel⟩
theorem mLess_len {t : F} {u : U} (h : t.ts.length = u.ts.length) : (mLess t u).ts.length = t.ts.length := by
  unfold mLess
  rw [List.length_zipWith, h, Nat.min_self]
theorem ok_first_single_use (T : Txt K mg a) : FnOk P w K mg base CX0 4 a.f_first_single_use a.d_first_single_use ["target", "uses"] (sp_first_single_use a) := by
  refine T.F_first_single_use.ok sc_first_single_use (fun vs H Q E h => ?_) (fun cdv A outer s H vs Q E hr h => ?_)
  · obtain ⟨x, l, t, us, rfl, _⟩ := h
    rfl
  · obtain ⟨x, l, t, us, rfl, ht, ⟨xs, hl, hx⟩, h4, hlen, hd, q⟩ := h
    have hr1 : Room 1 _ := hr.mono (by decide)
    refine ⟨_, pss_cons (ps_for PassesOwn.never rfl (pi_list (pv 1)) (pn 2 sc_first_single_use.nd rfl rfl)
        (pss_one (ps_if (pt_val (pe_call (ok_shown_by_none T) hr1 rfl T.g_shown_by_none T.F_shown_by_none.kp T.b_shown_by_none .nil pass0 (pa_cons (pe_call (ok_less T) hr rfl T.g_less T.F_less.kp T.b_less .nil pass0 (pa_cons (pv 0) (pa_cons (pv 2) pa_nil))) pa_nil)))
          (pss_one (ps_ret (pv 2))) pss_nil)))
      (pss_one (ps_ret pe_non)), ?_⟩
    refine ⟨_, rfl, l, rfl, ⟨_, SqL.of hl⟩, for_list (K := K) (xs := xs.map V.ref) (fun i σ H' => (∃ v2, σ = [some (.ref x), some (.ref l), v2]) ∧ Same H H' ∧ ∀ (j : Nat) u, j < i → us[j]? = some u → mNone (mLess t u) = false) ⟨⟨none, rfl⟩, Same.refl H, fun j f h => absurd h (Nat.not_lt_zero _)⟩ (fun i σ H' _ h => SqL.of (h.2.1 _ _ hl)) ?_ ?_⟩
    · rintro i y σ H' hi ⟨⟨v2, rfl⟩, hs, hn⟩
      obtain ⟨z, hz, rfl⟩ := map_get hi
      obtain ⟨u, hu, ua⟩ := hx.get hz
      have hl1 := hlen u (List.mem_of_getElem? hu)
      refine ⟨_, rfl, _, rfl, x, z, t, u, rfl, ht.mono hs, ua.mono hs, hl1, h4, fun y H2 s2 fy => ?_⟩
      refine ⟨y, _, rfl, fy, by rw [mLess_len hl1]; exact h4, hd, fun H3 s3 => ?_⟩
      refine ⟨_, rfl, ?_⟩
      cases hb : mNone (mLess t u) with
      | true =>
        refine iteT ⟨_, rfl, q _ H3 (hs.trans (s2.trans s3)) ?_⟩
        unfold mSingle
        rw [find_some_at hu hb fun j v hj hv => hn j v hj hv]
        exact ⟨z, rfl, ua.mono (hs.trans (s2.trans s3))⟩
      | false =>
        refine iteF ⟨⟨_, rfl⟩, hs.trans (s2.trans s3), fun j v hj hv => ?_⟩
        rcases Nat.lt_succ_iff_lt_or_eq.mp hj with h | h
        · exact hn j v h hv
        · subst h
          rw [hu] at hv
          cases hv
          exact hb
    · rintro σ H' ⟨⟨v2, rfl⟩, hs, hn⟩
      refine q _ H' hs ?_
      unfold mSingle
      rw [find_none_at fun j u hu => hn j u (by rw [List.length_map, hx.1]; exact (List.getElem?_eq_some_iff.mp hu).1) hu]
      rfl
structure Aim (t : F) (fs : List F) : Prop where
  few : fs.length ≤ 12
  four : t.ts.length ≤ 4
  len : ∀ f ∈ fs, f.ts.length = t.ts.length
  div : t.k ≠ 0 → t.k ≠ 1 → 0 < t.d
  knd : ∀ f ∈ fs, f.k ≠ 1 → f.k = t.k → f.k ≠ 0 → 0 < t.d
theorem Aim.ok {t : F} {fs : List F} (h : Aim t fs) : UseOk fs t := fun f hf => ⟨by rw [h.len f hf]; exact h.four, h.knd f hf⟩
theorem Aim.uses {t : F} {fs : List F} (h : Aim t fs) : ∀ u ∈ mUses fs t, t.ts.length = u.ts.length := by
  intro u hu
  unfold mUses at hu
  obtain ⟨x, hx, hu⟩ := List.mem_flatMap.mp hu
  obtain ⟨k, _, rfl⟩ := List.mem_map.mp hu
  obtain ⟨_, e⟩ := zipIdx_get fs 0 x hx
  have := h.len x.1 (List.mem_of_getElem? e)
  unfold mkUse
  rw [List.length_map]
  exact this.symm
theorem mUses_len {t : F} {fs : List F} (h : Aim t fs) : (mUses fs t).length ≤ 48 := by
  unfold mUses
  have := flat4 (g := fun x : F × Nat => (often x.1 t).map (mkUse x.2 x.1)) (fun x => by rw [List.length_map]; exact often_len _ _) fs.zipIdx
  have := h.few
  rw [List.length_zipIdx] at *
  omega
def sp_first_uses (a : Ad) : Sp := fun vs H Q _ => ∃ (x l : Addr) (t : F) (fs : List F), vs = [.ref x, .ref l] ∧ FactAt a H x t ∧ Facts a H l fs ∧ Aim t fs ∧ ∀ (v : V) (H' : Hp), Same H H' → OptUses a H' v (mFirst t fs) → Q v H'
theorem sc_first_uses : FnScope ["target", "usable", "uses", "single", "first", "behind", "second", "use"] ["target", "usable"] (defScope s_first_uses) := ⟨rfl, rfl, rfl, by decide +kernel, rfl, by decide +kernel, by decide +kernel⟩
theorem ok_first_uses (T : Txt K mg a) : FnOk P w K mg base CX0 5 a.f_first_uses a.d_first_uses ["target", "usable"] (sp_first_uses a) := by
  refine T.F_first_uses.ok sc_first_uses (fun vs H Q E h => ?_) (fun cdv A outer s H vs Q E hr h => ?_)
  · obtain ⟨x, l, t, fs, rfl, _⟩ := h
    rfl
  · obtain ⟨x, l, t, fs, rfl, ht, hl, hA, q⟩ := h
    have hr1 : Room 1 _ := hr.mono (by decide)
    have hr3 : Room 3 _ := hr.mono (by decide)
    refine ⟨_, pss_cons (ps_if (pt_val (pe_call (ok_shown_by_none T) hr1 rfl T.g_shown_by_none T.F_shown_by_none.kp T.b_shown_by_none .nil pass0 (pa_cons (pv 0) pa_nil))) (pss_one (ps_ret (pe_lst pa_nil))) pss_nil)
      (pss_cons (ps_set (i := 2) sc_first_uses.nd rfl (Or.inl rfl) (pe_call (ok_allowed_uses T) hr3 rfl T.g_allowed_uses T.F_allowed_uses.kp T.b_allowed_uses .nil pass0 (pa_cons (pv 1) (pa_cons (pv 0) pa_nil))))
      (pss_cons (ps_set (i := 3) sc_first_uses.nd rfl (Or.inl rfl) (pe_call (ok_first_single_use T) hr rfl T.g_first_single_use T.F_first_single_use.kp T.b_first_single_use .nil pass0 (pa_cons (pv 0) (pa_cons (pv 2) pa_nil))))
      (pss_cons (ps_if (pt_cmp (pc_notN (pv 3))) (pss_one (ps_ret (pe_lst (pa_cons (pv 3) pa_nil)))) pss_nil)
      (pss_cons (ps_for PassesOwn.never rfl (pi_list (pv 2)) (pg_name (i := 4) sc_first_uses.nd rfl (Or.inr rfl))
        (pss_cons (ps_setLc (i := 5) (own := [("use", 7)]) (tt := tTest (tOp (rI0 fun i j => .bl (decide (j < i))) (tFldS K (tVar 7) "place") (tFldS K (tVar 4) "place"))) rfl sc_first_uses.nd rfl rfl (sw_true rfl rfl rfl rfl) (pi_list (pv 2)) (blkOk_by rfl) (fun _ _ _ _ _ => pn 7 sc_first_uses.nd rfl rfl) (fun _ _ _ _ _ => pts_one (pt_cmpR op_gt (pg 7) (pg 4) (nomark _))) (fun _ _ _ _ _ => pv 7))
        (pss_cons (ps_set (i := 6) sc_first_uses.nd rfl (Or.inl rfl) (pe_call (ok_first_single_use T) hr rfl T.g_first_single_use T.F_first_single_use.kp T.b_first_single_use .nil pass0 (pa_cons (pe_call (ok_less T) hr3 rfl T.g_less T.F_less.kp T.b_less .nil pass0 (pa_cons (pv 0) (pa_cons (pv 4) pa_nil))) (pa_cons (pv 5) pa_nil))))
        (pss_one (ps_if (pt_cmp (pc_notN (pv 6))) (pss_one (ps_ret (pe_lst (pa_cons (pv 4) (pa_cons (pv 6) pa_nil))))) pss_nil)))))
      (pss_one (ps_ret pe_non)))))), ?_⟩
    refine ⟨_, rfl, x, t, rfl, ht, hA.four, hA.div, fun H1 s1 => ⟨_, rfl, ?_⟩⟩
    cases h0 : mNone t with
    | true =>
      refine iteT ⟨Nat.zero_le _, fun D hD => q _ _ (s1.trans (Same.upd hD)) ?_⟩
      unfold mFirst
      rw [h0]
      exact ⟨D, rfl, [], upd_same, All2.nil⟩
    | false =>
      refine iteF ?_
      refine ⟨_, rfl, _, rfl, l, x, fs, t, rfl, hl.mono s1, ht.mono s1, hA.few, hA.ok, fun U H2 s2 hU => ?_⟩
      have s12 := s1.trans s2
      have us4 := hA.uses
      have ul := mUses_len hA
      refine ⟨_, rfl, _, rfl, x, U, t, mUses fs t, rfl, ht.mono s12, hU, hA.four, us4, hA.div, fun v H3 s3 hv => ?_⟩
      have s13 := s12.trans s3
      have hU3 := hU.mono s3
      refine ⟨_, rfl, _, rfl, ?_⟩
      cases h1 : mSingle t (mUses fs t) with
      | some u =>
        rw [h1] at hv
        obtain ⟨y, rfl, uy⟩ := hv
        refine iteT ⟨_, rfl, (by show 1 ≤ sizeLine; decide), fun D hD => q _ _ (s13.trans (Same.upd hD)) ?_⟩
        unfold mFirst
        rw [h0, h1]
        exact ⟨D, rfl, [y], upd_same, All2.cons (uy.mono (Same.upd hD)) All2.nil⟩
      | none =>
        rw [h1] at hv
        have hv : v = .non := hv
        subst hv
        refine iteF ?_
        obtain ⟨xs, hUl, hx⟩ := hU3
        refine ⟨_, rfl, U, rfl, ⟨_, SqL.of hUl⟩, for_list (K := K) (xs := xs.map V.ref) (fun i σ H' => (∃ v4 v5 v6 v7, σ = [some (.ref x), some (.ref l), some (.ref U), some .non, v4, v5, v6, v7]) ∧ Same H3 H' ∧
          ∀ (j : Nat) u, j < i → (mUses fs t)[j]? = some u → mSingle (mLess t u) ((mUses fs t).filter fun v => decide (u.place < v.place)) = none) ⟨⟨_, _, _, _, rfl⟩, Same.refl _, fun j f h => absurd h (Nat.not_lt_zero _)⟩ (fun i σ H' _ h => SqL.of (h.2.1 _ _ hUl)) ?_ ?_⟩
        · rintro i y σ H' hi ⟨⟨v4, v5, v6, v7, rfl⟩, hs, hn⟩
          obtain ⟨z, hz, rfl⟩ := map_get hi
          obtain ⟨u, hu, ua⟩ := hx.get hz
          have hl1 := us4 u (List.mem_of_getElem? hu)
          refine ⟨_, rfl, U, rfl, ⟨_, SqL.of (hs _ _ hUl)⟩, fun D hD => ?_⟩
          refine lc_list (K := K) (xs := xs.map V.ref) (fun j H2 => Same H' (hid D H2) ∧ ∃ zs, H2 D = some (.lst (zs.map V.ref)) ∧ zs.length ≤ j ∧ All2 (UseAt a (hid D H2)) zs (((mUses fs t).take j).filter fun v => decide (u.place < v.place))) ⟨hid_of (Same.upd hD) hD, [], upd_same, Nat.le_refl _, All2.nil⟩ (fun j H2 _ h => SqL.of (hid_sub _ _ (h.1 _ _ (hs _ _ hUl)))) ?_ ?_
          · rintro j y' H2 hy' ⟨hs2, zs, hz2, hzl, hzs⟩
            obtain ⟨r, hr', rfl⟩ := map_get hy'
            obtain ⟨ur, hur, ra⟩ := hx.get hr'
            have ra2 := (ra.mono hs).mono hs2
            have ua2 := (ua.mono hs).mono hs2
            refine ⟨rfl, _, rfl, _, (ra2.mono hid_sub).place T, _, rfl, _, (ua2.mono hid_sub).place T, _, _, rfl, rfl, _, rfl, ?_⟩
            have jl : j < 48 := by
              have := (List.getElem?_eq_some_iff.mp hur).1
              omega
            rw [take_snoc hur, List.filter_append]
            refine ite2 (fun hc => ?_) (fun hc => ?_)
            · have hc' : u.place < ur.place := by
                have := of_decide_eq_true hc
                omega
              refine ⟨_, rfl, _, hz2, ?_, ?_⟩
              · rw [List.length_map, sizeLine_eq]; omega
              · refine ⟨by rw [hid_upd]; exact hs2, zs ++ [r], by rw [upd_same, List.map_append]; rfl, by rw [List.length_append]; show _ + 1 ≤ _; omega, ?_⟩
                rw [hid_upd, List.filter_cons, if_pos (by simpa using hc')]
                exact hzs.append (All2.cons ra2 All2.nil)
            · have hc' : ¬ u.place < ur.place := fun e => hc (decide_eq_true (by omega))
              refine ⟨hs2, zs, hz2, by omega, ?_⟩
              rw [List.filter_cons, if_neg (by simpa using hc')]
              rw [List.filter_nil, List.append_nil]
              exact hzs
          · rintro H2 ⟨hs2, zs, hz2, hzl, hzs⟩
            rw [take_all (mUses fs t) (by rw [List.length_map, hx.1]; exact Nat.le_refl _)] at hzs
            have sH : Same H' H2 := hs2.trans hid_sub
            have s23 := hs.trans sH
            refine ⟨_, rfl, _, rfl, x, z, t, u, rfl, ht.mono (s13.trans s23), ua.mono s23, hl1, hA.four, fun r H4 s4 fr => ?_⟩
            have s24 := s23.trans s4
            refine ⟨_, rfl, r, D, mLess t u, _, rfl, fr, ⟨zs, s4 _ _ hz2, hzs.mono fun x u r => (r.mono hid_sub).mono s4⟩, by rw [mLess_len hl1]; exact hA.four, fun v hv => by rw [mLess_len hl1]; exact us4 v ((List.mem_filter.mp hv).1), hA.div, fun v H5 s5 hv => ?_⟩
            have s25 := s24.trans s5
            refine ⟨_, rfl, _, rfl, ?_⟩
            cases h2 : mSingle (mLess t u) ((mUses fs t).filter fun v => decide (u.place < v.place)) with
            | some u2 =>
              rw [h2] at hv
              obtain ⟨y2, rfl, uy2⟩ := hv
              refine iteT ⟨_, rfl, _, rfl, (by show 2 ≤ sizeLine; decide), fun L hL => q _ _ (s13.trans (s25.trans (Same.upd hL))) ?_⟩
              unfold mFirst
              rw [h0, h1]
              have e := findSome_at (p := fun u => (mSingle (mLess t u) ((mUses fs t).filter fun v => decide (u.place < v.place))).map fun v => [u, v]) hu (by simp only [h2]; rfl) (fun j v hj hv => by simp only [hn j v hj hv]; rfl)
              simp only [Bool.false_eq_true, if_false]
              rw [e]
              exact ⟨L, rfl, [z, y2], upd_same, All2.cons (ua.mono (s25.trans (Same.upd hL))) (All2.cons (uy2.mono (Same.upd hL)) All2.nil)⟩
            | none =>
              rw [h2] at hv
              have hv : v = .non := hv
              subst hv
              refine iteF ⟨⟨_, _, _, _, rfl⟩, s25, fun j v hj hv => ?_⟩
              rcases Nat.lt_succ_iff_lt_or_eq.mp hj with h | h
              · exact hn j v h hv
              · subst h
                rw [hu] at hv
                cases hv
                exact h2
        · rintro σ H' ⟨⟨v4, v5, v6, v7, rfl⟩, hs, hn⟩
          refine q _ _ (s13.trans hs) ?_
          unfold mFirst
          rw [h0, h1]
          simp only [Bool.false_eq_true, if_false]
          rw [findSome_none_at fun j u hu => by simp only [hn j u (by rw [List.length_map, hx.1]; exact (List.getElem?_eq_some_iff.mp hu).1) hu]; rfl]
          rfl
end
end Lc
end
section
set_option Elab.async false
set_option linter.all false
set_option maxRecDepth 100000
set_option maxHeartbeats 1000000
namespace Lc
open PySem PySem.Spec PyProof.Rows L2
open VaaclBase (Test Branch Loop)
open Vaaclf (Fact)
section
variable {P : Program} {w : World} {K : PySem.W.Frag} {mg : Str → Option Value} {base : Heap} {a : Ad}
theorem mF_div {n : Nat} {g : Fact} (og : OkF n g) (h0 : (mF g).k ≠ 0) (h1 : (mF g).k ≠ 1) : 0 < (mF g).d := by
  obtain ⟨ts, k⟩ := g
  cases k with
  | atMost c => exact absurd rfl h0
  | equal c => exact absurd rfl h1
  | rem m r =>
    have : r < m := og.2
    show (0 : Int) < (m : Int)
    omega
theorem aim_of {n : Nat} {g : Fact} {fs : List Fact} (n4 : n ≤ 4) (og : OkF n g) (ok : ∀ f ∈ fs, OkF n f) (few : fs.length ≤ 12) : Aim (mF g) (fs.map mF) := by
  refine ⟨by rw [List.length_map]; exact few, by rw [mF_ts, og.1]; exact n4, fun f hf => ?_, mF_div og, fun f hf h1 h2 h3 => mF_div og (by rw [← h2]; exact h3) (by rw [← h2]; exact h1)⟩
  obtain ⟨f', hf', rfl⟩ := List.mem_map.mp hf
  rw [mF_ts, mF_ts, og.1, (ok f' hf').1]
theorem usable_len {n : Nat} {l : Loop} {c : Vaaclf.Claim} (ol : OkL n l) (oc : c.length ≤ 6) {b : Nat} (h : b < l.length) : (Vaaclf.usable l n c b).length ≤ 12 := by
  have e := congrArg List.length (mUsable_eq l n c b)
  rw [List.length_map] at e
  rw [e]
  unfold mUsable
  have ob := branchAt_ok ol h
  have := flat_len n (l.take b)
  have := ob.2.1
  have := ol.len
  rw [List.length_append, List.length_append, List.length_map, List.length_map]
  rw [List.length_take] at *
  omega
def ClaimAt (a : Ad) (H : Hp) (l : Addr) (c : Vaaclf.Claim) : Prop := Facts a H l (c.map mF)
structure Desked (a : Ad) (n : Nat) (H : Hp) (lb lc : Addr) (bs : Loop) (c : Vaaclf.Claim) : Prop where
  hb : Branches a n H lb bs
  ol : OkL n bs
  hc : ClaimAt a H lc c
  oc : OkC n c
theorem Desked.mono {n : Nat} {H H' : Hp} {lb lc : Addr} {bs : Loop} {c : Vaaclf.Claim} (d : Desked a n H lb lc bs c) (s : Same H H') : Desked a n H' lb lc bs c := ⟨d.hb.mono s, d.ol, Facts.mono d.hc s, d.oc⟩
def sp_uses_that_keep (a : Ad) : Sp := fun vs H Q _ => ∃ (lb lc x : Addr) (n : Nat) (bs : Loop) (b : Nat) (c : Vaaclf.Claim) (f : Fact), vs = [.ref lb, .int (b : Nat), .ref lc, .ref x] ∧ Desked a n H lb lc bs c ∧ b < bs.length ∧ FactAt a H x (mF f) ∧ OkF n f ∧
  ∀ (v : V) (H' : Hp), Same H H' → OptUses a H' v (mKeeps bs n (c.map mF) b (mF f)) → Q v H'
theorem sc_uses_that_keep : FnScope ["branches", "place", "claim", "fact"] ["branches", "place", "claim", "fact"] (defScope s_uses_that_keep) := ⟨rfl, rfl, rfl, by decide +kernel, rfl, by decide +kernel, by decide +kernel⟩
theorem ok_uses_that_keep (T : Txt K mg a) : FnOk P w K mg base CX0 6 a.f_uses_that_keep a.d_uses_that_keep ["branches", "place", "claim", "fact"] (sp_uses_that_keep a) := by
  refine T.F_uses_that_keep.ok sc_uses_that_keep (fun vs H Q E h => ?_) (fun cdv A outer s H vs Q E hr h => ?_)
  · obtain ⟨lb, lc, x, n, bs, b, c, f, rfl, _⟩ := h
    rfl
  · obtain ⟨lb, lc, x, n, bs, b, c, f, rfl, d, hb, hx, of, q⟩ := h
    have hr3 : Room 3 _ := hr.mono (by decide)
    refine ⟨_, pss_one (ps_ret (pe_call (ok_first_uses T) hr rfl T.g_first_uses T.F_first_uses.kp T.b_first_uses .nil pass0 (pa_cons
        (pe_call (ok_ahead_of T) hr3 rfl T.g_ahead_of T.F_ahead_of.kp T.b_ahead_of .nil pass0 (pa_cons (pe_fld (pe_ix ix_list (pv 0) (pv 1) (fun _ _ => rfl)) rfl) (pa_cons (pv 3) pa_nil)))
        (pa_cons (pe_call (ok_usable_for T) hr rfl T.g_usable_for T.F_usable_for.kp T.b_usable_for .nil pass0 (pa_cons (pv 0) (pa_cons (pv 1) (pa_cons (pv 2) pa_nil)))) pa_nil)))), ?_⟩
    obtain ⟨ys, hlb, hys⟩ := d.hb
    have hyl := hys.1
    obtain ⟨y, hy⟩ : ∃ y, ys[b]? = some y := ⟨_, List.getElem?_eq_getElem (by rw [hyl]; exact hb)⟩
    obtain ⟨br, hbr, by'⟩ := hys.get hy
    have hat : VaaclBase.branchAt bs b = br := by unfold VaaclBase.branchAt; rw [hbr]; rfl
    have ob : OkB n br := by rw [← hat]; exact branchAt_ok d.ol hb
    obtain ⟨lm, ⟨b1, C1, dx1, fs1, e1, e2, e3, e4, e5⟩, hm⟩ := by'.move T
    have of' : (mF f).ts.length = br.move.length := by rw [mF_ts, of.1, ob.2.2.1.1]
    refine ⟨_, rfl, _, rfl, lb, _, _, _, rfl, rfl, SqL.of hlb, atI_nat (by rw [List.getElem?_map, hy]; rfl), b1, C1, dx1, fs1, _, e1, e2, e3, e4, e5, _, rfl, ?_⟩
    refine ⟨lm, x, br.move, mF f, rfl, hm, hx, of', by rw [ob.2.2.1.1]; exact d.ol.lt, fun g hg j hj => by rw [ob.2.2.1.1]; exact ob.2.2.1.2 g hg j hj, ob.2.2.2, fun h2 => mF_div of (by rw [h2]; decide) (by rw [h2]; decide), fun z H1 s1 fz => ?_⟩
    have oa := ahead_ok ob.2.2.1 of
    rw [← mAhead_eq ob.2.2.1 of] at fz
    have d1 := d.mono s1
    refine ⟨_, rfl, _, rfl, _, rfl, lb, lc, n, bs, b, c.map mF, rfl, d1.hb, d1.ol, hb, d1.hc, by rw [List.length_map]; exact d.oc.len, fun l H2 s2 hl => ?_⟩
    rw [← mUsable_eq] at hl
    refine ⟨z, l, _, _, rfl, fz.mono s2, hl, aim_of d.ol.lt oa (usable_ok d.ol d.oc.all hb) (usable_len d.ol d.oc.len hb), fun v H3 s3 hv => q v H3 (s1.trans (s2.trans s3)) ?_⟩
    unfold mKeeps
    rw [hat, ← mAhead_eq ob.2.2.1 of, ← mUsable_eq]
    exact hv
def sp_keeps (a : Ad) : Sp := fun vs H Q _ => ∃ (lb lc x : Addr) (n : Nat) (bs : Loop) (b : Nat) (c : Vaaclf.Claim) (f : Fact), vs = [.ref lb, .int (b : Nat), .ref lc, .ref x] ∧ Desked a n H lb lc bs c ∧ b < bs.length ∧ FactAt a H x (mF f) ∧ OkF n f ∧
  ∀ (H' : Hp), Same H H' → Q (.bl (Vaaclf.keepsBy bs n c b f).isSome) H'
theorem sc_keeps : FnScope ["branches", "place", "claim", "fact"] ["branches", "place", "claim", "fact"] (defScope s_keeps) := ⟨rfl, rfl, rfl, by decide +kernel, rfl, by decide +kernel, by decide +kernel⟩
theorem ok_keeps (T : Txt K mg a) : FnOk P w K mg base CX0 7 a.f_keeps a.d_keeps ["branches", "place", "claim", "fact"] (sp_keeps a) := by
  refine T.F_keeps.ok sc_keeps (fun vs H Q E h => ?_) (fun cdv A outer s H vs Q E hr h => ?_)
  · obtain ⟨lb, lc, x, n, bs, b, c, f, rfl, _⟩ := h
    rfl
  · obtain ⟨lb, lc, x, n, bs, b, c, f, rfl, d, hb, hx, of, q⟩ := h
    refine ⟨_, pss_one (ps_ret (pe_cmp (pc_notN (pe_call (ok_uses_that_keep T) hr rfl T.g_uses_that_keep T.F_uses_that_keep.kp T.b_uses_that_keep .nil pass0 (pa_cons (pv 0) (pa_cons (pv 1) (pa_cons (pv 2) (pa_cons (pv 3) pa_nil)))))))), ?_⟩
    refine ⟨_, rfl, _, rfl, _, rfl, _, rfl, lb, lc, x, n, bs, b, c, f, rfl, d, hb, hx, of, fun v H1 s1 hv => ?_⟩
    have z := q H1 s1
    rw [← keeps_some d.ol d.oc.all hb of] at z
    cases e : mKeeps bs n (c.map mF) b (mF f) with
    | none =>
      rw [e] at hv z
      have hv : v = .non := hv
      subst hv
      exact z
    | some us =>
      rw [e] at hv z
      obtain ⟨D, rfl, _⟩ := hv
      exact z
def sp_kept_by_all (a : Ad) : Sp := fun vs H Q _ => ∃ (lb lc x : Addr) (n : Nat) (bs : Loop) (c : Vaaclf.Claim) (f : Fact), vs = [.ref lb, .ref lc, .ref x] ∧ Desked a n H lb lc bs c ∧ FactAt a H x (mF f) ∧ OkF n f ∧
  ∀ (H' : Hp), Same H H' → Q (.bl (keepAll bs n c f)) H'
theorem sc_kept_by_all : FnScope ["branches", "claim", "fact", "place"] ["branches", "claim", "fact"] (defScope s_kept_by_all) := ⟨rfl, rfl, rfl, by decide +kernel, rfl, by decide +kernel, by decide +kernel⟩
theorem ok_kept_by_all (T : Txt K mg a) : FnOk P w K mg base CX0 8 a.f_kept_by_all a.d_kept_by_all ["branches", "claim", "fact"] (sp_kept_by_all a) := by
  refine T.F_kept_by_all.ok sc_kept_by_all (fun vs H Q E h => ?_) (fun cdv A outer s H vs Q E hr h => ?_)
  · obtain ⟨lb, lc, x, n, bs, c, f, rfl, _⟩ := h
    rfl
  · obtain ⟨lb, lc, x, n, bs, c, f, rfl, d, hx, of, q⟩ := h
    refine ⟨_, pss_one (ps_ret (pe_callB (cr_all rfl) rfl T.bl_all boot_all (pa_cons
        (pe_lc (own := [("place", 3)]) rfl sc_kept_by_all.nd (pi_range1 rfl T.bl_range (pa_cons (pe_callB call_len_seq rfl T.bl_len PySem.boot_len (pa_cons (pv 0) pa_nil)) pa_nil)) (blkOk_by rfl) (fun _ _ _ _ _ => pn 3 sc_kept_by_all.nd rfl rfl) (fun _ _ _ _ _ => pts_nil)
          (fun _ _ _ _ _ => pe_call (ok_keeps T) hr (by rfl) T.g_keeps T.F_keeps.kp T.b_keeps .nil pass0 (pa_cons (pv 0) (pa_cons (pv 3) (pa_cons (pv 1) (pa_cons (pv 2) pa_nil)))))) pa_nil))), ?_⟩
    obtain ⟨ys, hlb, hys⟩ := d.hb
    have hyl := hys.1
    have hll := d.ol.len
    refine ⟨_, rfl, lb, _, rfl, .inl (SqL.of hlb), _, rfl, by rw [List.length_map]; omega, by rw [List.length_map]; omega, fun D hD => ?_⟩
    generalize hp : (List.range bs.length).map (fun b => (Vaaclf.keepsBy bs n c b f).isSome) = ps
    have lp : ps.length = bs.length := by rw [← hp, List.length_map, List.length_range]
    have e0 : (((ys.map V.ref).length : Nat) : Int).toNat = bs.length := by rw [List.length_map, hyl]; rfl
    rw [e0]
    refine lc_range (lo := 0) (n := bs.length) (fun i H' => H' D = some (.lst ((ps.take i).map V.bl)) ∧ Same H H') ⟨upd_same, Same.upd hD⟩ ?_ ?_
    · rintro i H' hi ⟨hD', hs⟩
      refine ⟨rfl, yes ?_⟩
      rw [Int.zero_add]
      refine ⟨_, rfl, _, rfl, _, rfl, _, rfl, lb, lc, x, n, bs, i, c, f, rfl, d.mono hs, hi, hx.mono hs, of, fun H2 s2 => ⟨_, s2 _ _ hD', ?_, ?_, ?_⟩⟩
      · rw [List.length_map, List.length_take, lp, sizeLine_eq]; omega
      · have e : ps[i]? = some (Vaaclf.keepsBy bs n c i f).isSome := by rw [← hp, List.getElem?_map, List.getElem?_range hi]; rfl
        rw [upd_same, take_snoc e, List.map_append]
        rfl
      · exact fun b o e => by rw [upd_ne (ne_of_none e hD)]; exact s2 _ _ (hs _ _ e)
    · rintro H' ⟨hD', hs⟩
      rw [take_all ps (by omega)] at hD'
      refine ⟨D, ps, rfl, SqL.of hD', ?_⟩
      have z := q H' hs
      unfold keepAll at z
      rw [← hp, List.all_map]
      exact z
theorem dpAll_ints {K : PySem.W.Frag} {H : Hp} : ∀ ns : List Int, DpAll K H (ns.map V.int) (ns.map PyData.int)
  | [] => .nil
  | x :: l => .cons (.int x) (dpAll_ints l)
theorem shaped_ints (ns : List Int) : SeqAt.shaped (.list (ns.map PyData.int)) = true := by
  simp [SeqAt.shaped, PyData.canLay0, PyData.canLayAll0, PyData.depth, PyData.depthAll, PySem.W.ke_canLayAll0, PySem.W.ke_depthAll]
theorem eqv_ints (ns ms : List Int) : PyData.eqv (.list (ns.map PyData.int)) (.list (ms.map PyData.int)) = decide (ns = ms) := by
  simp only [PyData.eqv, PySem.W.ked_eqvAll]
def natsV (l : List Nat) : List Int := l.map fun (i : Nat) => (i : Int)
theorem natsV_inj : ∀ {l m : List Nat}, natsV l = natsV m → l = m
  | [], [], _ => rfl
  | [], _ :: _, h => by cases h
  | _ :: _, [], h => by cases h
  | x :: l, y :: m, h => by
    have h1 : ((x : Nat) : Int) = (y : Nat) := (List.cons.inj h).1
    have h2 : natsV l = natsV m := (List.cons.inj h).2
    rw [natsV_inj h2, show x = y by omega]
def OfC (c : Vaaclf.Claim) (C : List (Fact × Nat)) : Prop := ∀ x ∈ C, c[x.2]? = some x.1
theorem tStep_of {c : Vaaclf.Claim} {C : List (Fact × Nat)} {bs : Loop} {n : Nat} (h : OfC c C) : OfC c (tStep bs n C) := fun x hx => h x ((List.mem_filter.mp hx).1)
theorem OfC.facts {c : Vaaclf.Claim} {C : List (Fact × Nat)} {n : Nat} (h : OfC c C) (oc : OkC n c) (hl : C.length ≤ c.length) : OkC n (C.map fun x => x.1) := by
  refine ⟨by rw [List.length_map]; have := oc.len; omega, fun f hf => ?_, fun f hf => ?_⟩
  · obtain ⟨x, hx, rfl⟩ := List.mem_map.mp hf
    exact oc.all _ (List.mem_of_getElem? (h x hx))
  · obtain ⟨x, hx, rfl⟩ := List.mem_map.mp hf
    exact oc.small _ (List.mem_of_getElem? (h x hx))
theorem tStep_same {C : List (Fact × Nat)} {bs : Loop} {n : Nat} (h : (tStep bs n C).length = C.length) : tStep bs n C = C := by
  apply Classical.byContradiction
  intro e
  have := tStep_lt e
  omega
def sp_trimmed (a : Ad) : Sp := fun vs H Q _ => ∃ (lb lc : Addr) (n : Nat) (bs : Loop) (c : Vaaclf.Claim), vs = [.ref lb, .ref lc] ∧ Desked a n H lb lc bs c ∧
  ∀ (D : Addr) (H' : Hp), Same H H' → H' D = some (.lst ((natsV ((Vaaclf.trim bs n c).map fun x => x.2)).map V.int)) → Q (.ref D) H'
theorem sc_trimmed : FnScope ["branches", "claim", "left", "facts", "kept", "place"] ["branches", "claim"] (defScope s_trimmed) := ⟨rfl, rfl, rfl, by decide +kernel, rfl, by decide +kernel, by decide +kernel⟩
theorem ok_trimmed (T : Txt K mg a) : FnOk P w K mg base CX0 9 a.f_trimmed a.d_trimmed ["branches", "claim"] (sp_trimmed a) := by
  refine T.F_trimmed.ok sc_trimmed (fun vs H Q E h => ?_) (fun cdv A outer s H vs Q E hr h => ?_)
  · obtain ⟨lb, lc, n, bs, c, rfl, _⟩ := h
    rfl
  · obtain ⟨lb, lc, n, bs, c, rfl, d, q⟩ := h
    refine ⟨_, pss_cons (ps_set (i := 2) sc_trimmed.nd rfl (Or.inl rfl) (pe_callTy (call_list_rng rfl) rfl T.bl_list boot_list (pa_cons (pe_callTy call_range1 rfl T.bl_range boot_range (pa_cons (pe_callB call_len_seq rfl T.bl_len PySem.boot_len (pa_cons (pv 1) pa_nil)) pa_nil)) pa_nil)))
      (pss_one (ps_while PassesOwn.never (pt_val pe_bl)
        (pss_cons (ps_set (i := 3) sc_trimmed.nd rfl (Or.inr rfl) (pe_lc (own := [("place", 5)]) (te := tOp (rIxL K) (tVar 1) (tVar 5)) rfl sc_trimmed.nd (pi_list (pv 2)) (blkOk_by rfl) (fun _ _ _ _ _ => pn 5 sc_trimmed.nd rfl rfl) (fun _ _ _ _ _ => pts_nil) (fun _ _ _ _ _ => pe_ix ix_list (pv 1) (pv 5) (fun _ _ => rfl))))
        (pss_cons (ps_setLc (i := 4) (own := [("place", 5)]) (tt := tB (tCall (sp_kept_by_all a) [] E0 (tCons (tVar 0) (tCons (tVar 3) (tCons (tOp (rIxL K) (tVar 1) (tVar 5)) tNil))))) rfl sc_trimmed.nd rfl rfl (sw_true rfl rfl rfl rfl) (pi_list (pv 2)) (blkOk_by rfl) (fun _ _ _ _ _ => pn 5 sc_trimmed.nd rfl rfl)
            (fun _ _ _ _ _ => pts_one (pt_val (pe_call (ok_kept_by_all T) hr (by rfl) T.g_kept_by_all T.F_kept_by_all.kp T.b_kept_by_all .nil pass0 (pa_cons (pv 0) (pa_cons (pv 3) (pa_cons (pe_ix ix_list (pv 1) (pv 5) (fun _ _ => rfl)) pa_nil)))))) (fun _ _ _ _ _ => pv 5))
        (pss_cons (ps_if (pt_cmpR (op_eqD hr.units) (pv 4) (pv 2) (nomark _)) (pss_one (ps_ret (pv 2))) pss_nil)
        (pss_one (ps_set (i := 2) sc_trimmed.nd rfl (Or.inl rfl) (pv 4)))))))), ?_⟩
    obtain ⟨xs, hlc, hxs⟩ := d.hc
    have hxl : xs.length = c.length := by have := hxs.1; rw [List.length_map] at this; exact this
    have c6 := d.oc.len
    refine ⟨_, rfl, lc, _, rfl, .inl (SqL.of hlc), _, rfl, fun r hr' => ⟨r, c.length, rfl, by rw [upd_same, List.length_map, hxl], by omega, fun l hl => ?_⟩⟩
    have s0 : Same H (upd (upd H r (.rng 0 ((xs.map V.ref).length : Nat))) l (.lst (upto c.length))) := (Same.upd hr').trans (Same.upd hl)
    have hl0 : (upd (upd H r (.rng 0 ((xs.map V.ref).length : Nat))) l (.lst (upto c.length))) l = some (.lst ((natsV (c.zipIdx.map fun x => x.2)).map V.int)) := by
      rw [upd_same]
      congr 2
      unfold upto natsV
      rw [List.map_map, List.map_map]
      apply List.ext_getElem?
      intro i
      rw [List.getElem?_map, List.getElem?_map, List.getElem?_zipIdx]
      by_cases hi : i < c.length
      · rw [List.getElem?_range hi, List.getElem?_eq_getElem hi]
        simp
      · rw [List.getElem?_eq_none (by rw [List.length_range]; omega), List.getElem?_eq_none (by omega)]
        rfl
    have of0 : OfC c c.zipIdx := fun x hx => by
      obtain ⟨_, e⟩ := zipIdx_get c 0 x hx
      rw [Nat.sub_zero] at e
      exact e
    refine while_by (fun σ H' => ∃ (l : Addr) (C : List (Fact × Nat)) (v3 v4 v5 : Option V), σ = [some (.ref lb), some (.ref lc), some (.ref l), v3, v4, v5] ∧ Same H H' ∧ H' l = some (.lst ((natsV (C.map fun x => x.2)).map V.int)) ∧ OfC c C ∧ C.length ≤ c.length ∧
        Vaaclf.trimFrom bs n C.length C = Vaaclf.trim bs n c)
      (fun σ H' => match σ[2]? with | some (some (V.ref l)) => (match H' l with | some (HO.lst ys) => ys.length | _ => 0) | _ => 0) ⟨l, c.zipIdx, none, none, none, rfl, s0, hl0, of0, by rw [List.length_zipIdx]; exact Nat.le_refl _, by unfold Vaaclf.trim; rw [List.length_zipIdx]⟩ ?_ ?_
    · rintro σ H' ⟨l, C, v3, v4, v5, rfl, hs, hl, of, hle, ht⟩
      refine ⟨_, rfl, iteT ?_⟩
      have oc2 := of.facts d.oc hle
      have at_ : ∀ {i : Nat} {x : Fact × Nat}, C[i]? = some x → ∃ y, xs[x.2]? = some y ∧ FactAt a H y (mF x.1) := fun {i x} hx => by
        obtain ⟨y, hy, r⟩ := hxs.get' (i := x.2) (y := mF x.1) (by rw [List.getElem?_map, of x (List.mem_of_getElem? hx)]; rfl)
        exact ⟨y, hy, r⟩
      refine ⟨_, rfl, l, rfl, ⟨_, SqL.of hl⟩, fun D hD => ?_⟩
      refine lc_list (K := K) (xs := (natsV (C.map fun x => x.2)).map V.int) (fun i H2 => Same H' (hid D H2) ∧ ∃ zs, H2 D = some (.lst (zs.map V.ref)) ∧ zs.length = i ∧ All2 (FactAt a (hid D H2)) zs ((C.take i).map fun x => mF x.1)) ⟨hid_of (Same.upd hD) hD, [], upd_same, rfl, All2.nil⟩ (fun i H2 _ h => SqL.of (hid_sub _ _ (h.1 _ _ hl))) ?_ ?_
      · rintro i y H2 hy ⟨hs2, zs, hz, hzl, hzs⟩
        obtain ⟨k, hk, rfl⟩ := map_get hy
        obtain ⟨k', hk', rfl⟩ := map_get hk
        obtain ⟨x, hx, rfl⟩ := map_get hk'
        obtain ⟨z, hz', fz⟩ := at_ hx
        have il : i < C.length := (List.getElem?_eq_some_iff.mp hx).1
        refine ⟨rfl, yes ⟨_, rfl, _, rfl, lc, _, _, .ref z, rfl, rfl, SqL.of (hid_sub _ _ (hs2 _ _ (hs _ _ hlc))), atI_nat (by rw [List.getElem?_map, hz']; rfl), _, hz, ?_, ?_⟩⟩
        · rw [List.length_map, hzl, sizeLine_eq]; omega
        · refine ⟨by rw [hid_upd]; exact hs2, zs ++ [z], by rw [upd_same, List.map_append]; rfl, by rw [List.length_append, hzl]; rfl, ?_⟩
          rw [hid_upd, take_snoc hx, List.map_append]
          exact hzs.append (All2.cons ((fz.mono hs).mono hs2) All2.nil)
      · rintro H2 ⟨hs2, zs, hz, hzl, hzs⟩
        rw [take_all C (by rw [List.length_map]; unfold natsV; rw [List.length_map, List.length_map]; exact Nat.le_refl _)] at hzs
        have s2 : Same H' H2 := hs2.trans hid_sub
        have hF : ClaimAt a H2 D (C.map fun x => x.1) := ⟨zs, hz, by rw [List.map_map]; exact hzs.mono fun x f r => r.mono hid_sub⟩
        have hl2 := s2 _ _ hl
        have d2 : Desked a n H2 lb D bs (C.map fun x => x.1) := ⟨d.hb.mono (hs.trans s2), d.ol, hF, oc2⟩
        refine ⟨_, rfl, l, rfl, ⟨_, SqL.of hl2⟩, fun D3 hD3 => ?_⟩
        refine lc_list (K := K) (xs := (natsV (C.map fun x => x.2)).map V.int) (fun i H3 => Same H2 H3 ∧ H3 D3 = some (.lst ((natsV (((C.take i).filter fun x => keepAll bs n (C.map fun y => y.1) x.1).map fun x => x.2)).map V.int))) ⟨Same.upd hD3, upd_same⟩ (fun i H3 _ h => SqL.of (h.1 _ _ hl2)) ?_ ?_
        · rintro i y H3 hy ⟨hs3, hz3⟩
          obtain ⟨k, hk, rfl⟩ := map_get hy
          obtain ⟨k', hk', rfl⟩ := map_get hk
          obtain ⟨x, hx, rfl⟩ := map_get hk'
          obtain ⟨z, hz', fz⟩ := at_ hx
          have il : i < C.length := (List.getElem?_eq_some_iff.mp hx).1
          have s13 := hs.trans (s2.trans hs3)
          refine ⟨rfl, _, rfl, _, rfl, _, rfl, _, rfl, lc, _, _, .ref z, rfl, rfl, SqL.of (s13 _ _ hlc), atI_nat (by rw [List.getElem?_map, hz']; rfl), ?_⟩
          refine ⟨lb, D, z, n, bs, _, x.1, rfl, d2.mono hs3, fz.mono s13, d.oc.all _ (List.mem_of_getElem? (of x (List.mem_of_getElem? hx))), fun H4 s4 => ⟨_, rfl, ?_⟩⟩
          rw [take_snoc hx, List.filter_append]
          cases hk : keepAll bs n (C.map fun y => y.1) x.1 with
          | true =>
            refine iteT ⟨_, rfl, _, s4 _ _ hz3, ?_, ?_, ?_⟩
            · unfold natsV
              rw [List.length_map, List.length_map, List.length_map, sizeLine_eq]
              have := List.length_filter_le (fun x : Fact × Nat => keepAll bs n (C.map fun y => y.1) x.1) (C.take i)
              rw [List.length_take] at this
              omega
            · exact fun b o e => by rw [upd_ne (ne_of_none e hD3)]; exact s4 _ _ (hs3 _ _ e)
            · rw [upd_same, List.filter_cons, if_pos hk]
              unfold natsV
              rw [List.map_append, List.map_append, List.map_append]
              rfl
          | false =>
            refine iteF ⟨hs3.trans s4, ?_⟩
            rw [List.filter_cons, if_neg (by rw [hk]; decide), List.filter_nil, List.append_nil]
            exact s4 _ _ hz3
        · rintro H3 ⟨hs3, hz3⟩
          rw [take_all C (by rw [List.length_map]; unfold natsV; rw [List.length_map, List.length_map]; exact Nat.le_refl _)] at hz3
          have hz3 : H3 D3 = some (.lst ((natsV ((tStep bs n C).map fun x => x.2)).map V.int)) := hz3
          have hl3 := hs3 _ _ hl2
          refine ⟨_, rfl, _, rfl, _, _, .lst (SqL.of hz3) (dpAll_ints _), .lst (SqL.of hl3) (dpAll_ints _), shaped_ints _, shaped_ints _, _, rfl, ?_⟩
          rw [eqv_ints]
          refine ite2 (fun he => ?_) (fun he => ?_)
          · have he := natsV_inj (of_decide_eq_true he)
            have e2 : tStep bs n C = C := tStep_same (by have := congrArg List.length he; rw [List.length_map, List.length_map] at this; exact this)
            have e3 : Vaaclf.trim bs n c = C := by
              rw [← ht]
              cases hC : C.length with
              | zero => rfl
              | succ k => rw [trim_step, if_pos e2]
            refine ⟨_, rfl, q l H3 (hs.trans (s2.trans hs3)) ?_⟩
            rw [e3]
            exact hl3
          · have ne : ¬ tStep bs n C = C := fun e => he (by rw [e]; exact decide_eq_true rfl)
            have lt := tStep_lt ne
            refine ⟨_, rfl, ⟨D3, tStep bs n C, _, _, _, rfl, hs.trans (s2.trans hs3), hz3, tStep_of of, by omega, ?_⟩, ?_⟩
            · rw [← ht]
              cases hC : C.length with
              | zero => omega
              | succ k =>
                rw [trim_step, if_neg ne]
                exact (trim_more bs n k _ (by omega)).symm
            · show (match H3 D3 with | some (HO.lst ys) => ys.length | _ => 0) < (match H' l with | some (HO.lst ys) => ys.length | _ => 0)
              rw [hz3, hl]
              show ((natsV _).map V.int).length < ((natsV _).map V.int).length
              unfold natsV
              rw [List.length_map, List.length_map, List.length_map, List.length_map, List.length_map, List.length_map]
              exact lt
    · exact fun σ H Q Q' h q => by
        obtain ⟨c, e, q⟩ := q
        exact ⟨c, e, h _ _ q⟩
end
end Lc
end
section
set_option Elab.async false
set_option linter.all false
set_option maxRecDepth 100000
set_option maxHeartbeats 1000000
namespace Lc
open PySem PySem.Spec PyProof.Rows L2
open VaaclBase (Reader readInt readTimes)
def rdFs (l : Addr) (p : Nat) : List (Str × V) := [("numbers", .ref l), ("place", .int (p : Nat))]
structure Rd where
  r : Addr
  l : Addr
  ns : List Int
structure RdAt (K : PySem.W.Frag) (a : Ad) (H : Hp) (c : Rd) (p : Nat) : Prop where
  ob : ∃ dx, H c.r = some (.ins a.C_Reader dx (rdFs c.l p))
  ls : SqL K H c.l (c.ns.map V.int)
  le : p ≤ c.ns.length
def Off (K : PySem.W.Frag) (c : Rd) (D : Addr) : Prop := c.l ≠ D ∨ SqL K (fun _ => none) c.l (c.ns.map V.int)
section
variable {K : PySem.W.Frag} {mg : Str → Option Value} {a : Ad} {H H0 H' : Hp} {c : Rd} {p : Nat}
theorem sq_split {l : Addr} {xs : List V} (h : SqL K H l xs) : (∃ o, H l = some o ∧ (o = .lst xs ∨ ∃ ob, o = .frz ob (.lst xs))) ∨ SqL K (fun _ => none) l xs := by
  rcases h with (h | ⟨o, h⟩) | h
  · exact .inl ⟨_, h, .inl rfl⟩
  · exact .inl ⟨_, h, .inr ⟨o, rfl⟩⟩
  · exact .inr (.inr h)
theorem sq_any {l : Addr} {xs : List V} (h : SqL K (fun _ => none) l xs) : SqL K H l xs := by
  rcases h with (h | ⟨o, h⟩) | h
  · cases h
  · cases h
  · exact .inr h
theorem sq_at {l : Addr} {xs : List V} {o : HO} (e : H l = some o) (h : o = .lst xs ∨ ∃ ob, o = .frz ob (.lst xs)) : SqL K H l xs := by
  rcases h with rfl | ⟨ob, rfl⟩
  · exact SqL.of e
  · exact .inl (.inr ⟨ob, e⟩)
theorem sq_but {l d C dx : Addr} {fs : List (Str × V)} {xs : List V} (h : SqL K H l xs) (hd : H d = some (.ins C dx fs)) (b : ∀ b o, H b = some o → b ≠ d → H' b = some o) : SqL K H' l xs := by
  rcases sq_split h with ⟨o, e, k⟩ | h
  · refine sq_at (b _ _ e fun z => ?_) k
    rw [z, hd] at e
    cases e
    rcases k with z | ⟨ob, z⟩ <;> cases z
  · exact sq_any h
theorem RdAt.mono (h : RdAt K a H c p) (s : Same H H') : RdAt K a H' c p := ⟨let ⟨dx, h1⟩ := h.ob; ⟨dx, s _ _ h1⟩, Same.seq s h.ls, h.le⟩
theorem RdAt.num (h : RdAt K a H c p) (T : Txt K mg a) : Fld K H (.ref c.r) "numbers" (.ref c.l) := let ⟨dx, h1⟩ := h.ob; ⟨c.r, _, dx, _, rfl, h1, T.cl_Reader, T.na_Reader_numbers, rfl⟩
theorem RdAt.pl (h : RdAt K a H c p) (T : Txt K mg a) : Fld K H (.ref c.r) "place" (.int (p : Nat)) := let ⟨dx, h1⟩ := h.ob; ⟨c.r, _, dx, _, rfl, h1, T.cl_Reader, T.na_Reader_place, rfl⟩
theorem RdAt.moved (h : RdAt K a H c p) {dx : Addr} {q : Nat} (hq : q ≤ c.ns.length) : RdAt K a (upd H c.r (.ins a.C_Reader dx (rdFs c.l q))) c q := by
  obtain ⟨dx0, h1⟩ := h.ob
  exact ⟨⟨dx, upd_same⟩, sq_but h.ls h1 fun b o e hb => by rw [upd_ne hb]; exact e, hq⟩
theorem RdAt.put (h : RdAt K a H c p) {D : Addr} {o : HO} (h1 : c.r ≠ D) (h2 : Off K c D) : RdAt K a (upd H D o) c p := by
  refine ⟨let ⟨dx, e⟩ := h.ob; ⟨dx, by rw [upd_ne h1]; exact e⟩, ?_, h.le⟩
  rcases h2 with h2 | h2
  · rcases sq_split h.ls with ⟨o, e, k⟩ | h
    · exact sq_at (by rw [upd_ne h2]; exact e) k
    · exact sq_any h
  · exact sq_any h2
theorem RdAt.some (h : RdAt K a H c p) : H c.r ≠ none := by
  obtain ⟨dx, h1⟩ := h.ob
  rw [h1]
  intro z
  cases z
theorem RdAt.new (h : RdAt K a H c p) {D : Addr} (hD : H D = none) : c.r ≠ D ∧ Off K c D := by
  refine ⟨fun z => h.some (by rw [z]; exact hD), ?_⟩
  rcases sq_split h.ls with ⟨o, e, _⟩ | h
  · exact .inl fun z => by rw [z, hD] at e; cases e
  · exact .inr h
theorem RdAt.but (h : RdAt K a H c p) {d C dx : Addr} {fs : List (Str × V)} (hd : H d = Option.some (.ins C dx fs)) (h1 : c.r ≠ d) (b : ∀ b o, H b = Option.some o → b ≠ d → H' b = Option.some o) : RdAt K a H' c p :=
  ⟨let ⟨dx, e⟩ := h.ob; ⟨dx, b _ _ e h1⟩, sq_but h.ls hd b, h.le⟩
end
theorem But.refl {r : Addr} (H : Hp) : But r H H := fun _ _ h _ => h
theorem But.upd {r : Addr} {H : Hp} {o : HO} : But r H (L2.upd H r o) := fun b u e hb => by rw [upd_ne hb]; exact e
def fresh (H H' : Hp) : Hp := fun b => match H b with
  | none => H' b
  | some _ => none
def Dom (H H1 : Hp) : Prop := ∀ b, H1 b = none → H b = none
def Mo {A : Type} (R : Hp → V → A → Prop) : Prop := ∀ C C' v x, Same C C' → R C v x → R C' v x
section
variable {r b : Addr} {H H1 H2 H' : Hp} {o : HO}
theorem fresh_get (e : fresh H H' b = some o) : H b = none ∧ H' b = some o := by
  unfold fresh at e
  cases q : H b with
  | none => rw [q] at e; exact ⟨rfl, e⟩
  | some u => rw [q] at e; cases e
theorem fresh_mk (h : H b = none) (e : H' b = some o) : fresh H H' b = some o := by
  unfold fresh
  rw [h]
  exact e
theorem fresh_sub : Same (fresh H H') H' := fun _ _ e => (fresh_get e).2
theorem fresh_dom (d : Dom H H1) : Same (fresh H1 H') (fresh H H') := fun _ _ e => let ⟨h1, h2⟩ := fresh_get e; fresh_mk (d _ h1) h2
theorem fresh_but (k : But r H1 H2) (h : H r ≠ none) : Same (fresh H H1) (fresh H H2) := fun c u e => by
  obtain ⟨h1, h2⟩ := fresh_get e
  exact fresh_mk h1 (k _ _ h2 fun z => h (by rw [← z]; exact h1))
theorem fresh_same (s : Same H1 H2) : Same (fresh H H1) (fresh H H2) := fun _ _ e => let ⟨h1, h2⟩ := fresh_get e; fresh_mk h1 (s _ _ h2)
theorem Dom.same (s : Same H H1) : Dom H H1 := fun c e => by
  cases q : H c with
  | none => rfl
  | some u => rw [s _ _ q] at e; cases e
theorem Dom.but (k : But r H H1) (h : H1 r ≠ none) : Dom H H1 := fun c e => by
  cases q : H c with
  | none => rfl
  | some u =>
    rw [k _ _ q (fun z => h (by rw [← z]; exact e))] at e
    cases e
end
def Post {A : Type} (K : PySem.W.Frag) (a : Ad) (c : Rd) (rd : Reader A) (R : Hp → V → A → Prop) (p : Nat) (H : Hp) (Q : VK) (E : XK) : Prop :=
  match rd (c.ns.drop p) with
  | none => ∀ H', But c.r H H' → E (.ref a.C_NotWhole) none H'
  | some u => ∀ v H' p', But c.r H H' → RdAt K a H' c p' → c.ns.drop p' = u.2 → R (fresh H H') v u.1 → Q v H'
def IntR : Hp → V → Int → Prop := fun _ v z => v = .int z
section
variable {K : PySem.W.Frag} {a : Ad} {c : Rd} {p p1 : Nat} {H Hc : Hp} {Q Q' : VK} {E : XK} {A B : Type} {rA : Reader A} {rB : Reader B} {f : A → Reader B} {RA : Hp → V → A → Prop} {RB : Hp → V → B → Prop}
theorem Post.bind (h : Post K a c (bindR rA f) RB p H Q E) (bc : But c.r H Hc) (k : ∀ x v H1 p1, But c.r Hc H1 → RdAt K a H1 c p1 → RA (fresh Hc H1) v x → rA (c.ns.drop p) = some (x, c.ns.drop p1) → Post K a c (f x) RB p1 H Q E → Q' v H1) : Post K a c rA RA p Hc Q' E := by
  unfold Post bindR at h
  unfold Post
  cases e : rA (c.ns.drop p) with
  | none =>
    rw [e] at h
    exact fun H' b' => h H' (bc.trans b')
  | some u =>
    intro v H1 p1 b rd e2 rv
    refine k u.1 v H1 p1 b rd rv (by rw [e2, e]) ?_
    rw [e] at h
    unfold Post
    rw [e2]
    exact h
theorem Post.eq (h : Post K a c rA RA p H Q E) {rA' : Reader A} (e : ∀ x, rA' x = rA x) : Post K a c rA' RA p H Q E := by
  unfold Post at *
  rw [e]
  exact h
theorem Post.ret {x : A} (h : Post K a c (pureR x) RA p H Q E) {v : V} {H' : Hp} (b : But c.r H H') (rd : RdAt K a H' c p) (rv : RA (fresh H H') v x) : Q v H' := h v H' p b rd rfl rv
theorem Post.fail (h : Post K a c (failR : Reader A) RA p H Q E) {H' : Hp} (b : But c.r H H') : E (.ref a.C_NotWhole) none H' := h H' b
end
theorem readInt_bind (lo hi : Int) (x : List Int) : readInt lo hi x = bindR takeR (fun z => if lo ≤ z ∧ z ≤ hi then pureR z else failR) x := by
  cases x with
  | nil => rfl
  | cons z l =>
    rw [readInt_cons]
    show _ = (if lo ≤ z ∧ z ≤ hi then pureR z else failR) l
    split <;> rfl
section
variable {P : Program} {w : World} {K : PySem.W.Frag} {mg : Str → Option Value} {base : Heap} {a : Ad}
def sp_Reader_init (a : Ad) : Sp := fun vs H Q _ => ∃ (p dx l : Addr), vs = [.ref p, .ref l] ∧ H p = some (.ins a.C_Reader dx []) ∧ ∀ H' : Hp, H' p = some (.ins a.C_Reader dx (rdFs l 0)) → But p H H' → Q .non H'
theorem sc_Reader_init : FnScope ["self", "numbers"] ["self", "numbers"] (defScope s_Reader_init) := ⟨rfl, rfl, rfl, by decide +kernel, rfl, by decide +kernel, by decide +kernel⟩
theorem ok_Reader_init (T : Txt K mg a) : FnOk P w K mg base CX0 1 a.f_Reader_init a.d_Reader_init ["self", "numbers"] (sp_Reader_init a) := by
  refine T.F_Reader_init.ok sc_Reader_init (fun vs H Q E h => ?_) (fun cdv A outer s H vs Q E hr h => ?_)
  · obtain ⟨p, dx, l, rfl, _⟩ := h
    rfl
  · obtain ⟨p, dx, l, rfl, hp, q⟩ := h
    refine ⟨_, pss_cons (ps_fld (pv 0) (pv 1) rfl) (pss_one (ps_fld (pv 0) pe_int rfl)), ?_⟩
    refine ⟨_, rfl, _, rfl, p, _, dx, _, rfl, hp, T.cl_Reader, T.na_Reader_numbers, (by show 0 < 1000; decide), ?_⟩
    refine ⟨_, rfl, p, _, dx, _, rfl, upd_same, T.cl_Reader, T.na_Reader_place, (by show 1 < 1000; decide), ?_⟩
    rw [upd_upd]
    exact q _ upd_same fun b o e hb => by rw [upd_ne hb]; exact e
def rNewReader (a : Ad) : List V → Hp → VK → Prop := fun vs H Q => ∃ (l : Addr), vs = [.ref l] ∧ ∀ (x : Addr) (H2 : Hp), H x = none → Same H H2 → (∃ dx, H2 x = some (.ins a.C_Reader dx (rdFs l 0))) → Q (.ref x) H2
theorem pe_newReader {X : Cx} {p pos : Pos} {e : Expr} {es : List Expr} {t : TA} (T : Txt X.K X.mg a) (hr : Room 2 X.A) (ha : PA X (e :: es) t) (hg : Gl X "Reader" := by rfl)
    (he : starEach (e :: es) X.env = (false, eval e X.env) :: starEach es X.env := by rfl) (hpl : (backTo pos (starEach es X.env)).any (·.1) = false := by rfl) :
    PE X (.Call (.Name "Reader" p) (e :: es) [] pos) (tCB (rNewReader a) t) :=
  pe_new T.mk_Reader (ok_Reader_init T) hr T.mg_Reader T.b_Reader_init ha (fun vs H Q ⟨l, e1, q⟩ y dx h1 h2 h3 => by
    subst e1
    exact ⟨y, dx, l, rfl, upd_same, fun H' h4 h5 => ⟨rfl, q y H' h1 (But.made h1 h2 h5) ⟨dx, h4⟩⟩⟩) hg (by decide) he hpl
def sp_is_over (K : PySem.W.Frag) (a : Ad) : Sp := fun vs H Q _ => ∃ (c : Rd) (p : Nat), vs = [.ref c.r] ∧ RdAt K a H c p ∧ Q (.bl (decide (c.ns.length ≤ p))) H
theorem sc_is_over : FnScope ["self"] ["self"] (defScope s_Reader_is_over) := ⟨rfl, rfl, rfl, by decide +kernel, rfl, by decide +kernel, by decide +kernel⟩
theorem ok_is_over (T : Txt K mg a) : FnOk P w K mg base CX0 1 a.f_Reader_is_over a.d_Reader_is_over ["self"] (sp_is_over K a) := by
  refine T.F_Reader_is_over.ok sc_is_over (fun vs H Q E h => ?_) (fun cdv A outer s H vs Q E hr h => ?_)
  · obtain ⟨c, p, rfl, _⟩ := h
    rfl
  · obtain ⟨⟨r, l, ns⟩, p, rfl, rd, q⟩ := h
    refine ⟨_, pss_one (ps_ret (pe_cmpR op_ge (pg 0) (pe_callB call_len_seq rfl T.bl_len PySem.boot_len (pa_cons (pg 0) pa_nil)) (nomark _))), ?_⟩
    refine ⟨_, rfl, _, rd.pl T, _, rfl, _, rd.num T, l, _, rfl, .inl rd.ls, _, _, rfl, rfl, ?_⟩
    have e : decide ((((ns.map V.int).length : Nat) : Int) ≤ ((p : Nat) : Int)) = decide (ns.length ≤ p) := by
      rw [List.length_map]
      exact decide_eq_decide.mpr (by omega)
    show Q (.bl (decide ((((ns.map V.int).length : Nat) : Int) ≤ ((p : Nat) : Int)))) H
    rw [e]
    exact q
def sp_take (K : PySem.W.Frag) (a : Ad) : Sp := fun vs H Q E => ∃ (c : Rd) (p : Nat), vs = [.ref c.r] ∧ RdAt K a H c p ∧ Post K a c takeR IntR p H Q E
theorem sc_take : FnScope ["self", "number"] ["self"] (defScope s_Reader_take) := ⟨rfl, rfl, rfl, by decide +kernel, rfl, by decide +kernel, by decide +kernel⟩
theorem ok_take (T : Txt K mg a) : FnOk P w K mg base (CXN P w) 2 a.f_Reader_take a.d_Reader_take ["self"] (sp_take K a) := by
  refine T.F_Reader_take.okX sc_take (fun vs H Q E h => ?_) (fun cdv A outer s H vs Q E hr h => ?_)
  · obtain ⟨c, p, rfl, _⟩ := h
    rfl
  · obtain ⟨⟨r, l, ns⟩, p, rfl, rd, q⟩ := h
    refine ⟨_, pss_cons (ps_if (pt_val (pe_meth0 (pv 0) T.cl_Reader T.me_Reader_is_over (ok_is_over T) hr T.b_Reader_is_over .nil pass0)) (pss_one (ps_raise meets_def rfl rfl T.mg_NotWhole T.ex_NotWhole)) pss_nil)
      (pss_cons (ps_set (i := 1) sc_take.nd rfl (Or.inl rfl) (pe_ix ix_list (pg 0) (pg 0) (fun _ _ => rfl)))
      (pss_cons (ps_fldaug (pv 0) pe_int in_add)
      (pss_one (ps_ret (pv 1))))), ?_⟩
    obtain ⟨dx, h1⟩ := rd.ob
    have hl : SqL K H l (ns.map V.int) := rd.ls
    refine ⟨_, rfl, r, dx, _, rfl, h1, rfl, ⟨r, l, ns⟩, p, rfl, rd, _, rfl, ite2 (fun hc => ?_) (fun hc => ?_)⟩
    · have hc : ns.length ≤ p := of_decide_eq_true hc
      have e : ns.drop p = [] := List.drop_eq_nil_of_le hc
      unfold Post at q
      simp only [e] at q
      exact q H (But.refl H)
    · have hp : p < ns.length := by
        apply Classical.byContradiction
        intro z
        exact hc (decide_eq_true (show ns.length ≤ p by omega))
      have e : ns.drop p = ns[p] :: ns.drop (p + 1) := (List.drop_eq_getElem_cons hp)
      refine ⟨_, rfl, _, rd.num T, _, rfl, _, rd.pl T, l, _, _, .int ns[p], rfl, rfl, hl, atI_nat (by rw [List.getElem?_map, List.getElem?_eq_getElem hp]; rfl), ?_⟩
      refine ⟨_, rfl, r, _, dx, _, _, rfl, h1, T.cl_Reader, T.na_Reader_place, rfl, _, _, rfl, rfl, dx, _, h1, (by show 2 < 1000; decide), ?_⟩
      refine ⟨_, rfl, ?_⟩
      unfold Post at q
      simp only [e] at q
      exact q _ _ (p + 1) But.upd (rd.moved hp) rfl rfl
def sp_take_from (K : PySem.W.Frag) (a : Ad) : Sp := fun vs H Q E => ∃ (c : Rd) (p : Nat) (lo hi : Int), vs = [.ref c.r, .int lo, .int hi] ∧ RdAt K a H c p ∧ Post K a c (readInt lo hi) IntR p H Q E
theorem sc_take_from : FnScope ["self", "low", "high", "number"] ["self", "low", "high"] (defScope s_Reader_take_from) := ⟨rfl, rfl, rfl, by decide +kernel, rfl, by decide +kernel, by decide +kernel⟩
theorem ok_take_from (T : Txt K mg a) : FnOk P w K mg base (CXN P w) 3 a.f_Reader_take_from a.d_Reader_take_from ["self", "low", "high"] (sp_take_from K a) := by
  refine T.F_Reader_take_from.okX sc_take_from (fun vs H Q E h => ?_) (fun cdv A outer s H vs Q E hr h => ?_)
  · obtain ⟨c, p, lo, hi, rfl, _⟩ := h
    rfl
  · obtain ⟨c, p, lo, hi, rfl, rd, q⟩ := h
    refine ⟨_, pss_cons (ps_set (i := 3) sc_take_from.nd rfl (Or.inl rfl) (pe_meth0 (pv 0) T.cl_Reader T.me_Reader_take (ok_take T) hr T.b_Reader_take .nil passes_def))
      (pss_cons (ps_if (pw_or (pt_cmpR op_lt (pv 3) (pv 1) (nomark _)) (pw_or1 (pt_cmpR op_gt (pv 3) (pv 2) (nomark _)))).pt (pss_one (ps_raise meets_def rfl rfl T.mg_NotWhole T.ex_NotWhole)) pss_nil)
      (pss_one (ps_ret (pv 3)))), ?_⟩
    obtain ⟨dx, h1⟩ := rd.ob
    refine ⟨_, rfl, c.r, dx, _, rfl, h1, rfl, c, p, rfl, rd, ?_⟩
    refine (q.eq fun x => (readInt_bind lo hi x).symm).bind (RA := IntR) (But.refl _) fun z v H1 p1 b rd1 ev _ q1 => ?_
    have ev : v = .int z := ev
    subst ev
    refine ⟨_, rfl, _, rfl, _, _, rfl, rfl, _, rfl, ite2 (fun c1 => iteT ?_) (fun c1 => ⟨_, rfl, _, rfl, _, _, rfl, rfl, _, rfl, ite2 (fun c2 => ?_) (fun c2 => ?_)⟩)⟩
    · have c1 := of_decide_eq_true c1
      rw [if_neg (by omega)] at q1
      exact q1.fail b
    · have c2 := of_decide_eq_true c2
      rw [if_neg (by omega)] at q1
      exact q1.fail b
    · have c1 : ¬ z < lo := fun e => c1 (decide_eq_true e)
      have c2 : ¬ hi < z := fun e => c2 (decide_eq_true e)
      rw [if_pos (by omega)] at q1
      exact ⟨_, rfl, q1.ret b rd1 rfl⟩
def sp_take_row (K : PySem.W.Frag) (a : Ad) : Sp := fun vs H Q E => ∃ (c : Rd) (p k : Nat) (rest : List Int), vs = [.ref c.r] ∧ RdAt K a H c p ∧ c.ns.drop p = ((k : Nat) : Int) :: rest ∧ k ≤ rest.length ∧
  ∀ (l : Addr) (H' : Hp), H l = none → But c.r H H' → RdAt K a H' c (p + 1 + k) → H' l = some (.lst ((rest.take k).map V.int)) → Q (.ref l) H'
theorem sc_take_row : FnScope ["self", "size", "row"] ["self"] (defScope s_Reader_take_row) := ⟨rfl, rfl, rfl, by decide +kernel, rfl, by decide +kernel, by decide +kernel⟩
theorem cut_mid {xs : List V} {i j : Nat} (h : i ≤ xs.length) (h2 : j ≤ xs.length) : cutV xs (some ((i : Nat) : Int)) (some ((j : Nat) : Int)) = (xs.take j).drop i := by
  have e1 : HT.sIx xs.length 0 (some ((i : Nat) : Int)) = i := by
    rw [HT.sIx_nat]
    omega
  have e2 : HT.sIx xs.length xs.length (some ((j : Nat) : Int)) = j := by
    rw [HT.sIx_nat]
    omega
  unfold cutV
  rw [e1, e2, List.drop_take]
theorem ok_take_row (T : Txt K mg a) : FnOk P w K mg base (CXN P w) 3 a.f_Reader_take_row a.d_Reader_take_row ["self"] (sp_take_row K a) := by
  refine T.F_Reader_take_row.okX sc_take_row (fun vs H Q E h => ?_) (fun cdv A outer s H vs Q E hr h => ?_)
  · obtain ⟨c, p, k, rest, rfl, _⟩ := h
    rfl
  · obtain ⟨⟨r, l, ns⟩, p, k, rest, rfl, rd, hd, hk, q⟩ := h
    refine ⟨_, pss_cons (ps_set (i := 1) sc_take_row.nd rfl (Or.inl rfl) (pe_meth0 (pv 0) T.cl_Reader T.me_Reader_take (ok_take T) hr T.b_Reader_take .nil passes_def))
      (pss_cons (ps_set (i := 2) sc_take_row.nd rfl (Or.inl rfl) (pe_slice sl_list (pg 0) (po_some (pg 0)) (po_some (pe_op op_add (pg 0) (pv 1)))))
      (pss_cons (ps_fldaug (pv 0) (pv 1) in_add)
      (pss_one (ps_ret (pv 2))))), ?_⟩
    obtain ⟨dx, h1⟩ := rd.ob
    have hd : ns.drop p = ((k : Nat) : Int) :: rest := hd
    refine ⟨_, rfl, r, dx, _, rfl, h1, rfl, ⟨r, l, ns⟩, p, rfl, rd, ?_⟩
    unfold Post
    simp only [hd]
    intro v H1 p1 b rd1 e2 ev
    have ev : v = .int (k : Nat) := ev
    subst ev
    have e2 : ns.drop p1 = rest := e2
    have rle : p1 ≤ ns.length := rd1.le
    have lp : p < ns.length := by
      have := congrArg List.length hd
      rw [List.length_drop, List.length_cons] at this
      omega
    have hp1 : p1 = p + 1 := by
      have q1 := congrArg List.length e2
      have q2 := congrArg List.length hd
      rw [List.length_drop] at q1 q2
      rw [List.length_cons] at q2
      omega
    subst hp1
    obtain ⟨dx1, g1⟩ := rd1.ob
    have g1 : H1 r = some (.ins a.C_Reader dx1 (rdFs l (p + 1))) := g1
    have hl : SqL K H1 l (ns.map V.int) := rd1.ls
    have hlen : rest.length = ns.length - (p + 1) := by rw [← e2, List.length_drop]
    refine ⟨_, rfl, _, rd1.num T, _, rfl, _, rd1.pl T, _, rfl, _, rfl, _, rd1.pl T, _, rfl, _, _, rfl, rfl, _, rfl, l, _, rfl, hl, fun D hD => ?_⟩
    have hc : cutV (ns.map V.int) (some ((((p + 1 : Nat)) : Nat) : Int)) (some ((((p + 1 : Nat)) : Int) + ((k : Nat) : Int))) = (rest.take k).map V.int := by
      have e : (((p + 1 : Nat)) : Int) + ((k : Nat) : Int) = ((p + 1 + k : Nat) : Int) := by omega
      rw [e, cut_mid (by rw [List.length_map]; omega) (by rw [List.length_map]; omega), ← List.map_take, ← List.map_drop, ← e2, List.drop_take]
      congr 2
      omega
    rw [hc]
    obtain ⟨hrD, hlD⟩ := rd1.new hD
    have hrD : r ≠ D := hrD
    refine ⟨_, rfl, r, _, dx1, _, _, rfl, by rw [upd_ne hrD]; exact g1, T.cl_Reader, T.na_Reader_place, rfl, _, rfl, _, _, rfl, rfl, dx1, _, by rw [upd_ne hrD]; exact g1, (by show 2 < 1000; decide), ?_⟩
    have e3 : (((p + 1 : Nat)) : Int) + ((k : Nat) : Int) = ((p + 1 + k : Nat) : Int) := by omega
    have hDH : H D = none := by
      cases hq : H D with
      | none => rfl
      | some o =>
        have : D ≠ r := fun z => hrD z.symm
        rw [b D o hq this] at hD
        cases hD
    have rd2 := rd1.mono (Same.upd hD (o := .lst ((rest.take k).map V.int)))
    have rd3 := rd2.moved (q := p + 1 + k) (dx := dx1) (by show p + 1 + k ≤ ns.length; omega)
    refine ⟨_, rfl, ?_⟩
    show Q (.ref D) (upd (upd H1 D (.lst ((rest.take k).map V.int))) r (.ins a.C_Reader dx1 [("numbers", .ref l), ("place", .int ((((p + 1 : Nat)) : Int) + ((k : Nat) : Int)))]))
    rw [e3]
    refine q D _ hDH (fun b' o e hb => ?_) rd3 ?_
    · rw [upd_ne hb]
      exact (Same.upd hD) _ _ (b _ _ e hb)
    · rw [upd_ne (fun z => hrD z.symm)]
      exact upd_same
def sp_must_be_over (K : PySem.W.Frag) (a : Ad) : Sp := fun vs H Q E => ∃ (c : Rd) (p : Nat), vs = [.ref c.r] ∧ RdAt K a H c p ∧ (c.ns.drop p = [] → Q .non H) ∧ (c.ns.drop p ≠ [] → E (.ref a.C_NotWhole) none H)
theorem sc_must_be_over : FnScope ["self"] ["self"] (defScope s_Reader_must_be_over) := ⟨rfl, rfl, rfl, by decide +kernel, rfl, by decide +kernel, by decide +kernel⟩
theorem ok_must_be_over (T : Txt K mg a) : FnOk P w K mg base (CXN P w) 2 a.f_Reader_must_be_over a.d_Reader_must_be_over ["self"] (sp_must_be_over K a) := by
  refine T.F_Reader_must_be_over.okX sc_must_be_over (fun vs H Q E h => ?_) (fun cdv A outer s H vs Q E hr h => ?_)
  · obtain ⟨c, p, rfl, _⟩ := h
    rfl
  · obtain ⟨⟨r, l, ns⟩, p, rfl, rd, q1, q2⟩ := h
    refine ⟨_, pss_one (ps_if (pt_not (pt_val (pe_meth0 (pv 0) T.cl_Reader T.me_Reader_is_over (ok_is_over T) hr T.b_Reader_is_over .nil pass0))) (pss_one (ps_raise meets_def rfl rfl T.mg_NotWhole T.ex_NotWhole)) pss_nil), ?_⟩
    obtain ⟨dx, h1⟩ := rd.ob
    refine ⟨_, rfl, r, dx, _, rfl, h1, rfl, ⟨r, l, ns⟩, p, rfl, rd, _, rfl, ?_⟩
    show if (!decide (ns.length ≤ p)) = true then _ else _
    by_cases hp : ns.length ≤ p
    · rw [decide_eq_true hp]
      exact iteF (q1 (List.drop_eq_nil_of_le hp))
    · rw [decide_eq_false hp]
      exact iteT (q2 (fun e => hp (List.drop_eq_nil_iff.mp e)))
end
end Lc
end
section
set_option Elab.async false
set_option linter.all false
set_option maxRecDepth 100000
set_option maxHeartbeats 1000000
namespace Lc
open PySem PySem.Spec PyProof.Rows L2
open VaaclBase (Reader readInt readTimes Test Branch Loop)
def rNewFactN (a : Ad) : List V → Hp → VK → Prop := fun vs H Q => ∃ (l : Addr) (k d c : Int), vs = [.ref l, .int k, .int d, .int c] ∧ ∀ (x : Addr) (H2 : Hp), H x = none → Same H H2 → (∃ dx, H2 x = some (.ins a.C_Fact dx (factFs l k d c))) → Q (.ref x) H2
def rNewGivenN (a : Ad) : List V → Hp → VK → Prop := fun vs H Q => ∃ (v : V) (z : Int), vs = [v, .int z] ∧ ∀ (x : Addr) (H2 : Hp), H x = none → Same H H2 → (∃ dx, H2 x = some (.ins a.C_Given dx (givenFs v z))) → Q (.ref x) H2
def rNewBranchN (a : Ad) : List V → Hp → VK → Prop := fun vs H Q => ∃ (lt lm : Addr), vs = [.ref lt, .ref lm] ∧ ∀ (x : Addr) (H2 : Hp), H x = none → Same H H2 → (∃ dx, H2 x = some (.ins a.C_Branch dx (branchFs lt lm))) → Q (.ref x) H2
section
variable {X : Cx} {a : Ad} {p pos : Pos} {e : Expr} {es : List Expr} {t : TA}
theorem pe_newFactN (T : Txt X.K X.mg a) (hr : Room 2 X.A) (ha : PA X (e :: es) t) (hg : Gl X "Fact" := by rfl)
    (he : starEach (e :: es) X.env = (false, eval e X.env) :: starEach es X.env := by rfl) (hpl : (backTo pos (starEach es X.env)).any (·.1) = false := by rfl) :
    PE X (.Call (.Name "Fact" p) (e :: es) [] pos) (tCB (rNewFactN a) t) :=
  pe_new T.mk_Fact (ok_Fact_init T) hr T.mg_Fact T.b_Fact_init ha (fun vs H Q ⟨l, k, d, c, e1, q⟩ y dx h1 h2 h3 => by
    subst e1
    exact ⟨y, dx, l, k, d, c, rfl, upd_same, fun H' h4 h5 => ⟨rfl, q y H' h1 (But.made h1 h2 h5) ⟨dx, h4⟩⟩⟩) hg (by decide) he hpl
theorem pe_newGivenN (T : Txt X.K X.mg a) (hr : Room 2 X.A) (ha : PA X (e :: es) t) (hg : Gl X "Given" := by rfl)
    (he : starEach (e :: es) X.env = (false, eval e X.env) :: starEach es X.env := by rfl) (hpl : (backTo pos (starEach es X.env)).any (·.1) = false := by rfl) :
    PE X (.Call (.Name "Given" p) (e :: es) [] pos) (tCB (rNewGivenN a) t) :=
  pe_new T.mk_Given (ok_Given_init T) hr T.mg_Given T.b_Given_init ha (fun vs H Q ⟨v, z, e1, q⟩ y dx h1 h2 h3 => by
    subst e1
    exact ⟨y, dx, v, z, rfl, upd_same, fun H' h4 h5 => ⟨rfl, q y H' h1 (But.made h1 h2 h5) ⟨dx, h4⟩⟩⟩) hg (by decide) he hpl
theorem pe_newBranchN (T : Txt X.K X.mg a) (hr : Room 2 X.A) (ha : PA X (e :: es) t) (hg : Gl X "Branch" := by rfl)
    (he : starEach (e :: es) X.env = (false, eval e X.env) :: starEach es X.env := by rfl) (hpl : (backTo pos (starEach es X.env)).any (·.1) = false := by rfl) :
    PE X (.Call (.Name "Branch" p) (e :: es) [] pos) (tCB (rNewBranchN a) t) :=
  pe_new T.mk_Branch (ok_Branch_init T) hr T.mg_Branch T.b_Branch_init ha (fun vs H Q ⟨lt, lm, e1, q⟩ y dx h1 h2 h3 => by
    subst e1
    exact ⟨y, dx, lt, lm, rfl, upd_same, fun H' h4 h5 => ⟨rfl, q y H' h1 (But.made h1 h2 h5) ⟨dx, h4⟩⟩⟩) hg (by decide) he hpl
end
def FactR (a : Ad) : Hp → V → F → Prop := fun C v f => ∃ x, v = .ref x ∧ FactAt a C x f
def TestR (a : Ad) (n : Nat) : Hp → V → Test → Prop := fun C v t => FactR a C v (mF (Vaaclf.ofTest n t))
def FaR (a : Ad) : Hp → V → Vaaclf.Fact → Prop := fun C v t => FactR a C v (mF t)
def GivR (a : Ad) : Hp → V → VaaclBase.Given → Prop := fun C v g => ∃ x, v = .ref x ∧ GivenAt a C x g
def BrR (a : Ad) (n : Nat) : Hp → V → Branch → Prop := fun C v b => ∃ x, v = .ref x ∧ BranchAt a n C x b
def RemR (a : Ad) (l : Addr) : Hp → V → Int × Int → Prop := fun C v q => ∃ x dx, v = .ref x ∧ C x = some (.ins a.C_Fact dx (factFs l 2 q.1 q.2))
section
variable {a : Ad} {n : Nat} {l : Addr}
theorem moFact : Mo (FactR a) := fun _ _ _ _ s ⟨x, e, h⟩ => ⟨x, e, h.mono s⟩
theorem moTest : Mo (TestR a n) := fun _ _ _ _ s h => moFact _ _ _ _ s h
theorem moFa : Mo (FaR a) := fun _ _ _ _ s h => moFact _ _ _ _ s h
theorem moGiv : Mo (GivR a) := fun _ _ _ _ s ⟨x, e, h⟩ => ⟨x, e, h.mono s⟩
theorem moBr : Mo (BrR a n) := fun _ _ _ _ s ⟨x, e, h⟩ => ⟨x, e, h.mono s⟩
end
section
variable {P : Program} {w : World} {K : PySem.W.Frag} {mg : Str → Option Value} {base : Heap} {a : Ad}
def sp_read_number (K : PySem.W.Frag) (a : Ad) : Sp := fun vs H Q E => ∃ (c : Rd) (p : Nat), vs = [.ref c.r] ∧ RdAt K a H c p ∧ Post K a c numR IntR p H Q E
theorem sc_read_number : FnScope ["reader"] ["reader"] (defScope s_read_number) := ⟨rfl, rfl, rfl, by decide +kernel, rfl, by decide +kernel, by decide +kernel⟩
theorem ok_read_number (T : Txt K mg a) : FnOk P w K mg base (CXN P w) 4 a.f_read_number a.d_read_number ["reader"] (sp_read_number K a) := by
  refine T.F_read_number.okX sc_read_number (fun vs H Q E h => ?_) (fun cdv A outer s H vs Q E hr h => ?_)
  · obtain ⟨c, p, rfl, _⟩ := h
    rfl
  · obtain ⟨c, p, rfl, rd, q⟩ := h
    refine ⟨_, pss_one (ps_ret (pe_meth (pv 0) T.cl_Reader T.me_Reader_take_from (ok_take_from T) hr T.b_Reader_take_from .nil passes_def (pa_cons (pe_un un_neg (pe_cst T.c_MOST_NUMBER)) (pa_cons (pe_cst T.c_MOST_NUMBER) pa_nil)))), ?_⟩
    obtain ⟨dx, h1⟩ := rd.ob
    exact ⟨_, rfl, c.r, dx, _, rfl, h1, rfl, _, rfl, c, p, _, _, rfl, rd, q⟩
theorem inDiv (d : Int) : inV (.int d) [.int 2, .int 3, .int 4, .int 6] = decide (d = 2 ∨ d = 3 ∨ d = 4 ∨ d = 6) := by
  have e : ∀ z : Int, (eqV (.int z) (.int d) = true) ↔ d = z := fun z => by
    unfold eqV
    simp
    exact eq_comm
  unfold inV
  rw [Bool.eq_iff_iff, decide_eq_true_iff]
  simp [e]
def sp_read_remainder (K : PySem.W.Frag) (a : Ad) : Sp := fun vs H Q E => ∃ (c : Rd) (l : Addr) (p : Nat), vs = [.ref c.r, .ref l] ∧ RdAt K a H c p ∧ Post K a c remR (RemR a l) p H Q E
theorem sc_read_remainder : FnScope ["reader", "times", "divisor"] ["reader", "times"] (defScope s_read_remainder) := ⟨rfl, rfl, rfl, by decide +kernel, rfl, by decide +kernel, by decide +kernel⟩
theorem ok_read_remainder (T : Txt K mg a) : FnOk P w K mg base (CXN P w) 4 a.f_read_remainder a.d_read_remainder ["reader", "times"] (sp_read_remainder K a) := by
  refine T.F_read_remainder.okX sc_read_remainder (fun vs H Q E h => ?_) (fun cdv A outer s H vs Q E hr h => ?_)
  · obtain ⟨c, l, p, rfl, _⟩ := h
    rfl
  · obtain ⟨c, l, p, rfl, rd, q⟩ := h
    have hr2 : Room 2 _ := hr.mono (by decide)
    refine ⟨_, pss_cons (ps_set (i := 2) sc_read_remainder.nd rfl (Or.inl rfl) (pe_meth0 (pv 0) T.cl_Reader T.me_Reader_take (ok_take T) hr2 T.b_Reader_take .nil passes_def))
      (pss_cons (ps_if (pt_cmpR op_notIn_seq (pv 2) (pe_cst T.c_DIVISORS) (by rfl)) (pss_one (ps_raise meets_def rfl rfl T.mg_NotWhole T.ex_NotWhole)) pss_nil)
      (pss_one (ps_ret (pe_newFactN T hr2 (pa_cons (pv 1) (pa_cons (pe_cst T.c_REMAINDER) (pa_cons (pv 2) (pa_cons (pe_meth (pv 0) T.cl_Reader T.me_Reader_take_from (ok_take_from T) hr T.b_Reader_take_from .nil passes_def (pa_cons pe_int (pa_cons (pe_op op_sub (pv 2) pe_int) pa_nil))) pa_nil)))))))), ?_⟩
    obtain ⟨dx, h1⟩ := rd.ob
    refine ⟨_, rfl, c.r, dx, _, rfl, h1, rfl, c, p, rfl, rd, ?_⟩
    refine q.bind (RA := IntR) (But.refl _) fun d v H1 p1 b rd1 ev _ q1 => ?_
    have ev : v = .int d := ev
    subst ev
    refine ⟨_, rfl, a.t_DIVISORS, _, rfl, .inr (T.q_DIVISORS H1), rfl, rfl, _, rfl, ?_⟩
    rw [if_pos rfl, inDiv]
    by_cases hd : d = 2 ∨ d = 3 ∨ d = 4 ∨ d = 6
    · rw [decide_eq_true hd]
      rw [if_pos hd] at q1
      refine iteF ?_
      obtain ⟨dx1, g1⟩ := rd1.ob
      refine ⟨_, rfl, _, rfl, _, rfl, c.r, dx1, _, rfl, g1, rfl, _, rfl, _, _, rfl, rfl, c, p1, 0, d - 1, rfl, rd1, ?_⟩
      refine q1.bind (RA := IntR) b fun z v H2 p2 b2 rd2 ev _ q2 => ?_
      have ev : v = .int z := ev
      subst ev
      refine ⟨l, 2, d, z, rfl, fun x H3 hx s3 ⟨dx3, e3⟩ => ?_⟩
      have b3 := b.trans b2
      exact q2.ret (b3.trans (But.of s3)) (rd2.mono s3) ⟨x, dx3, rfl, fresh_mk (Dom.but b3 rd2.some _ hx) e3⟩
    · rw [decide_eq_false hd]
      rw [if_neg hd] at q1
      exact iteT (q1.fail b)
def sp_read_test (K : PySem.W.Frag) (a : Ad) : Sp := fun vs H Q E => ∃ (c : Rd) (p n : Nat), vs = [.ref c.r, .int (n : Nat)] ∧ RdAt K a H c p ∧ n ≤ 4 ∧ Post K a c (testR n) (TestR a n) p H Q E
theorem sc_read_test : FnScope ["reader", "counters", "kind", "counter", "times", "other"] ["reader", "counters"] (defScope s_read_test) := ⟨rfl, rfl, rfl, by decide +kernel, rfl, by decide +kernel, by decide +kernel⟩
theorem ok_read_test (T : Txt K mg a) : FnOk P w K mg base (CXN P w) 5 a.f_read_test a.d_read_test ["reader", "counters"] (sp_read_test K a) := by
  refine T.F_read_test.okX sc_read_test (fun vs H Q E h => ?_) (fun cdv A outer s H vs Q E hr h => ?_)
  · obtain ⟨c, p, n, rfl, _⟩ := h
    rfl
  · obtain ⟨c, p, n, rfl, rd, n4, q⟩ := h
    have hr2 : Room 2 _ := hr.mono (by decide)
    have hr3 : Room 3 _ := hr.mono (by decide)
    refine ⟨_, pss_cons (ps_set (i := 2) sc_read_test.nd rfl (Or.inl rfl) (pe_meth (pv 0) T.cl_Reader T.me_Reader_take_from (ok_take_from T) hr3 T.b_Reader_take_from .nil passes_def (pa_cons pe_int (pa_cons (pe_cst T.c_TEST_REMAINDER) pa_nil))))
      (pss_cons (ps_set (i := 3) sc_read_test.nd rfl (Or.inl rfl) (pe_meth (pv 0) T.cl_Reader T.me_Reader_take_from (ok_take_from T) hr3 T.b_Reader_take_from .nil passes_def (pa_cons pe_int (pa_cons (pe_op op_sub (pv 1) pe_int) pa_nil))))
      (pss_cons (ps_set (i := 4) sc_read_test.nd rfl (Or.inl rfl) (pe_op op_rep (pe_lst (pa_cons pe_int pa_nil)) (pv 1)))
      (pss_cons (ps_if (pt_cmpR op_eq (pv 2) (pe_cst T.c_TEST_AT_LEAST) (nomark _))
        (pss_cons (ps_asg (pe_un un_neg pe_int) (pg_sub (pv 4) (pv 3) set_list))
          (pss_one (ps_ret (pe_newFactN T hr2 (pa_cons (pv 4) (pa_cons (pe_cst T.c_AT_MOST) (pa_cons pe_int (pa_cons (pe_un un_neg (pe_call (ok_read_number T) hr rfl T.g_read_number T.F_read_number.kp T.b_read_number .nil passes_def (pa_cons (pv 0) pa_nil))) pa_nil)))))))) pss_nil)
      (pss_cons (ps_asg pe_int (pg_sub (pv 4) (pv 3) set_list))
      (pss_cons (ps_if (pt_cmpR op_eq (pv 2) (pe_cst T.c_TEST_REMAINDER) (nomark _)) (pss_one (ps_ret (pe_call (ok_read_remainder T) hr rfl T.g_read_remainder T.F_read_remainder.kp T.b_read_remainder .nil passes_def (pa_cons (pv 0) (pa_cons (pv 4) pa_nil))))) pss_nil)
      (pss_cons (ps_if (pt_cmpR op_eq (pv 2) (pe_cst T.c_TEST_BELOW) (nomark _))
        (pss_cons (ps_set (i := 5) sc_read_test.nd rfl (Or.inl rfl) (pe_meth (pv 0) T.cl_Reader T.me_Reader_take_from (ok_take_from T) hr3 T.b_Reader_take_from .nil passes_def (pa_cons pe_int (pa_cons (pe_op op_sub (pv 1) pe_int) pa_nil))))
          (pss_one (ps_augS (pv 4) (pv 5) get_list pe_int ip_sub set_list))) pss_nil)
      (pss_one (ps_ret (pe_newFactN T hr2 (pa_cons (pv 4) (pa_cons (pe_cst T.c_AT_MOST) (pa_cons pe_int (pa_cons (pe_call (ok_read_number T) hr rfl T.g_read_number T.F_read_number.kp T.b_read_number .nil passes_def (pa_cons (pv 0) pa_nil)) pa_nil))))))))))))), ?_⟩
    obtain ⟨dx, h1⟩ := rd.ob
    refine ⟨_, rfl, c.r, dx, _, rfl, h1, rfl, c, p, 0, 3, rfl, rd, ?_⟩
    refine q.bind (RA := IntR) (But.refl _) fun k v H1 p1 b1 rd1 ev hk q1 => ?_
    have ev : v = .int k := ev
    subst ev
    obtain ⟨dx1, g1⟩ := rd1.ob
    refine ⟨_, rfl, c.r, dx1, _, rfl, g1, rfl, _, rfl, _, _, rfl, rfl, c, p1, 0, (n : Int) - 1, rfl, rd1, ?_⟩
    refine q1.bind (RA := IntR) b1 fun z v H2 p2 b2 rd2 ev hc q2 => ?_
    have ev : v = .int z := ev
    subst ev
    obtain ⟨_, c0, cn⟩ := readInt_some hc
    have c0 : 0 ≤ z := c0
    have cn : z ≤ (n : Int) - 1 := cn
    obtain ⟨j, rfl⟩ : ∃ j : Nat, z = (j : Nat) := ⟨z.toNat, by omega⟩
    have hj : j < n := by omega
    have ej : ((j : Nat) : Int).toNat = j := by omega
    rw [ej] at q2
    have b12 := b1.trans b2
    have dom2 := Dom.but b12 rd2.some
    refine ⟨(by show 1 ≤ sizeLine; decide), fun l0 n0 => ?_⟩
    refine ⟨_, rfl, l0, _, _, rfl, rfl, upd_same, by omega, by omega, by rw [sizeLine_eq]; show 1 * _ ≤ _; omega, fun D hD => ?_⟩
    have s0 : Same H2 (upd (upd H2 l0 (.lst [.int 0])) D (.lst (List.replicate ((n : Nat) : Int).toNat [V.int 0]).flatten)) := (Same.upd n0).trans (Same.upd hD)
    have hD3 : (upd (upd H2 l0 (.lst [.int 0])) D (.lst (List.replicate ((n : Nat) : Int).toNat [V.int 0]).flatten)) D = some (.lst ((List.replicate n (0 : Int)).map V.int)) := by
      rw [upd_same, rep_zero]
      rfl
    have hD2 : H2 D = none := (Same.upd n0).free hD
    generalize upd (upd H2 l0 (.lst [.int 0])) D (.lst (List.replicate ((n : Nat) : Int).toNat [V.int 0]).flatten) = H3 at s0 hD3 ⊢
    have hDG : H D = none := dom2 D hD2
    obtain ⟨rD, lD⟩ := rd2.new hD2
    have ln : ((List.replicate n (0 : Int)).map V.int).length = n := by rw [List.length_map, List.length_replicate]
    have fin : ∀ {f : F} {x dx : Addr} {Hx : Hp}, H x = none → Hx x = some (.ins a.C_Fact dx (factFs D f.k f.d f.c)) → Hx D = some (.lst (f.ts.map V.int)) → FactR a (fresh H Hx) (.ref x) f := fun {f x dx Hx} e1 e2 e3 => ⟨x, rfl, dx, D, fresh_mk e1 e2, fresh_mk hDG e3⟩
    have step : ∀ v : Int, But c.r H (upd H3 D (.lst (((List.replicate n (0 : Int)).map V.int).set j (.int v)))) ∧ RdAt K a (upd H3 D (.lst (((List.replicate n (0 : Int)).map V.int).set j (.int v)))) c p2 ∧
        (upd H3 D (.lst (((List.replicate n (0 : Int)).map V.int).set j (.int v)))) D = some (.lst ((Vaaclf.unit_ n j v).map V.int)) := fun v => by
      refine ⟨?_, (rd2.mono s0).put rD lD, ?_⟩
      · exact fun b o e hb => by rw [upd_ne (ne_of_none e hDG)]; exact s0 _ _ (b12 _ _ e hb)
      · rw [upd_same, unit_set, List.map_set]
    refine ⟨_, rfl, rfl, _, rfl, ite2 (fun k1 => ?_) (fun k1 => ?_)⟩
    · have k1 := decI.mp k1
      rw [if_pos k1] at q2
      refine ⟨_, rfl, _, rfl, _, rfl, D, _, _, j, rfl, rfl, hD3, ixN_nat (by rw [ln]; exact hj), ?_⟩
      obtain ⟨b4, rd4, hD4⟩ := step (-1)
      generalize upd H3 D (.lst (((List.replicate n (0 : Int)).map V.int).set j (.int (-1)))) = H4 at b4 rd4 hD4 ⊢
      refine ⟨_, rfl, _, rfl, c, p2, rfl, rd4, ?_⟩
      refine q2.bind (RA := IntR) b4 fun z v H5 p5 b5 rd5 ev _ q5 => ?_
      have ev : v = .int z := ev
      subst ev
      refine ⟨_, rfl, D, _, _, _, rfl, fun x H6 hx s6 ⟨dx6, e6⟩ => ?_⟩
      have b45 := b4.trans b5
      refine q5.ret (b45.trans (But.of s6)) (rd5.mono s6) (fin (f := mF (Vaaclf.ofTest n (.atLeast j z))) (dx := dx6) (Dom.but b45 rd5.some _ hx) ?_ (s6 _ _ (b5 _ _ hD4 (fun e => rD e.symm))))
      show _ = some (HO.ins a.C_Fact dx6 (factFs D 0 0 (0 - z)))
      rw [Int.zero_sub]
      exact e6
    · have k1 : ¬ k = 1 := fun e => k1 (decI.mpr e)
      rw [if_neg k1] at q2
      refine ⟨_, rfl, _, rfl, D, _, _, j, rfl, rfl, hD3, ixN_nat (by rw [ln]; exact hj), ?_⟩
      obtain ⟨b4, rd4, hD4⟩ := step 1
      generalize upd H3 D (.lst (((List.replicate n (0 : Int)).map V.int).set j (.int 1))) = H4 at b4 rd4 hD4 ⊢
      have dom4 := Dom.but b4 rd4.some
      refine ⟨_, rfl, rfl, _, rfl, ite2 (fun k3 => ?_) (fun k3 => ?_)⟩
      · have k3 := decI.mp k3
        rw [if_pos k3] at q2
        refine ⟨_, rfl, _, rfl, c, D, p2, rfl, rd4, ?_⟩
        refine q2.bind (RA := RemR a D) b4 fun qq v H5 p5 b5 rd5 ev hq q5 => ?_
        obtain ⟨x, dx5, rfl, ex⟩ := ev
        obtain ⟨x4, x5⟩ := fresh_get ex
        have ok := remR_ok _ _ hq
        have o1 : 0 < qq.1 := ok.1
        have o2 : 0 ≤ qq.2 := ok.2.1
        refine q5.ret (b4.trans b5) rd5 (fin (f := mF (Vaaclf.ofTest n (.rem j qq.1.toNat qq.2.toNat))) (dx := dx5) (dom4 _ x4) ?_ (b5 _ _ hD4 (fun e => rD e.symm)))
        show _ = some (HO.ins a.C_Fact dx5 (factFs D 2 ((qq.1.toNat : Nat) : Int) ((qq.2.toNat : Nat) : Int)))
        rw [Int.toNat_of_nonneg (Int.le_of_lt o1), Int.toNat_of_nonneg o2]
        exact x5
      · have k3 : ¬ k = 3 := fun e => k3 (decI.mpr e)
        rw [if_neg k3] at q2
        refine ⟨_, rfl, rfl, _, rfl, ite2 (fun k2 => ?_) (fun k2 => ?_)⟩
        · have k2 := decI.mp k2
          rw [if_pos k2] at q2
          obtain ⟨dx4, g4⟩ := rd4.ob
          refine ⟨_, rfl, c.r, dx4, _, rfl, g4, rfl, _, rfl, _, _, rfl, rfl, c, p2, 0, (n : Int) - 1, rfl, rd4, ?_⟩
          refine q2.bind (RA := IntR) b4 fun o v H5 p5 b5 rd5 ev ho q5 => ?_
          have ev : v = .int o := ev
          subst ev
          obtain ⟨_, o0, on⟩ := readInt_some ho
          have o0 : 0 ≤ o := o0
          have on : o ≤ (n : Int) - 1 := on
          obtain ⟨i, rfl⟩ : ∃ i : Nat, o = (i : Nat) := ⟨o.toNat, by omega⟩
          have hi : i < n := by omega
          have ei : ((i : Nat) : Int).toNat = i := by omega
          rw [ei] at q5
          have hD5 := b5 _ _ hD4 (fun e => rD e.symm)
          have lu : (Vaaclf.unit_ n j 1).length = n := unit_length n j 1
          refine ⟨_, rfl, _, rfl, D, _, i, .int ((Vaaclf.unit_ n j 1).getD i 0), rfl, rfl, SqL.of hD5, ?_, _, _, rfl, rfl, D, _, _, i, rfl, rfl, hD5, ixN_nat (by rw [List.length_map, lu]; exact hi), ?_⟩
          · rw [List.getElem?_map, List.getD_eq_getElem?_getD, List.getElem?_eq_getElem (by omega)]
            rfl
          have e6 : (upd H5 D (.lst (((Vaaclf.unit_ n j 1).map V.int).set i (.int ((Vaaclf.unit_ n j 1).getD i 0 - 1))))) D = some (.lst ((Vaaclf.plus (Vaaclf.unit_ n j 1) (Vaaclf.unit_ n i (-1))).map V.int)) := by
            rw [upd_same, below_set n j i hj hi, List.map_set]
          have b6 : But c.r H (upd H5 D (.lst (((Vaaclf.unit_ n j 1).map V.int).set i (.int ((Vaaclf.unit_ n j 1).getD i 0 - 1))))) := fun b o e hb => by rw [upd_ne (ne_of_none e hDG)]; exact b5 _ _ (b4 _ _ e hb) hb
          have rd6 : RdAt K a (upd H5 D (.lst (((Vaaclf.unit_ n j 1).map V.int).set i (.int ((Vaaclf.unit_ n j 1).getD i 0 - 1))))) c p5 := rd5.put rD lD
          generalize upd H5 D (.lst (((Vaaclf.unit_ n j 1).map V.int).set i (.int ((Vaaclf.unit_ n j 1).getD i 0 - 1)))) = H6 at e6 b6 rd6 ⊢
          refine ⟨_, rfl, _, rfl, c, p5, rfl, rd6, ?_⟩
          refine q5.bind (RA := IntR) b6 fun z v H7 p7 b7 rd7 ev _ q7 => ?_
          have ev : v = .int z := ev
          subst ev
          refine ⟨D, _, _, _, rfl, fun x H8 hx s8 ⟨dx8, e8⟩ => ?_⟩
          have b67 := b6.trans b7
          exact q7.ret (b67.trans (But.of s8)) (rd7.mono s8) (fin (f := mF (Vaaclf.ofTest n (.below j i z))) (dx := dx8) (Dom.but b67 rd7.some _ hx) e8 (s8 _ _ (b7 _ _ e6 (fun e => rD e.symm))))
        · have k2 : ¬ k = 2 := fun e => k2 (decI.mpr e)
          rw [if_neg k2] at q2
          refine ⟨_, rfl, _, rfl, c, p2, rfl, rd4, ?_⟩
          refine q2.bind (RA := IntR) b4 fun z v H5 p5 b5 rd5 ev _ q5 => ?_
          have ev : v = .int z := ev
          subst ev
          refine ⟨D, _, _, _, rfl, fun x H6 hx s6 ⟨dx6, e6⟩ => ?_⟩
          have b45 := b4.trans b5
          exact q5.ret (b45.trans (But.of s6)) (rd5.mono s6) (fin (f := mF (Vaaclf.ofTest n (.atMost j z))) (dx := dx6) (Dom.but b45 rd5.some _ hx) e6 (s6 _ _ (b5 _ _ hD4 (fun e => rD e.symm))))
def sp_read_given (K : PySem.W.Frag) (a : Ad) : Sp := fun vs H Q E => ∃ (c : Rd) (p n : Nat), vs = [.ref c.r, .int (n : Nat)] ∧ RdAt K a H c p ∧ Post K a c (givenR n) (GivR a) p H Q E
theorem sc_read_given : FnScope ["reader", "counters", "source"] ["reader", "counters"] (defScope s_read_given) := ⟨rfl, rfl, rfl, by decide +kernel, rfl, by decide +kernel, by decide +kernel⟩
theorem ok_read_given (T : Txt K mg a) : FnOk P w K mg base (CXN P w) 4 a.f_read_given a.d_read_given ["reader", "counters"] (sp_read_given K a) := by
  refine T.F_read_given.okX sc_read_given (fun vs H Q E h => ?_) (fun cdv A outer s H vs Q E hr h => ?_)
  · obtain ⟨c, p, n, rfl, _⟩ := h
    rfl
  · obtain ⟨c, p, n, rfl, rd, q⟩ := h
    have hr2 : Room 2 _ := hr.mono (by decide)
    refine ⟨_, pss_cons (ps_set (i := 2) sc_read_given.nd rfl (Or.inl rfl) pe_non)
      (pss_cons (ps_if (pt_cmpR op_eq (pe_meth (pv 0) T.cl_Reader T.me_Reader_take_from (ok_take_from T) hr T.b_Reader_take_from .nil passes_def (pa_cons pe_int (pa_cons pe_int pa_nil))) pe_int (nomark _))
        (pss_one (ps_set (i := 2) sc_read_given.nd rfl (Or.inl rfl) (pe_meth (pv 0) T.cl_Reader T.me_Reader_take_from (ok_take_from T) hr T.b_Reader_take_from .nil passes_def (pa_cons pe_int (pa_cons (pe_op op_sub (pv 1) pe_int) pa_nil))))) pss_nil)
      (pss_one (ps_ret (pe_newGivenN T hr2 (pa_cons (pv 2) (pa_cons (pe_meth (pv 0) T.cl_Reader T.me_Reader_take_from (ok_take_from T) hr T.b_Reader_take_from .nil passes_def (pa_cons (pe_un un_neg (pe_cst T.c_MOST_ADDED)) (pa_cons (pe_cst T.c_MOST_ADDED) pa_nil))) pa_nil)))))), ?_⟩
    obtain ⟨dx, h1⟩ := rd.ob
    refine ⟨_, rfl, c.r, dx, _, rfl, h1, rfl, c, p, 0, 1, rfl, rd, ?_⟩
    refine q.bind (RA := IntR) (But.refl _) fun k v H1 p1 b1 rd1 ev hk q1 => ?_
    have ev : v = .int k := ev
    subst ev
    obtain ⟨dx1, g1⟩ := rd1.ob
    refine ⟨rfl, _, rfl, ite2 (fun k1 => ?_) (fun k1 => ?_)⟩
    · have k1 := decI.mp k1
      rw [if_pos k1] at q1
      refine ⟨_, rfl, c.r, dx1, _, rfl, g1, rfl, _, rfl, _, _, rfl, rfl, c, p1, 0, (n : Int) - 1, rfl, rd1, ?_⟩
      refine q1.bind (RA := IntR) b1 fun z v H2 p2 b2 rd2 ev hc q2 => ?_
      have ev : v = .int z := ev
      subst ev
      obtain ⟨_, c0, cn⟩ := readInt_some hc
      have c0 : 0 ≤ z := c0
      obtain ⟨j, rfl⟩ : ∃ j : Nat, z = (j : Nat) := ⟨z.toNat, by omega⟩
      have ej : ((j : Nat) : Int).toNat = j := by omega
      rw [ej] at q2
      obtain ⟨dx2, g2⟩ := rd2.ob
      have b12 := b1.trans b2
      refine ⟨_, rfl, _, rfl, c.r, dx2, _, rfl, g2, rfl, _, rfl, c, p2, _, _, rfl, rd2, ?_⟩
      refine q2.bind (RA := IntR) b12 fun y v H3 p3 b3 rd3 ev _ q3 => ?_
      have ev : v = .int y := ev
      subst ev
      have b13 := b12.trans b3
      exact ⟨_, y, rfl, fun x H4 hx s4 ⟨dx4, e4⟩ => q3.ret (b13.trans (But.of s4)) (rd3.mono s4) ⟨x, rfl, dx4, fresh_mk (Dom.but b13 rd3.some _ hx) e4⟩⟩
    · have k1 : ¬ k = 1 := fun e => k1 (decI.mpr e)
      rw [if_neg k1] at q1
      refine ⟨_, rfl, _, rfl, c.r, dx1, _, rfl, g1, rfl, _, rfl, c, p1, _, _, rfl, rd1, ?_⟩
      refine q1.bind (RA := IntR) b1 fun y v H3 p3 b3 rd3 ev _ q3 => ?_
      have ev : v = .int y := ev
      subst ev
      have b13 := b1.trans b3
      exact ⟨_, y, rfl, fun x H4 hx s4 ⟨dx4, e4⟩ => q3.ret (b13.trans (But.of s4)) (rd3.mono s4) ⟨x, rfl, dx4, fresh_mk (Dom.but b13 rd3.some _ hx) e4⟩⟩
end
end Lc
end
section
set_option Elab.async false
set_option linter.all false
set_option maxRecDepth 100000
set_option maxHeartbeats 1000000
namespace Lc
open PySem PySem.Spec PyProof.Rows L2
open VaaclBase (Reader readInt readTimes Test Branch Loop)
section
variable {K : PySem.W.Frag} {a : Ad} {c : Rd} {p p1 : Nat} {H Hc : Hp} {Q Q' : VK} {E : XK} {A B : Type} {rA : Reader A} {f : A → Reader B} {RA : Hp → V → A → Prop} {RB : Hp → V → B → Prop}
theorem Post.cont {x : A} (q : Post K a c (bindR rA f) RB p H Q E) (e : rA (c.ns.drop p) = some (x, c.ns.drop p1)) : Post K a c (f x) RB p1 H Q E := by
  unfold Post bindR at q
  rw [e] at q
  exact q
theorem Post.stop (q : Post K a c (bindR rA f) RB p H Q E) (e : rA (c.ns.drop p) = none) : ∀ H', But c.r H H' → E (.ref a.C_NotWhole) none H' := by
  unfold Post bindR at q
  rw [e] at q
  exact q
structure LcI (K : PySem.W.Frag) (a : Ad) (c : Rd) (rA : Reader A) (RA : Hp → V → A → Prop) (p : Nat) (H1 : Hp) (D : Addr) (i : Nat) (H' : Hp) : Prop where
  ex : ∃ p' vs xs, RdAt K a H' c p' ∧ readTimes rA i (c.ns.drop p) = some (xs, c.ns.drop p') ∧ H' D = some (.lst vs) ∧ vs.length = i ∧ But c.r H1 H' ∧ All2 (RA (hid D (fresh H1 H'))) vs xs
theorem LcI.zero {H1 : Hp} {D : Addr} (rd : RdAt K a H1 c p) (hD : H1 D = none) : LcI K a c rA RA p H1 D 0 (upd H1 D (.lst [])) :=
  ⟨p, [], [], rd.mono (Same.upd hD), rfl, upd_same, rfl, But.of (Same.upd hD), All2.nil⟩
theorem LcI.step {H1 H' : Hp} {D : Addr} {i k : Nat} (L : LcI K a c rA RA p H1 D i H') (mo : Mo RA) (rd : RdAt K a H1 c p) (hD : H1 D = none) (hi : i < k) (hk : k ≤ 1000) (hf : readTimes rA k (c.ns.drop p) = none → ∀ H2, But c.r H1 H2 → E (.ref a.C_NotWhole) none H2) :
    ∃ p', RdAt K a H' c p' ∧ Post K a c rA RA p' H' (fun y H4 => ∃ acc, H4 D = some (.lst acc) ∧ acc.length < sizeLine ∧ LcI K a c rA RA p H1 D (i + 1) (upd H4 D (.lst (acc ++ [y])))) E := by
  obtain ⟨p', vs, xs, rd', e, hD', hl, b, hx⟩ := L.ex
  obtain ⟨rD, lD⟩ := rd.new hD
  refine ⟨p', rd', ?_⟩
  unfold Post
  cases e1 : rA (c.ns.drop p') with
  | none =>
    have e2 : readTimes rA (i + 1) (c.ns.drop p) = none := by
      rw [times_snoc, e]
      simp only [Option.bind_some]
      rw [e1]
      rfl
    exact fun H2 b2 => hf (times_none rA k (i + 1) _ e2 hi) H2 (b.trans b2)
  | some u =>
    intro v H2 p2 b2 rd2 e2 rv
    have hD2 := b2 _ _ hD' (fun z => rD z.symm)
    have d2 : Dom H1 H' := Dom.but b rd'.some
    refine ⟨vs, hD2, by rw [sizeLine_eq]; omega, p2, vs ++ [v], xs ++ [u.1], rd2.put rD lD, ?_, upd_same, by rw [List.length_append, hl]; rfl, ?_, ?_⟩
    · rw [times_snoc, e]
      simp only [Option.bind_some]
      rw [e1, e2]
      rfl
    · exact fun b' o e' hb => by rw [upd_ne (ne_of_none e' hD)]; exact b2 _ _ (b _ _ e' hb) hb
    · have hh : hid D (fresh H1 (upd H2 D (.lst (vs ++ [v])))) = hid D (fresh H1 H2) := by
        funext b'
        unfold hid
        split
        · rfl
        · rename_i n
          unfold fresh
          rw [upd_ne n]
      rw [hh]
      refine (hx.mono fun y t r => mo _ _ _ _ (hid_same (fresh_but b2 rd.some)) r).append (All2.cons (mo _ _ _ _ (fun b' o e' => ?_) rv) All2.nil)
      obtain ⟨f1, f2⟩ := fresh_get e'
      rw [hid_ne (fun z => by rw [z, hD'] at f1; cases f1)]
      exact fresh_mk (d2 _ f1) f2
end
theorem all2_refs {α β : Type} {S : Addr → β → Prop} {g : α → β} : ∀ {vs : List V} {ts : List α}, All2 (fun v t => ∃ x, v = .ref x ∧ S x (g t)) vs ts → ∃ xs : List Addr, vs = xs.map V.ref ∧ All2 S xs (ts.map g)
  | [], [], _ => ⟨[], rfl, All2.nil⟩
  | [], _ :: _, h => by have := h.1; simp at this
  | _ :: _, [], h => by have := h.1; simp at this
  | v :: vs, t :: ts, h => by
    obtain ⟨⟨x, rfl, r⟩, h2⟩ := h.tail
    obtain ⟨xs, rfl, h3⟩ := all2_refs h2
    exact ⟨x :: xs, rfl, All2.cons r h3⟩
theorem all2_refs' {β : Type} {S : Addr → β → Prop} {vs : List V} {ts : List β} (h : All2 (fun v t => ∃ x, v = .ref x ∧ S x t) vs ts) : ∃ xs : List Addr, vs = xs.map V.ref ∧ All2 S xs ts := by
  obtain ⟨xs, e, h⟩ := all2_refs (g := fun t : β => t) h
  rw [List.map_id'] at h
  exact ⟨xs, e, h⟩
theorem all2_ints {C : Hp} : ∀ {vs : List V} {zs : List Int}, All2 (IntR C) vs zs → vs = zs.map V.int
  | [], [], _ => rfl
  | [], _ :: _, h => by have := h.1; simp at this
  | _ :: _, [], h => by have := h.1; simp at this
  | v :: vs, z :: zs, h => by
    obtain ⟨e, h2⟩ := h.tail
    have e : v = .int z := e
    subst e
    rw [all2_ints h2]
    rfl
theorem moInt : Mo IntR := fun _ _ _ _ _ h => h
section
variable {P : Program} {w : World} {K : PySem.W.Frag} {mg : Str → Option Value} {base : Heap} {a : Ad}
def sp_read_branch (K : PySem.W.Frag) (a : Ad) : Sp := fun vs H Q E => ∃ (c : Rd) (p n : Nat), vs = [.ref c.r, .int (n : Nat)] ∧ RdAt K a H c p ∧ n ≤ 4 ∧ Post K a c (branchR n) (BrR a n) p H Q E
theorem sc_read_branch : FnScope ["reader", "counters", "size", "tests", "move", "place"] ["reader", "counters"] (defScope s_read_branch) := ⟨rfl, rfl, rfl, by decide +kernel, rfl, by decide +kernel, by decide +kernel⟩
theorem ok_read_branch (T : Txt K mg a) : FnOk P w K mg base (CXN P w) 6 a.f_read_branch a.d_read_branch ["reader", "counters"] (sp_read_branch K a) := by
  refine T.F_read_branch.okX sc_read_branch (fun vs H Q E h => ?_) (fun cdv A outer s H vs Q E hr h => ?_)
  · obtain ⟨c, p, n, rfl, _⟩ := h
    rfl
  · obtain ⟨c, p, n, rfl, rd, n4, q⟩ := h
    have hr2 : Room 2 _ := hr.mono (by decide)
    have hr3 : Room 3 _ := hr.mono (by decide)
    have hr4 : Room 4 _ := hr.mono (by decide)
    refine ⟨_, pss_cons (ps_set (i := 2) sc_read_branch.nd rfl (Or.inl rfl) (pe_meth (pv 0) T.cl_Reader T.me_Reader_take_from (ok_take_from T) hr3 T.b_Reader_take_from .nil passes_def (pa_cons pe_int (pa_cons (pe_cst T.c_MOST_TESTS) pa_nil))))
      (pss_cons (ps_setLcX (i := 3) (own := [("place", 5)]) meets_def ⟨rfl, rfl⟩ rfl sc_read_branch.nd rfl rfl (sw_true rfl rfl rfl rfl) (pi_range1 rfl T.bl_range (pa_cons (pv 2) pa_nil)) (blkOk_by rfl) (fun _ _ _ _ _ => pn 5 sc_read_branch.nd rfl rfl) (fun _ _ _ _ _ => pts_nil)
          (fun _ _ _ _ _ => pe_call (ok_read_test T) hr (by rfl) T.g_read_test T.F_read_test.kp T.b_read_test .nil passes_blk (pa_cons (pv 0) (pa_cons (pv 1) pa_nil))))
      (pss_cons (ps_setLcX (i := 4) (own := [("place", 5)]) meets_def ⟨rfl, rfl⟩ rfl sc_read_branch.nd rfl rfl (sw_true rfl rfl rfl rfl) (pi_range1 rfl T.bl_range (pa_cons (pv 1) pa_nil)) (blkOk_by rfl) (fun _ _ _ _ _ => pn 5 sc_read_branch.nd rfl rfl) (fun _ _ _ _ _ => pts_nil)
          (fun _ _ _ _ _ => pe_call (ok_read_given T) hr4 (by rfl) T.g_read_given T.F_read_given.kp T.b_read_given .nil passes_blk (pa_cons (pv 0) (pa_cons (pv 1) pa_nil))))
      (pss_one (ps_ret (pe_newBranchN T hr2 (pa_cons (pv 3) (pa_cons (pv 4) pa_nil))))))), ?_⟩
    obtain ⟨dx, h1⟩ := rd.ob
    refine ⟨_, rfl, c.r, dx, _, rfl, h1, rfl, c, p, 0, 3, rfl, rd, ?_⟩
    refine q.bind (RA := IntR) (But.refl _) fun k v H1 p1 b1 rd1 ev hk q1 => ?_
    have ev : v = .int k := ev
    subst ev
    obtain ⟨_, k0, k3⟩ := readInt_some hk
    have k0 : 0 ≤ k := k0
    have k3 : k ≤ 3 := k3
    have dom1 := Dom.but b1 rd1.some
    refine ⟨_, rfl, k, rfl, by omega, by omega, fun D1 hD1 => ?_⟩
    refine lc_range (lo := 0) (n := k.toNat) (fun i H' => LcI K a c (testR n) (TestR a n) p1 H1 D1 i H') (LcI.zero rd1 hD1) ?_ ?_
    · intro i H' hi L
      obtain ⟨p', rd', po⟩ := L.step (E := E) (k := k.toNat) moTest rd1 hD1 hi (by omega) fun e H2 b => q1.stop e H2 (b1.trans b)
      exact ⟨rfl, yes ⟨_, rfl, _, rfl, c, p', n, rfl, rd', n4, po⟩⟩
    intro H2 L
    obtain ⟨p2, vs1, ts, rd2, e2, hv1, _, b2, hx1⟩ := L.ex
    have q2 := q1.cont e2
    have b12 := b1.trans b2
    have dom2 := Dom.but b12 rd2.some
    refine ⟨_, rfl, (n : Int), rfl, by omega, by omega, fun D2 hD2 => ?_⟩
    have nn : ((n : Nat) : Int).toNat = n := by omega
    rw [nn]
    refine lc_range (lo := 0) (n := n) (fun i H' => LcI K a c (givenR n) (GivR a) p2 H2 D2 i H') (LcI.zero rd2 hD2) ?_ ?_
    · intro i H' hi L
      obtain ⟨p', rd', po⟩ := L.step (E := E) (k := n) moGiv rd2 hD2 hi (by omega) fun e H2 b => q2.stop e H2 (b12.trans b)
      exact ⟨rfl, yes ⟨_, rfl, _, rfl, c, p', n, rfl, rd', po⟩⟩
    intro H3 L
    obtain ⟨p3, vs2, mv, rd3, e3, hv2, _, b3, hx2⟩ := L.ex
    have q3 := q2.cont e3
    have b13 := b12.trans b3
    have dom3 := Dom.but b13 rd3.some
    refine ⟨_, rfl, _, rfl, D1, D2, rfl, fun x H4 hx s4 ⟨dx4, e4⟩ => ?_⟩
    have rs := rd.some
    obtain ⟨r1, _⟩ := rd1.new hD1
    have sC1 : Same (hid D1 (fresh H1 H2)) (fresh H H4) := hid_sub.trans ((fresh_dom dom1).trans (fresh_but (b3.trans (But.of s4)) rs))
    have sC2 : Same (hid D2 (fresh H2 H3)) (fresh H H4) := hid_sub.trans ((fresh_dom dom2).trans (fresh_same s4))
    obtain ⟨xs1, rfl, hy1⟩ := all2_refs (S := FactAt a (fresh H H4)) (g := fun t => mF (Vaaclf.ofTest n t)) (hx1.mono fun v t r => moTest (a := a) _ _ _ _ sC1 r)
    obtain ⟨xs2, rfl, hy2⟩ := all2_refs' (S := GivenAt a (fresh H H4)) (hx2.mono fun v t r => moGiv (a := a) _ _ _ _ sC2 r)
    refine q3.ret (b13.trans (But.of s4)) (rd3.mono s4) ⟨x, rfl, dx4, D1, D2, fresh_mk (dom3 _ hx) e4, ⟨xs1, fresh_mk (dom1 _ hD1) (s4 _ _ (b3 _ _ hv1 (fun z => r1 z.symm))), hy1⟩, ⟨xs2, fresh_mk (dom2 _ hD2) (s4 _ _ hv2), hy2⟩⟩
def sp_read_fact (K : PySem.W.Frag) (a : Ad) : Sp := fun vs H Q E => ∃ (c : Rd) (p n : Nat), vs = [.ref c.r, .int (n : Nat)] ∧ RdAt K a H c p ∧ n ≤ 4 ∧ Post K a c (factR n) (FaR a) p H Q E
theorem sc_read_fact : FnScope ["reader", "counters", "times", "kind", "place"] ["reader", "counters"] (defScope s_read_fact) := ⟨rfl, rfl, rfl, by decide +kernel, rfl, by decide +kernel, by decide +kernel⟩
theorem ok_read_fact (T : Txt K mg a) : FnOk P w K mg base (CXN P w) 5 a.f_read_fact a.d_read_fact ["reader", "counters"] (sp_read_fact K a) := by
  refine T.F_read_fact.okX sc_read_fact (fun vs H Q E h => ?_) (fun cdv A outer s H vs Q E hr h => ?_)
  · obtain ⟨c, p, n, rfl, _⟩ := h
    rfl
  · obtain ⟨c, p, n, rfl, rd, n4, q⟩ := h
    have hr2 : Room 2 _ := hr.mono (by decide)
    have hr3 : Room 3 _ := hr.mono (by decide)
    refine ⟨_, pss_cons (ps_setLcX (i := 2) (own := [("place", 4)]) meets_def ⟨rfl, rfl⟩ rfl sc_read_fact.nd rfl rfl (sw_true rfl rfl rfl rfl) (pi_range1 rfl T.bl_range (pa_cons (pv 1) pa_nil)) (blkOk_by rfl) (fun _ _ _ _ _ => pn 4 sc_read_fact.nd rfl rfl) (fun _ _ _ _ _ => pts_nil)
          (fun _ _ _ _ _ => pe_meth (pv 0) T.cl_Reader T.me_Reader_take_from (ok_take_from T) hr3 T.b_Reader_take_from .nil passes_blk (pa_cons (pe_un un_neg (pe_cst T.c_MOST_TIMES (by rfl))) (pa_cons (pe_cst T.c_MOST_TIMES (by rfl)) pa_nil))))
      (pss_cons (ps_set (i := 3) sc_read_fact.nd rfl (Or.inl rfl) (pe_meth (pv 0) T.cl_Reader T.me_Reader_take_from (ok_take_from T) hr3 T.b_Reader_take_from .nil passes_def (pa_cons pe_int (pa_cons (pe_cst T.c_REMAINDER) pa_nil))))
      (pss_cons (ps_if (pt_cmpR op_eq (pv 3) (pe_cst T.c_REMAINDER) (nomark _)) (pss_one (ps_ret (pe_call (ok_read_remainder T) hr rfl T.g_read_remainder T.F_read_remainder.kp T.b_read_remainder .nil passes_def (pa_cons (pv 0) (pa_cons (pv 2) pa_nil))))) pss_nil)
      (pss_one (ps_ret (pe_newFactN T hr2 (pa_cons (pv 2) (pa_cons (pv 3) (pa_cons pe_int (pa_cons (pe_call (ok_read_number T) hr rfl T.g_read_number T.F_read_number.kp T.b_read_number .nil passes_def (pa_cons (pv 0) pa_nil)) pa_nil))))))))), ?_⟩
    refine ⟨_, rfl, (n : Int), rfl, by omega, by omega, fun D hD => ?_⟩
    have nn : ((n : Nat) : Int).toNat = n := by omega
    rw [nn]
    refine lc_range (lo := 0) (n := n) (fun i H' => LcI K a c (readInt (-5) 5) IntR p H D i H') (LcI.zero rd hD) ?_ ?_
    · intro i H' hi L
      obtain ⟨p', rd', po⟩ := L.step (E := E) (k := n) moInt rd hD hi (by omega) fun e H2 b => q.stop e H2 b
      obtain ⟨dx', h1'⟩ := rd'.ob
      exact ⟨rfl, yes ⟨_, rfl, c.r, dx', _, rfl, h1', rfl, _, rfl, c, p', _, _, rfl, rd', po⟩⟩
    intro H1 L
    obtain ⟨p1, vs1, ts, rd1, e1, hv1, _, b1, hx1⟩ := L.ex
    have q1 := q.cont e1
    have hv1 : H1 D = some (.lst (ts.map V.int)) := by rw [hv1, all2_ints hx1]
    obtain ⟨r1, _⟩ := rd.new hD
    obtain ⟨dx1, g1⟩ := rd1.ob
    refine ⟨_, rfl, c.r, dx1, _, rfl, g1, rfl, c, p1, 0, 2, rfl, rd1, ?_⟩
    refine q1.bind (RA := IntR) b1 fun k v H2 p2 b2 rd2 ev hk q2 => ?_
    have ev : v = .int k := ev
    subst ev
    obtain ⟨_, k0, k2⟩ := readInt_some hk
    have k0 : 0 ≤ k := k0
    have k2 : k ≤ 2 := k2
    have b12 := b1.trans b2
    have dom2 := Dom.but b12 rd2.some
    have hv2 := b2 _ _ hv1 (fun z => r1 z.symm)
    refine ⟨_, rfl, rfl, _, rfl, ite2 (fun c2 => ?_) (fun c2 => ?_)⟩
    · have c2 := decI.mp c2
      rw [if_pos c2] at q2
      refine ⟨_, rfl, _, rfl, c, D, p2, rfl, rd2, ?_⟩
      refine q2.bind (RA := RemR a D) b12 fun qq v H3 p3 b3 rd3 ev hq q3 => ?_
      obtain ⟨x, dx3, rfl, ex⟩ := ev
      obtain ⟨x2, x3⟩ := fresh_get ex
      have ok := remR_ok _ _ hq
      have o1 : 0 < qq.1 := ok.1
      have o2 : 0 ≤ qq.2 := ok.2.1
      refine q3.ret (b12.trans b3) rd3 ⟨x, rfl, dx3, D, fresh_mk (dom2 _ x2) ?_, fresh_mk hD (b3 _ _ hv2 (fun z => r1 z.symm))⟩
      show _ = some (HO.ins a.C_Fact dx3 (factFs D 2 ((qq.1.toNat : Nat) : Int) ((qq.2.toNat : Nat) : Int)))
      rw [Int.toNat_of_nonneg (Int.le_of_lt o1), Int.toNat_of_nonneg o2]
      exact x3
    · have c2 : ¬ k = 2 := fun e => c2 (decI.mpr e)
      rw [if_neg c2] at q2
      refine ⟨_, rfl, _, rfl, _, rfl, c, p2, rfl, rd2, ?_⟩
      refine q2.bind (RA := IntR) b12 fun z v H3 p3 b3 rd3 ev _ q3 => ?_
      have ev : v = .int z := ev
      subst ev
      refine ⟨D, _, _, _, rfl, fun x H4 hx s4 ⟨dx4, e4⟩ => ?_⟩
      have b13 := b12.trans b3
      have hv4 := s4 _ _ (b3 _ _ hv2 (fun z => r1 z.symm))
      refine q3.ret (b13.trans (But.of s4)) (rd3.mono s4) ⟨x, rfl, dx4, D, fresh_mk (Dom.but b13 rd3.some _ hx) ?_, fresh_mk hD ?_⟩
      · by_cases c0 : k = 0
        · subst c0
          exact e4
        · have c1 : k = 1 := by omega
          subst c1
          exact e4
      · rw [mF_ts]
        exact hv4
def overR {A : Type} (x : A) : Reader A := fun l => match l with
  | [] => some (x, [])
  | _ :: _ => none
theorem whole_eq {A : Type} (rd : Reader A) (l : List Int) : bindR rd overR l = (VaaclBase.whole rd l).map fun x => (x, []) := by
  unfold bindR VaaclBase.whole overR
  cases rd l with
  | none => rfl
  | some u =>
    obtain ⟨x, r⟩ := u
    cases r <;> rfl
theorem bindR_assoc {A B C : Type} (r : Reader A) (f : A → Reader B) (g : B → Reader C) (x : List Int) : bindR r (fun y => bindR (f y) g) x = bindR (bindR r f) g x := by
  unfold bindR
  cases r x <;> rfl
def Whole {A : Type} (a : Ad) (ns : List Int) (rd : Reader A) (R : Hp → V → A → Prop) (H : Hp) (Q : VK) (E : XK) : Prop :=
  match VaaclBase.whole rd ns with
  | none => ∀ H', Same H H' → E (.ref a.C_NotWhole) none H'
  | some x => ∀ v H', Same H H' → R (fresh H H') v x → Q v H'
theorem Whole.post {A : Type} {rd : Reader A} {R : Hp → V → A → Prop} {H H1 : Hp} {Q : VK} {E : XK} {r l : Addr} {ns : List Int} (h : Whole a ns rd R H Q E) (mo : Mo R) (hr : H r = none) (s : Same H H1) : Post K a ⟨r, l, ns⟩ (bindR rd overR) R 0 H1 Q E := by
  have sb : ∀ {H'}, But r H1 H' → Same H H' := fun b c o e => b _ _ (s _ _ e) (ne_of_none e hr)
  unfold Post
  show match bindR rd overR (ns.drop 0) with | none => _ | some u => _
  rw [List.drop_zero, whole_eq]
  unfold Whole at h
  cases e : VaaclBase.whole rd ns with
  | none =>
    rw [e] at h
    exact fun H' b => h H' (sb b)
  | some x =>
    rw [e] at h
    exact fun v H' p' b _ _ rv => h v H' (sb b) (mo _ _ _ _ (fresh_dom (Dom.same s)) rv)
theorem Post.over {A : Type} {c : Rd} {p : Nat} {H : Hp} {Q : VK} {E : XK} {R : Hp → V → A → Prop} {x : A} (h : Post K a c (overR x) R p H Q E) :
    (c.ns.drop p = [] → ∀ v H', But c.r H H' → RdAt K a H' c p → R (fresh H H') v x → Q v H') ∧ (c.ns.drop p ≠ [] → ∀ H', But c.r H H' → E (.ref a.C_NotWhole) none H') := by
  unfold Post at h
  cases e : c.ns.drop p with
  | nil =>
    rw [e] at h
    exact ⟨fun _ v H' b rd rv => h v H' p b rd e rv, fun z => absurd rfl z⟩
  | cons z l =>
    rw [e] at h
    exact ⟨(fun z => by cases z), fun _ => h⟩
def LoopR (a : Ad) (n : Nat) : Hp → V → Loop → Prop := fun C v bs => ∃ D, v = .ref D ∧ Branches a n C D bs
def ClaimR (a : Ad) : Hp → V → Vaaclf.Claim → Prop := fun C v c => ∃ D, v = .ref D ∧ ClaimAt a C D c
def ValsR : Hp → V → List Int → Prop := fun C v zs => ∃ D, v = .ref D ∧ C D = some (.lst (zs.map V.int))
theorem moLoop {n : Nat} : Mo (LoopR a n) := fun _ _ _ _ s ⟨D, e, h⟩ => ⟨D, e, h.mono s⟩
theorem moClaim : Mo (ClaimR a) := fun _ _ _ _ s ⟨D, e, h⟩ => ⟨D, e, Facts.mono h s⟩
theorem moVals : Mo ValsR := fun _ _ _ _ s ⟨D, e, h⟩ => ⟨D, e, s _ _ h⟩
def sp_whole_loop (a : Ad) : Sp := fun vs H Q E => ∃ (l : Addr) (ns : List Int) (n : Nat), vs = [.ref l, .int (n : Nat)] ∧ H l = some (.lst (ns.map V.int)) ∧ n ≤ 4 ∧ Whole a ns (loopR n) (LoopR a n) H Q E
theorem sc_whole_loop : FnScope ["numbers", "counters", "reader", "size", "branches", "place"] ["numbers", "counters"] (defScope s_whole_loop) := ⟨rfl, rfl, rfl, by decide +kernel, rfl, by decide +kernel, by decide +kernel⟩
theorem ok_whole_loop (T : Txt K mg a) : FnOk P w K mg base (CXN P w) 7 a.f_whole_loop a.d_whole_loop ["numbers", "counters"] (sp_whole_loop a) := by
  refine T.F_whole_loop.okX sc_whole_loop (fun vs H Q E h => ?_) (fun cdv A outer s H vs Q E hr h => ?_)
  · obtain ⟨l, ns, n, rfl, _⟩ := h
    rfl
  · obtain ⟨l, ns, n, rfl, hl, n4, q⟩ := h
    have hr2 : Room 2 _ := hr.mono (by decide)
    have hr3 : Room 3 _ := hr.mono (by decide)
    refine ⟨_, pss_cons (ps_set (i := 2) sc_whole_loop.nd rfl (Or.inr rfl) (pe_newReader T hr2 (pa_cons (pv 0) pa_nil)))
      (pss_cons (ps_set (i := 3) sc_whole_loop.nd rfl (Or.inl rfl) (pe_meth (pv 2) T.cl_Reader T.me_Reader_take_from (ok_take_from T) hr3 T.b_Reader_take_from .nil passes_def (pa_cons pe_int (pa_cons (pe_cst T.c_MOST_BRANCHES) pa_nil))))
      (pss_cons (ps_setLcX (i := 4) (own := [("place", 5)]) meets_def ⟨rfl, rfl⟩ rfl sc_whole_loop.nd rfl rfl (sw_true rfl rfl rfl rfl) (pi_range1 rfl T.bl_range (pa_cons (pv 3) pa_nil)) (blkOk_by rfl) (fun _ _ _ _ _ => pn 5 sc_whole_loop.nd rfl rfl) (fun _ _ _ _ _ => pts_nil)
          (fun _ _ _ _ _ => pe_call (ok_read_branch T) hr (by rfl) T.g_read_branch T.F_read_branch.kp T.b_read_branch .nil passes_blk (pa_cons (pv 2) (pa_cons (pv 1) pa_nil))))
      (pss_cons (ps_expr (pe_meth0 (pv 2) T.cl_Reader T.me_Reader_must_be_over (ok_must_be_over T) hr2 T.b_Reader_must_be_over .nil passes_def))
      (pss_one (ps_ret (pv 4)))))), ?_⟩
    refine ⟨_, rfl, l, rfl, fun r H0 hrn s0 ⟨dx, h1⟩ => ?_⟩
    have rd : RdAt K a H0 ⟨r, l, ns⟩ 0 := ⟨⟨dx, h1⟩, SqL.of (s0 _ _ hl), Nat.zero_le _⟩
    have q0 := (q.post (K := K) (l := l) moLoop hrn s0).eq (rA' := bindR (readInt 1 3) fun k => bindR (readTimes (branchR n) k.toNat) overR) fun x => bindR_assoc _ _ _ x
    refine ⟨_, rfl, r, dx, _, rfl, h1, rfl, ⟨r, l, ns⟩, 0, 1, 3, rfl, rd, ?_⟩
    refine q0.bind (RA := IntR) (But.refl _) fun k v H1 p1 b1 rd1 ev hk q1 => ?_
    have ev : v = .int k := ev
    subst ev
    obtain ⟨_, k0, k3⟩ := readInt_some hk
    have k0 : 1 ≤ k := k0
    have k3 : k ≤ 3 := k3
    have dom1 := Dom.but b1 rd1.some
    refine ⟨_, rfl, k, rfl, by omega, by omega, fun D1 hD1 => ?_⟩
    refine lc_range (lo := 0) (n := k.toNat) (fun i H' => LcI K a ⟨r, l, ns⟩ (branchR n) (BrR a n) p1 H1 D1 i H') (LcI.zero rd1 hD1) ?_ ?_
    · intro i H' hi L
      obtain ⟨p', rd', po⟩ := L.step (E := E) (k := k.toNat) moBr rd1 hD1 hi (by omega) fun e H2 b => q1.stop e H2 (b1.trans b)
      exact ⟨rfl, yes ⟨_, rfl, _, rfl, ⟨r, l, ns⟩, p', n, rfl, rd', n4, po⟩⟩
    intro H2 L
    obtain ⟨p2, vs1, ts, rd2, e2, hv1, _, b2, hx1⟩ := L.ex
    have q2 := (q1.cont e2).over
    have b12 := b1.trans b2
    obtain ⟨dx2, g2⟩ := rd2.ob
    refine ⟨_, rfl, r, dx2, _, rfl, g2, rfl, ⟨r, l, ns⟩, p2, rfl, rd2, fun e => ?_, fun e => q2.2 e H2 b12⟩
    refine ⟨_, rfl, ?_⟩
    obtain ⟨xs1, rfl, hy1⟩ := all2_refs' (S := BranchAt a n (fresh H0 H2)) (hx1.mono fun v t r => moBr (a := a) _ _ _ _ (hid_sub.trans (fresh_dom dom1)) r)
    exact q2.1 e _ H2 b12 rd2 ⟨D1, rfl, xs1, fresh_mk (dom1 _ hD1) hv1, hy1⟩
def sp_whole_claim (a : Ad) : Sp := fun vs H Q E => ∃ (l : Addr) (ns : List Int) (n : Nat), vs = [.ref l, .int (n : Nat)] ∧ H l = some (.lst (ns.map V.int)) ∧ n ≤ 4 ∧ Whole a ns (claimR n) (ClaimR a) H Q E
theorem sc_whole_claim : FnScope ["numbers", "counters", "reader", "size", "facts", "place"] ["numbers", "counters"] (defScope s_whole_claim) := ⟨rfl, rfl, rfl, by decide +kernel, rfl, by decide +kernel, by decide +kernel⟩
theorem ok_whole_claim (T : Txt K mg a) : FnOk P w K mg base (CXN P w) 6 a.f_whole_claim a.d_whole_claim ["numbers", "counters"] (sp_whole_claim a) := by
  refine T.F_whole_claim.okX sc_whole_claim (fun vs H Q E h => ?_) (fun cdv A outer s H vs Q E hr h => ?_)
  · obtain ⟨l, ns, n, rfl, _⟩ := h
    rfl
  · obtain ⟨l, ns, n, rfl, hl, n4, q⟩ := h
    have hr2 : Room 2 _ := hr.mono (by decide)
    have hr3 : Room 3 _ := hr.mono (by decide)
    refine ⟨_, pss_cons (ps_set (i := 2) sc_whole_claim.nd rfl (Or.inr rfl) (pe_newReader T hr2 (pa_cons (pv 0) pa_nil)))
      (pss_cons (ps_set (i := 3) sc_whole_claim.nd rfl (Or.inl rfl) (pe_meth (pv 2) T.cl_Reader T.me_Reader_take_from (ok_take_from T) hr3 T.b_Reader_take_from .nil passes_def (pa_cons pe_int (pa_cons (pe_cst T.c_MOST_FACTS) pa_nil))))
      (pss_cons (ps_setLcX (i := 4) (own := [("place", 5)]) meets_def ⟨rfl, rfl⟩ rfl sc_whole_claim.nd rfl rfl (sw_true rfl rfl rfl rfl) (pi_range1 rfl T.bl_range (pa_cons (pv 3) pa_nil)) (blkOk_by rfl) (fun _ _ _ _ _ => pn 5 sc_whole_claim.nd rfl rfl) (fun _ _ _ _ _ => pts_nil)
          (fun _ _ _ _ _ => pe_call (ok_read_fact T) hr (by rfl) T.g_read_fact T.F_read_fact.kp T.b_read_fact .nil passes_blk (pa_cons (pv 2) (pa_cons (pv 1) pa_nil))))
      (pss_cons (ps_expr (pe_meth0 (pv 2) T.cl_Reader T.me_Reader_must_be_over (ok_must_be_over T) hr2 T.b_Reader_must_be_over .nil passes_def))
      (pss_one (ps_ret (pv 4)))))), ?_⟩
    refine ⟨_, rfl, l, rfl, fun r H0 hrn s0 ⟨dx, h1⟩ => ?_⟩
    have rd : RdAt K a H0 ⟨r, l, ns⟩ 0 := ⟨⟨dx, h1⟩, SqL.of (s0 _ _ hl), Nat.zero_le _⟩
    have q0 := (q.post (K := K) (l := l) moClaim hrn s0).eq (rA' := bindR (readInt 0 6) fun k => bindR (readTimes (factR n) k.toNat) overR) fun x => bindR_assoc _ _ _ x
    refine ⟨_, rfl, r, dx, _, rfl, h1, rfl, ⟨r, l, ns⟩, 0, 0, 6, rfl, rd, ?_⟩
    refine q0.bind (RA := IntR) (But.refl _) fun k v H1 p1 b1 rd1 ev hk q1 => ?_
    have ev : v = .int k := ev
    subst ev
    obtain ⟨_, k0, k3⟩ := readInt_some hk
    have k0 : 0 ≤ k := k0
    have k3 : k ≤ 6 := k3
    have dom1 := Dom.but b1 rd1.some
    refine ⟨_, rfl, k, rfl, by omega, by omega, fun D1 hD1 => ?_⟩
    refine lc_range (lo := 0) (n := k.toNat) (fun i H' => LcI K a ⟨r, l, ns⟩ (factR n) (FaR a) p1 H1 D1 i H') (LcI.zero rd1 hD1) ?_ ?_
    · intro i H' hi L
      obtain ⟨p', rd', po⟩ := L.step (E := E) (k := k.toNat) moFa rd1 hD1 hi (by omega) fun e H2 b => q1.stop e H2 (b1.trans b)
      exact ⟨rfl, yes ⟨_, rfl, _, rfl, ⟨r, l, ns⟩, p', n, rfl, rd', n4, po⟩⟩
    intro H2 L
    obtain ⟨p2, vs1, ts, rd2, e2, hv1, _, b2, hx1⟩ := L.ex
    have q2 := (q1.cont e2).over
    have b12 := b1.trans b2
    obtain ⟨dx2, g2⟩ := rd2.ob
    refine ⟨_, rfl, r, dx2, _, rfl, g2, rfl, ⟨r, l, ns⟩, p2, rfl, rd2, fun e => ?_, fun e => q2.2 e H2 b12⟩
    refine ⟨_, rfl, ?_⟩
    obtain ⟨xs1, rfl, hy1⟩ := all2_refs (S := FactAt a (fresh H0 H2)) (g := mF) (hx1.mono fun v t r => moFa (a := a) _ _ _ _ (hid_sub.trans (fresh_dom dom1)) r)
    exact q2.1 e _ H2 b12 rd2 ⟨D1, rfl, xs1, fresh_mk (dom1 _ hD1) hv1, hy1⟩
def sp_whole_fact (a : Ad) : Sp := fun vs H Q E => ∃ (l : Addr) (ns : List Int) (n : Nat), vs = [.ref l, .int (n : Nat)] ∧ H l = some (.lst (ns.map V.int)) ∧ n ≤ 4 ∧ Whole a ns (factR n) (FaR a) H Q E
theorem sc_whole_fact : FnScope ["numbers", "counters", "reader", "fact"] ["numbers", "counters"] (defScope s_whole_fact) := ⟨rfl, rfl, rfl, by decide +kernel, rfl, by decide +kernel, by decide +kernel⟩
theorem ok_whole_fact (T : Txt K mg a) : FnOk P w K mg base (CXN P w) 6 a.f_whole_fact a.d_whole_fact ["numbers", "counters"] (sp_whole_fact a) := by
  refine T.F_whole_fact.okX sc_whole_fact (fun vs H Q E h => ?_) (fun cdv A outer s H vs Q E hr h => ?_)
  · obtain ⟨l, ns, n, rfl, _⟩ := h
    rfl
  · obtain ⟨l, ns, n, rfl, hl, n4, q⟩ := h
    have hr2 : Room 2 _ := hr.mono (by decide)
    refine ⟨_, pss_cons (ps_set (i := 2) sc_whole_fact.nd rfl (Or.inl rfl) (pe_newReader T hr2 (pa_cons (pv 0) pa_nil)))
      (pss_cons (ps_set (i := 3) sc_whole_fact.nd rfl (Or.inl rfl) (pe_call (ok_read_fact T) hr rfl T.g_read_fact T.F_read_fact.kp T.b_read_fact .nil passes_def (pa_cons (pv 2) (pa_cons (pv 1) pa_nil))))
      (pss_cons (ps_expr (pe_meth0 (pv 2) T.cl_Reader T.me_Reader_must_be_over (ok_must_be_over T) hr2 T.b_Reader_must_be_over .nil passes_def))
      (pss_one (ps_ret (pv 3))))), ?_⟩
    refine ⟨_, rfl, l, rfl, fun r H0 hrn s0 ⟨dx, h1⟩ => ?_⟩
    have rd : RdAt K a H0 ⟨r, l, ns⟩ 0 := ⟨⟨dx, h1⟩, SqL.of (s0 _ _ hl), Nat.zero_le _⟩
    have q0 := q.post (K := K) (l := l) moFa hrn s0
    refine ⟨_, rfl, _, rfl, ⟨r, l, ns⟩, 0, n, rfl, rd, n4, ?_⟩
    refine q0.bind (RA := FaR a) (But.refl _) fun f v H1 p1 b1 rd1 ev hk q1 => ?_
    obtain ⟨dx2, g2⟩ := rd1.ob
    have q2 := q1.over
    exact ⟨_, rfl, r, dx2, _, rfl, g2, rfl, ⟨r, l, ns⟩, p1, rfl, rd1, fun e => ⟨_, rfl, q2.1 e _ H1 b1 rd1 ev⟩, fun e => q2.2 e H1 b1⟩
def sp_whole_values (a : Ad) : Sp := fun vs H Q E => ∃ (l : Addr) (ns : List Int) (n : Nat), vs = [.ref l, .int (n : Nat)] ∧ H l = some (.lst (ns.map V.int)) ∧ n ≤ 4 ∧ Whole a ns (valuesR n) ValsR H Q E
theorem sc_whole_values : FnScope ["numbers", "counters", "reader", "values", "place"] ["numbers", "counters"] (defScope s_whole_values) := ⟨rfl, rfl, rfl, by decide +kernel, rfl, by decide +kernel, by decide +kernel⟩
theorem ok_whole_values (T : Txt K mg a) : FnOk P w K mg base (CXN P w) 4 a.f_whole_values a.d_whole_values ["numbers", "counters"] (sp_whole_values a) := by
  refine T.F_whole_values.okX sc_whole_values (fun vs H Q E h => ?_) (fun cdv A outer s H vs Q E hr h => ?_)
  · obtain ⟨l, ns, n, rfl, _⟩ := h
    rfl
  · obtain ⟨l, ns, n, rfl, hl, n4, q⟩ := h
    have hr2 : Room 2 _ := hr.mono (by decide)
    refine ⟨_, pss_cons (ps_set (i := 2) sc_whole_values.nd rfl (Or.inr rfl) (pe_newReader T hr2 (pa_cons (pv 0) pa_nil)))
      (pss_cons (ps_setLcX (i := 3) (own := [("place", 4)]) meets_def ⟨rfl, rfl⟩ rfl sc_whole_values.nd rfl rfl (sw_true rfl rfl rfl rfl) (pi_range1 rfl T.bl_range (pa_cons (pv 1) pa_nil)) (blkOk_by rfl) (fun _ _ _ _ _ => pn 4 sc_whole_values.nd rfl rfl) (fun _ _ _ _ _ => pts_nil)
          (fun _ _ _ _ _ => pe_meth (pv 2) T.cl_Reader T.me_Reader_take_from (ok_take_from T) hr T.b_Reader_take_from .nil passes_blk (pa_cons (pe_un un_neg (pe_cst T.c_MOST_VALUE (by rfl))) (pa_cons (pe_cst T.c_MOST_VALUE (by rfl)) pa_nil))))
      (pss_cons (ps_expr (pe_meth0 (pv 2) T.cl_Reader T.me_Reader_must_be_over (ok_must_be_over T) hr2 T.b_Reader_must_be_over .nil passes_def))
      (pss_one (ps_ret (pv 3))))), ?_⟩
    refine ⟨_, rfl, l, rfl, fun r H0 hrn s0 ⟨dx, h1⟩ => ?_⟩
    have rd : RdAt K a H0 ⟨r, l, ns⟩ 0 := ⟨⟨dx, h1⟩, SqL.of (s0 _ _ hl), Nat.zero_le _⟩
    have q0 := q.post (K := K) (l := l) moVals hrn s0
    refine ⟨_, rfl, (n : Int), rfl, by omega, by omega, fun D1 hD1 => ?_⟩
    have nn : ((n : Nat) : Int).toNat = n := by omega
    rw [nn]
    refine lc_range (lo := 0) (n := n) (fun i H' => LcI K a ⟨r, l, ns⟩ (readInt (-1000000) 1000000) IntR 0 H0 D1 i H') (LcI.zero rd hD1) ?_ ?_
    · intro i H' hi L
      obtain ⟨p', rd', po⟩ := L.step (E := E) (k := n) moInt rd hD1 hi (by omega) fun e H2 b => q0.stop e H2 b
      obtain ⟨dx', h1'⟩ := rd'.ob
      exact ⟨rfl, yes ⟨_, rfl, r, dx', _, rfl, h1', rfl, _, rfl, ⟨r, l, ns⟩, p', _, _, rfl, rd', po⟩⟩
    intro H2 L
    obtain ⟨p2, vs1, ts, rd2, e2, hv1, _, b2, hx1⟩ := L.ex
    have q2 := (q0.cont e2).over
    obtain ⟨dx2, g2⟩ := rd2.ob
    refine ⟨_, rfl, r, dx2, _, rfl, g2, rfl, ⟨r, l, ns⟩, p2, rfl, rd2, fun e => ?_, fun e => q2.2 e H2 b2⟩
    refine ⟨_, rfl, ?_⟩
    rw [all2_ints hx1] at hv1
    exact q2.1 e _ H2 b2 rd2 ⟨D1, rfl, fresh_mk hD1 hv1⟩
end
end Lc
end
section
set_option Elab.async false
set_option linter.all false
set_option maxRecDepth 100000
set_option maxHeartbeats 1000000
namespace L2
open PySem PySem.Spec PyProof.Rows
variable {X : Cx}
theorem ip_mul : PIp X .Mult (fun x y H Q => ∃ i j, x = .int i ∧ y = .int j ∧ CMul i j ∧ Q (.int (i * j)) H) := by
  intro pins s σ H x y v u Q I r1 r2 h
  obtain ⟨i, j, e1, e2, hc, q⟩ := h
  subst e1; subst e2
  obtain ⟨t, rfl⟩ := r1
  obtain ⟨t', rfl⟩ := r2
  exact imul_int ⟨.int _, H, I.tok _, ⟨_, rfl⟩, q⟩ hc.ok
end L2
namespace Lc
open PySem PySem.Spec PyProof.Rows L2
open VaaclBase (Test Branch Loop Values)
open Vaaclf (Fact)
section
variable {P : Program} {w : World} {K : PySem.W.Frag} {mg : Str → Option Value} {base : Heap} {a : Ad}
def sp_fact_as_numbers (a : Ad) : Sp := fun vs H Q _ => ∃ (x : Addr) (f : F), vs = [.ref x] ∧ FactAt a H x f ∧ f.ts.length ≤ 4 ∧ ∀ (D : Addr) (H' : Hp), Same H H' → H' D = some (.lst ((mTold f).map V.int)) → Q (.ref D) H'
theorem sc_fact_as_numbers : FnScope ["fact"] ["fact"] (defScope s_fact_as_numbers) := ⟨rfl, rfl, rfl, by decide +kernel, rfl, by decide +kernel, by decide +kernel⟩
theorem ok_fact_as_numbers (T : Txt K mg a) : FnOk P w K mg base CX0 1 a.f_fact_as_numbers a.d_fact_as_numbers ["fact"] (sp_fact_as_numbers a) := by
  refine T.F_fact_as_numbers.ok sc_fact_as_numbers (fun vs H Q E h => ?_) (fun cdv A outer s H vs Q E hr h => ?_)
  · obtain ⟨x, f, rfl, _⟩ := h
    rfl
  · obtain ⟨x, f, rfl, hf, h4, q⟩ := h
    refine ⟨_, pss_cons (ps_if (pt_cmpR op_eq (pg 0) (pe_cst T.c_REMAINDER) (nomark _)) (pss_one (ps_ret (pe_op op_cat (pg 0) (pe_lst (pa_cons (pe_cst T.c_REMAINDER) (pa_cons (pg 0) (pa_cons (pg 0) pa_nil))))))) pss_nil)
      (pss_one (ps_ret (pe_op op_cat (pg 0) (pe_lst (pa_cons (pg 0) (pa_cons (pg 0) pa_nil)))))), ?_⟩
    obtain ⟨lt, ft, hlt⟩ := hf.times T
    refine ⟨_, rfl, _, hf.kind T, rfl, _, rfl, ite2 (fun h2 => ?_) (fun h2 => ?_)⟩
    · refine ⟨_, rfl, _, ft, _, rfl, _, hf.divisor T, _, rfl, _, hf.number T, (by show 3 ≤ sizeLine; decide), fun l hl => ?_⟩
      refine ⟨lt, l, _, _, rfl, rfl, (Same.upd hl) _ _ hlt, upd_same, ?_, fun D hD => q D _ ((Same.upd hl).trans (Same.upd hD)) ?_⟩
      · rw [List.length_map, sizeLine_eq]; show _ + 3 ≤ _; omega
      · unfold mTold
        rw [if_pos (decI.mp h2), upd_same, List.map_append]
        rfl
    · refine ⟨_, rfl, _, ft, _, rfl, _, hf.kind T, _, rfl, _, hf.number T, (by show 2 ≤ sizeLine; decide), fun l hl => ?_⟩
      refine ⟨lt, l, _, _, rfl, rfl, (Same.upd hl) _ _ hlt, upd_same, ?_, fun D hD => q D _ ((Same.upd hl).trans (Same.upd hD)) ?_⟩
      · rw [List.length_map, sizeLine_eq]; show _ + 2 ≤ _; omega
      · unfold mTold
        rw [if_neg (fun e => h2 (decI.mpr e)), upd_same, List.map_append]
        rfl
def endFs (o k : Int) (l : Addr) : List (Str × V) := [("outcome", .int o), ("rounds", .int k), ("reached", .ref l)]
def sp_Ending_init (a : Ad) : Sp := fun vs H Q _ => ∃ (p dx l : Addr) (o k : Int), vs = [.ref p, .int o, .int k, .ref l] ∧ H p = some (.ins a.C_Ending dx []) ∧ ∀ H' : Hp, H' p = some (.ins a.C_Ending dx (endFs o k l)) → But p H H' → Q .non H'
theorem sc_Ending_init : FnScope ["self", "outcome", "rounds", "reached"] ["self", "outcome", "rounds", "reached"] (defScope s_Ending_init) := ⟨rfl, rfl, rfl, by decide +kernel, rfl, by decide +kernel, by decide +kernel⟩
theorem ok_Ending_init (T : Txt K mg a) : FnOk P w K mg base CX0 1 a.f_Ending_init a.d_Ending_init ["self", "outcome", "rounds", "reached"] (sp_Ending_init a) := by
  refine T.F_Ending_init.ok sc_Ending_init (fun vs H Q E h => ?_) (fun cdv A outer s H vs Q E hr h => ?_)
  · obtain ⟨p, dx, l, o, k, rfl, _⟩ := h
    rfl
  · obtain ⟨p, dx, l, o, k, rfl, hp, q⟩ := h
    refine ⟨_, pss_cons (ps_fld (pv 0) (pv 1) rfl) (pss_cons (ps_fld (pv 0) (pv 2) rfl) (pss_one (ps_fld (pv 0) (pv 3) rfl))), ?_⟩
    refine ⟨_, rfl, _, rfl, p, _, dx, _, rfl, hp, T.cl_Ending, T.na_Ending_outcome, (by show 0 < 1000; decide), ?_⟩
    refine ⟨_, rfl, _, rfl, p, _, dx, _, rfl, upd_same, T.cl_Ending, T.na_Ending_rounds, (by show 1 < 1000; decide), ?_⟩
    refine ⟨_, rfl, _, rfl, p, _, dx, _, rfl, upd_same, T.cl_Ending, T.na_Ending_reached, (by show 2 < 1000; decide), ?_⟩
    rw [upd_upd, upd_upd]
    exact q _ upd_same fun b o e hb => by rw [upd_ne hb]; exact e
def rNewEnding (a : Ad) : List V → Hp → VK → Prop := fun vs H Q => ∃ (l : Addr) (o k : Int), vs = [.int o, .int k, .ref l] ∧ ∀ (x : Addr) (H2 : Hp), Same H H2 → (∃ dx, H2 x = some (.ins a.C_Ending dx (endFs o k l))) → Q (.ref x) H2
theorem pe_newEnding {X : Cx} {p pos : Pos} {e : Expr} {es : List Expr} {t : TA} (T : Txt X.K X.mg a) (hr : Room 2 X.A) (ha : PA X (e :: es) t) (hg : Gl X "Ending" := by rfl)
    (he : starEach (e :: es) X.env = (false, eval e X.env) :: starEach es X.env := by rfl) (hpl : (backTo pos (starEach es X.env)).any (·.1) = false := by rfl) :
    PE X (.Call (.Name "Ending" p) (e :: es) [] pos) (tCB (rNewEnding a) t) :=
  pe_new T.mk_Ending (ok_Ending_init T) hr T.mg_Ending T.b_Ending_init ha (fun vs H Q ⟨l, o, k, e1, q⟩ y dx h1 h2 h3 => by
    subst e1
    exact ⟨y, dx, l, o, k, rfl, upd_same, fun H' h4 h5 => ⟨rfl, q y H' (But.made h1 h2 h5) ⟨dx, h4⟩⟩⟩) hg (by decide) he hpl
theorem test_div {n : Nat} {t : Test} (ok : OkT n t) : (mF (Vaaclf.ofTest n t)).k ≠ 0 → (mF (Vaaclf.ofTest n t)).k ≠ 1 → 0 < (mF (Vaaclf.ofTest n t)).d := mF_div (ofTest_ok ok)
def sp_chosen_place (a : Ad) : Sp := fun vs H Q _ => ∃ (lb m : Addr) (n : Nat) (bs : Loop) (ns : List Int), vs = [.ref lb, .ref m] ∧ Branches a n H lb bs ∧ OkL n bs ∧ H m = some (.lst (ns.map V.int)) ∧ ns.length = n ∧ ∀ H' : Hp, Same H H' → Q (optV (VaaclBase.chosen bs ns)) H'
theorem sc_chosen_place : FnScope ["branches", "values", "place", "branch"] ["branches", "values"] (defScope s_chosen_place) := ⟨rfl, rfl, rfl, by decide +kernel, rfl, by decide +kernel, by decide +kernel⟩
theorem ok_chosen_place (T : Txt K mg a) : FnOk P w K mg base CX0 3 a.f_chosen_place a.d_chosen_place ["branches", "values"] (sp_chosen_place a) := by
  refine T.F_chosen_place.ok sc_chosen_place (fun vs H Q E h => ?_) (fun cdv A outer s H vs Q E hr h => ?_)
  · obtain ⟨lb, m, n, bs, ns, rfl, _⟩ := h
    rfl
  · obtain ⟨lb, m, n, bs, ns, rfl, ⟨ys, hlb, hys⟩, ol, hm, hn, q⟩ := h
    refine ⟨_, pss_cons (ps_for PassesOwn.never rfl (pi_enum rfl T.bl_enumerate (pa_cons (pv 0) pa_nil)) (pg_tup (n := 2) rfl (pgs_cons (pn 2 sc_chosen_place.nd rfl rfl) (pgs_cons (pn 3 sc_chosen_place.nd rfl rfl) pgs_nil)))
        (pss_one (ps_if (pt_cmp (pc_isN (pe_call (ok_first_not_holding T) hr rfl T.g_first_not_holding T.F_first_not_holding.kp T.b_first_not_holding .nil pass0 (pa_cons (pg 3) (pa_cons (pv 1) pa_nil))))) (pss_one (ps_ret (pv 2))) pss_nil)))
      (pss_one (ps_ret pe_non)), ?_⟩
    refine ⟨_, rfl, lb, _, rfl, SqL.of hlb, for_enum (K := K) (xs := ys.map V.ref) (fun i σ H' => (∃ v2 v3, σ = [some (.ref lb), some (.ref m), v2, v3]) ∧ Same H H' ∧ ∀ (j : Nat) b, j < i → bs[j]? = some b → VaaclBase.allHold ns b.guard = false) ⟨⟨none, none, rfl⟩, Same.refl H, fun j f h => absurd h (Nat.not_lt_zero _)⟩ (fun i σ H' _ h => SqL.of (h.2.1 _ _ hlb)) ?_ ?_⟩
    · rintro i x σ H' S hi ⟨⟨v2, v3, rfl⟩, hs, hn'⟩ hS
      obtain ⟨y, hy, rfl⟩ := map_get hi
      obtain ⟨b, hb, fa⟩ := hys.get hy
      have s2 : Same H (upd H' S (.tup [.int (i : Nat), .ref y])) := hs.trans (Same.upd hS)
      have ob := ol.all b (List.mem_of_getElem? hb)
      obtain ⟨lt, ft, hlt⟩ := (fa.mono s2).tests T
      refine ⟨S, _, rfl, SqT.of upd_same, rfl, _, _, rfl, _, _, rfl, rfl, ?_⟩
      refine ⟨_, rfl, _, ft, _, rfl, lt, m, testFs n b, ns, rfl, hlt, s2 _ _ hm, by rw [hn]; exact ol.lt, fun f hf => ?_, fun H2 s3 => ?_⟩
      · unfold testFs at hf
        obtain ⟨t, ht, rfl⟩ := List.mem_map.mp hf
        exact ⟨by rw [mF_ts, (ofTest_ok (ob.1 t ht)).1, hn], test_small n t, test_div (ob.1 t ht)⟩
      · refine ⟨_, rfl, ?_⟩
        have iff := guard_holds ob.1 hn
        have s23 := s2.trans s3
        cases hc : VaaclBase.allHold ns b.guard with
        | true =>
          have e : (testFs n b).findIdx? (fun f => !fHolds f ns) = none := iff.mpr hc
          rw [e]
          refine iteT ⟨_, rfl, ?_⟩
          have z := q H2 s23
          unfold VaaclBase.chosen at z
          rw [findIdx_some hb hc fun j g hj hg => hn' j g hj hg] at z
          exact z
        | false =>
          have e : ∃ k, (testFs n b).findIdx? (fun f => !fHolds f ns) = some k := by
            cases e : (testFs n b).findIdx? (fun f => !fHolds f ns) with
            | none =>
              have := iff.mp e
              rw [hc] at this
              cases this
            | some k => exact ⟨k, rfl⟩
          obtain ⟨k, e⟩ := e
          rw [e]
          refine iteF ⟨⟨_, _, rfl⟩, s23, fun j g hj hg => ?_⟩
          rcases Nat.lt_succ_iff_lt_or_eq.mp hj with h | h
          · exact hn' j g h hg
          · subst h
            rw [hb] at hg
            cases hg
            exact hc
    · rintro σ H' ⟨⟨v2, v3, rfl⟩, hs, hn'⟩
      have z := q H' hs
      unfold VaaclBase.chosen at z
      rw [findIdx_none fun j b hb => hn' j b (by rw [List.length_map, hys.1]; exact (List.getElem?_eq_some_iff.mp hb).1) hb] at z
      exact z
def sp_moved (a : Ad) : Sp := fun vs H Q _ => ∃ (m l : Addr) (mv : VaaclBase.Move) (ns : List Int), vs = [.ref m, .ref l] ∧ Givens a H m mv ∧ H l = some (.lst (ns.map V.int)) ∧ mv.length ≤ 4 ∧ (∀ g ∈ mv, ∀ j, g.source = some j → j < ns.length) ∧
  ∀ (D : Addr) (H' : Hp), Same H H' → H' D = some (.lst ((VaaclBase.moved mv ns).map V.int)) → Q (.ref D) H'
theorem sc_moved : FnScope ["move", "values", "behind", "given", "old"] ["move", "values"] (defScope s_moved) := ⟨rfl, rfl, rfl, by decide +kernel, rfl, by decide +kernel, by decide +kernel⟩
theorem ok_moved (T : Txt K mg a) : FnOk P w K mg base CX0 1 a.f_moved a.d_moved ["move", "values"] (sp_moved a) := by
  refine T.F_moved.ok sc_moved (fun vs H Q E h => ?_) (fun cdv A outer s H vs Q E hr h => ?_)
  · obtain ⟨m, l, mv, ns, rfl, _⟩ := h
    rfl
  · obtain ⟨m, l, mv, ns, rfl, ⟨ms, hm, hms⟩, hl, h4, hsrc, q⟩ := h
    refine ⟨_, pss_cons (ps_set (i := 2) sc_moved.nd rfl (Or.inl rfl) (pe_lst pa_nil))
      (pss_cons (ps_for PassesOwn.never rfl (pi_list (pv 0)) (pn 3 sc_moved.nd rfl rfl)
        (pss_cons (ps_set (i := 4) sc_moved.nd rfl (Or.inl rfl) (pe_ifExp (pt_cmp (pc_isN (pg 3))) pe_int (pe_ix ix_list (pv 1) (pg 3) (fun _ _ => rfl))))
          (pss_one (ps_expr (pe_bm PySem.F.plainAttrs_list PySem.F.slot_list_append PySem.F.type_list_append mt_append (pv 2) (pa_cons (pe_op op_add (pv 4) (pg 3)) pa_nil))))))
      (pss_one (ps_ret (pv 2)))), ?_⟩
    refine ⟨Nat.zero_le _, fun D hD => ?_⟩
    refine ⟨_, rfl, m, rfl, ⟨_, SqL.of ((Same.upd hD) _ _ hm)⟩, for_list (K := K) (xs := ms.map V.ref) (fun i σ H' => (∃ v3 v4, σ = [some (.ref m), some (.ref l), some (.ref D), v3, v4]) ∧ Same H H' ∧ H' D = some (.lst (((VaaclBase.moved mv ns).take i).map V.int))) ⟨⟨_, _, rfl⟩, Same.upd hD, upd_same⟩ (fun i σ H' _ h => SqL.of (h.2.1 _ _ hm)) ?_ ?_⟩
    · rintro i x σ H' hi ⟨⟨v3, v4, rfl⟩, hs, hD'⟩
      obtain ⟨y, hy, rfl⟩ := map_get hi
      obtain ⟨g, hg, ga⟩ := hms.get hy
      have g2 := ga.mono hs
      have em : (VaaclBase.moved mv ns)[i]? = some (VaaclBase.given ns g) := by unfold VaaclBase.moved; rw [List.getElem?_map, hg]; rfl
      have il : i < 4 := by have := (List.getElem?_eq_some_iff.mp hg).1; omega
      have fin : ∀ z : Int, z + g.add = VaaclBase.given ns g → ∀ v3 v4, ((∃ v3' v4', [some (V.ref m), some (V.ref l), some (V.ref D), v3, v4] = [some (V.ref m), some (V.ref l), some (V.ref D), v3', v4']) ∧ Same H (upd H' D (.lst ((((VaaclBase.moved mv ns).take i).map V.int) ++ [.int (z + g.add)]))) ∧
          (upd H' D (.lst ((((VaaclBase.moved mv ns).take i).map V.int) ++ [.int (z + g.add)]))) D = some (.lst (((VaaclBase.moved mv ns).take (i + 1)).map V.int))) := fun z ez v3 v4 => by
        refine ⟨⟨_, _, rfl⟩, fun b o e => by rw [upd_ne (ne_of_none e hD)]; exact hs _ _ e, ?_⟩
        rw [upd_same, take_snoc em, List.map_append, ez]
        rfl
      have sz : (((VaaclBase.moved mv ns).take i).map V.int).length < sizeLine := by rw [List.length_map, List.length_take, sizeLine_eq]; omega
      refine ⟨_, rfl, _, g2.source T, _, rfl, ?_⟩
      cases hsv : g.source with
      | none =>
        refine iteT ?_
        refine ⟨_, rfl, .inl ⟨rfl, _, SqL.of hD'⟩, _, rfl, _, rfl, _, g2.added T, _, _, rfl, rfl, D, _, _, rfl, rfl, hD', sz, fin 0 ?_ _ _⟩
        unfold VaaclBase.given
        rw [hsv]
        rfl
      | some j =>
        have hj := hsrc g (List.mem_of_getElem? hg) j hsv
        refine iteF ?_
        have e2 := g2.source T
        rw [hsv] at e2
        refine ⟨_, rfl, _, rfl, _, e2, l, _, _, .int (VaaclBase.valueAt ns j), rfl, rfl, SqL.of (hs _ _ hl), atI_nat ?_, ?_⟩
        · rw [List.getElem?_map, List.getElem?_eq_getElem hj]
          unfold VaaclBase.valueAt
          rw [List.getElem?_eq_getElem hj]
          rfl
        refine ⟨_, rfl, .inl ⟨rfl, _, SqL.of hD'⟩, _, rfl, _, rfl, _, g2.added T, _, _, rfl, rfl, D, _, _, rfl, rfl, hD', sz, fin _ ?_ _ _⟩
        unfold VaaclBase.given
        rw [hsv]
        rfl
    · rintro σ H' ⟨⟨v3, v4, rfl⟩, hs, hD'⟩
      refine ⟨_, rfl, q D H' hs ?_⟩
      rw [take_all _ (by rw [moved_len, List.length_map, hms.1]; exact Nat.le_refl _)] at hD'
      exact hD'
def sp_some_beyond : Sp := fun vs H Q _ => ∃ (l : Addr) (ns : List Int), vs = [.ref l] ∧ H l = some (.lst (ns.map V.int)) ∧ ns.length ≤ 4 ∧ ∀ (H' : Hp), Same H H' → Q (.bl (VaaclBase.isBeyond ns)) H'
theorem sc_some_beyond : FnScope ["values", "value"] ["values"] (defScope s_some_beyond) := ⟨rfl, rfl, rfl, by decide +kernel, rfl, by decide +kernel, by decide +kernel⟩
theorem ok_some_beyond (T : Txt K mg a) : FnOk P w K mg base CX0 1 a.f_some_beyond a.d_some_beyond ["values"] sp_some_beyond := by
  refine T.F_some_beyond.ok sc_some_beyond (fun vs H Q E h => ?_) (fun cdv A outer s H vs Q E hr h => ?_)
  · obtain ⟨l, ns, rfl, _⟩ := h
    rfl
  · obtain ⟨l, ns, rfl, hl, h4, q⟩ := h
    refine ⟨_, pss_one (ps_ret (pe_callB (cr_any rfl) rfl T.bl_any boot_any (pa_cons
        (pe_lc (own := [("value", 1)]) rfl sc_some_beyond.nd (pi_list (pv 0)) (blkOk_by rfl) (fun _ _ _ _ _ => pn 1 sc_some_beyond.nd rfl rfl) (fun _ _ _ _ _ => pts_nil)
          (fun _ _ _ _ _ => pe_cmpR op_gt (pe_callB call_abs (by rfl) T.bl_abs boot_abs (pa_cons (pv 1) pa_nil)) (pe_cst T.c_FARTHEST (by rfl)) (nomark _))) pa_nil))), ?_⟩
    refine ⟨_, rfl, l, rfl, ⟨_, SqL.of hl⟩, fun D hD => ?_⟩
    generalize hp : (ns.map fun v => decide (1000000000000 < if v < 0 then -v else v)) = ps
    have lp : ps.length = ns.length := by rw [← hp, List.length_map]
    refine lc_list (K := K) (xs := ns.map V.int) (fun i H' => H' D = some (.lst ((ps.take i).map V.bl)) ∧ Same H H') ⟨upd_same, Same.upd hD⟩ (fun i H' _ h => SqL.of (h.2 _ _ hl)) ?_ ?_
    · rintro i y H' hx ⟨hD', hs⟩
      obtain ⟨u, hu, rfl⟩ := map_get hx
      refine ⟨rfl, yes ⟨_, rfl, u, rfl, _, _, rfl, rfl, _, hD', ?_, ?_, ?_⟩⟩
      · rw [List.length_map, List.length_take, lp, sizeLine_eq]; omega
      · have e : ps[i]? = some (decide (1000000000000 < if u < 0 then -u else u)) := by rw [← hp, List.getElem?_map, hu]; rfl
        rw [upd_same, take_snoc e, List.map_append]
        rfl
      · exact fun b o e => by rw [upd_ne (ne_of_none e hD)]; exact hs _ _ e
    · rintro H' ⟨hD', hs⟩
      rw [take_all ps (by rw [List.length_map]; omega)] at hD'
      refine ⟨D, ps, rfl, SqL.of hD', ?_⟩
      rw [← hp, beyond_eq]
      exact q H' hs
def EndAt (a : Ad) (H : Hp) (x : Addr) (o : VaaclBase.Out) : Prop := ∃ dx l, H x = some (.ins a.C_Ending dx (endFs (VaaclBase.howNumber o.how) (o.rounds : Nat) l)) ∧ H l = some (.lst (o.values.map V.int))
def sp_run_from (a : Ad) : Sp := fun vs H Q _ => ∃ (lb m : Addr) (n k : Nat) (bs : Loop) (ns : List Int), vs = [.ref lb, .ref m, .int (k : Nat)] ∧ Branches a n H lb bs ∧ OkL n bs ∧ H m = some (.lst (ns.map V.int)) ∧ ns.length = n ∧
  ∀ (x : Addr) (H' : Hp), Same H H' → EndAt a H' x (VaaclBase.runLoop bs k ns 0) → (VaaclBase.runLoop bs k ns 0).values.length = n → Q (.ref x) H'
theorem sc_run_from : FnScope ["branches", "values", "most", "reached", "rounds", "place"] ["branches", "values", "most"] (defScope s_run_from) := ⟨rfl, rfl, rfl, by decide +kernel, rfl, by decide +kernel, by decide +kernel⟩
theorem ok_run_from (T : Txt K mg a) : FnOk P w K mg base CX0 4 a.f_run_from a.d_run_from ["branches", "values", "most"] (sp_run_from a) := by
  refine T.F_run_from.ok sc_run_from (fun vs H Q E h => ?_) (fun cdv A outer s H vs Q E hr h => ?_)
  · obtain ⟨lb, m, n, k, bs, ns, rfl, _⟩ := h
    rfl
  · obtain ⟨lb, m, n, k, bs, ns, rfl, hb, ol, hm, hn, q⟩ := h
    have hr1 : Room 1 _ := hr.mono (by decide)
    have hr2 : Room 2 _ := hr.mono (by decide)
    refine ⟨_, pss_cons (ps_set (i := 3) sc_run_from.nd rfl (Or.inl rfl) (pv 1)) (pss_cons (ps_set (i := 4) sc_run_from.nd rfl (Or.inl rfl) pe_int)
      (pss_one (ps_while PassesOwn.never (pt_val pe_bl)
        (pss_cons (ps_set (i := 5) sc_run_from.nd rfl (Or.inl rfl) (pe_call (ok_chosen_place T) hr rfl T.g_chosen_place T.F_chosen_place.kp T.b_chosen_place .nil pass0 (pa_cons (pv 0) (pa_cons (pv 3) pa_nil))))
        (pss_cons (ps_if (pt_cmp (pc_isN (pv 5))) (pss_one (ps_ret (pe_newEnding T hr2 (pa_cons (pe_cst T.c_OVER) (pa_cons (pv 4) (pa_cons (pv 3) pa_nil)))))) pss_nil)
        (pss_cons (ps_if (pt_cmpR op_eq (pv 4) (pv 2) (nomark _)) (pss_one (ps_ret (pe_newEnding T hr2 (pa_cons (pe_cst T.c_CHOSEN_STILL) (pa_cons (pv 4) (pa_cons (pv 3) pa_nil)))))) pss_nil)
        (pss_cons (ps_set (i := 3) sc_run_from.nd rfl (Or.inl rfl) (pe_call (ok_moved T) hr1 rfl T.g_moved T.F_moved.kp T.b_moved .nil pass0 (pa_cons (pe_fld (pe_ix ix_list (pv 0) (pv 5) (fun _ _ => rfl)) rfl) (pa_cons (pv 3) pa_nil))))
        (pss_cons (ps_aug (i := 4) sc_run_from.nd rfl (Or.inl rfl) pe_int ip_add)
        (pss_one (ps_if (pt_val (pe_call (ok_some_beyond T) hr1 rfl T.g_some_beyond T.F_some_beyond.kp T.b_some_beyond .nil pass0 (pa_cons (pv 3) pa_nil))) (pss_one (ps_ret (pe_newEnding T hr2 (pa_cons (pe_cst T.c_BEYOND) (pa_cons (pv 4) (pa_cons (pv 3) pa_nil)))))) pss_nil)))))))))), ?_⟩
    obtain ⟨ys, hlb, hys⟩ := hb
    refine ⟨_, rfl, ?_⟩
    refine while_by (fun σ H' => ∃ (l : Addr) (vs : List Int) (d : Nat) (v5 : Option V), σ = [some (.ref lb), some (.ref m), some (.int (k : Nat)), some (.ref l), some (.int (d : Nat)), v5] ∧ Same H H' ∧ H' l = some (.lst (vs.map V.int)) ∧ vs.length = n ∧ d ≤ k ∧ VaaclBase.runLoop bs (k - d) vs d = VaaclBase.runLoop bs k ns 0)
      (fun σ H' => match σ[4]? with | some (some (V.int d)) => k - d.toNat | _ => 0) ⟨m, ns, 0, none, rfl, Same.refl H, hm, hn, Nat.zero_le _, rfl⟩ ?_ ?_
    · rintro σ H' ⟨l, vs, d, v5, rfl, hs, hl, hv, hd, ht⟩
      refine ⟨_, rfl, iteT ?_⟩
      rw [run_step] at ht
      have fin : ∀ {o : VaaclBase.Out} {z : Int} {l' : Addr} {H2 : Hp}, o = VaaclBase.runLoop bs k ns 0 → VaaclBase.howNumber o.how = z → o.values.length = n → Same H H2 → H2 l' = some (.lst (o.values.map V.int)) → rNewEnding a [.int z, .int (o.rounds : Nat), .ref l'] H2 Q := fun {o z l' H2} e1 e2 e3 s e4 => by
        refine ⟨l', z, _, rfl, fun x H3 s3 ⟨dx, e⟩ => q x H3 (s.trans s3) ?_ (by rw [← e1]; exact e3)⟩
        rw [← e1]
        refine ⟨dx, l', ?_, s3 _ _ e4⟩
        rw [e2]
        exact e
      refine ⟨_, rfl, _, rfl, lb, l, n, bs, vs, rfl, ⟨ys, hs _ _ hlb, hys.mono fun x b r => r.mono hs⟩, ol, hl, hv, fun H1 s1 => ?_⟩
      have s01 := hs.trans s1
      refine ⟨_, rfl, _, rfl, ?_⟩
      cases hc : VaaclBase.chosen bs vs with
      | none =>
        rw [hc] at ht
        exact iteT ⟨_, rfl, _, rfl, fin ht rfl hv s01 (s1 _ _ hl)⟩
      | some i =>
        rw [hc] at ht
        refine iteF ⟨_, rfl, _, rfl, rfl, _, rfl, ite2 (fun h1 => ?_) (fun h1 => ?_)⟩
        · have h1 : d = k := by have := decI.mp h1; omega
          subst h1
          rw [Nat.sub_self] at ht
          exact ⟨_, rfl, _, rfl, fin ht rfl hv s01 (s1 _ _ hl)⟩
        · have h1 : ¬ d = k := fun e => h1 (decI.mpr (by rw [e]))
          obtain ⟨m', hm'⟩ : ∃ m', k - d = m' + 1 := ⟨k - d - 1, by omega⟩
          rw [hm'] at ht
          have il := chosen_lt hc
          obtain ⟨y, hy⟩ : ∃ y, ys[i]? = some y := ⟨_, List.getElem?_eq_getElem (by rw [hys.1]; exact il)⟩
          obtain ⟨br, hbr, by'⟩ := hys.get hy
          have hat : VaaclBase.branchAt bs i = br := by unfold VaaclBase.branchAt; rw [hbr]; rfl
          have ob : OkB n br := by rw [← hat]; exact branchAt_ok ol il
          obtain ⟨lm, ⟨b1, C1, dx1, fs1, e1, e2, e3, e4, e5⟩, hmv⟩ := (by'.mono s01).move T
          have ht : (if VaaclBase.isBeyond (VaaclBase.moved (VaaclBase.branchAt bs i).move vs) then (⟨.beyond, VaaclBase.moved (VaaclBase.branchAt bs i).move vs, d + 1⟩ : VaaclBase.Out) else VaaclBase.runLoop bs m' (VaaclBase.moved (VaaclBase.branchAt bs i).move vs) (d + 1)) = VaaclBase.runLoop bs k ns 0 := ht
          rw [hat] at ht
          refine ⟨_, rfl, _, rfl, lb, _, _, _, rfl, rfl, SqL.of (s01 _ _ hlb), atI_nat (by rw [List.getElem?_map, hy]; rfl), b1, C1, dx1, fs1, _, e1, e2, e3, e4, e5, _, rfl, ?_⟩
          refine ⟨lm, l, br.move, vs, rfl, hmv, s1 _ _ hl, by rw [ob.2.2.1.1]; exact ol.lt, fun g hg j hj => by rw [hv]; exact ob.2.2.1.2 g hg j hj, fun D H2 s2 hD => ?_⟩
          have s02 := s01.trans s2
          have ml : (VaaclBase.moved br.move vs).length = n := by rw [moved_len, ob.2.2.1.1]
          refine ⟨_, rfl, _, _, rfl, rfl, ?_⟩
          refine ⟨_, rfl, D, _, rfl, hD, by rw [ml]; exact ol.lt, fun H3 s3 => ⟨_, rfl, ?_⟩⟩
          have s03 := s02.trans s3
          have ed : ((d : Nat) : Int) + 1 = ((d + 1 : Nat) : Int) := by omega
          cases hbey : VaaclBase.isBeyond (VaaclBase.moved br.move vs) with
          | true =>
            rw [hbey] at ht
            refine iteT ⟨_, rfl, _, rfl, ?_⟩
            show rNewEnding a [.int 1, .int (((d : Nat) : Int) + 1), .ref D] H3 Q
            rw [ed]
            exact fin ht rfl ml s03 (s3 _ _ hD)
          | false =>
            rw [hbey] at ht
            refine iteF ⟨⟨D, _, d + 1, some (optV (some i)), by rw [← ed]; rfl, s03, s3 _ _ hD, ml, by omega, ?_⟩, ?_⟩
            · rw [show k - (d + 1) = m' by omega]
              exact ht
            · show k - (((d : Nat) : Int) + 1).toNat < k - ((d : Nat) : Int).toNat
              omega
    · exact fun σ H Q Q' h q => by
        obtain ⟨c, e, q⟩ := q
        exact ⟨c, e, h _ _ q⟩
def OptFacts (a : Ad) (H : Hp) (v : V) : Option (List F) → Prop
  | none => v = .non
  | some fs => ∃ D, v = .ref D ∧ Facts a H D fs
def sp_usable_at_end (a : Ad) : Sp := fun vs H Q _ => ∃ (lb lc : Addr) (n : Nat) (bs : Loop) (c : Vaaclf.Claim), vs = [.ref lb, .ref lc] ∧ Desked a n H lb lc bs c ∧ ∀ (v : V) (H' : Hp), Same H H' → OptFacts a H' v (mEnd n (c.map mF) bs) → Q v H'
theorem sc_usable_at_end : FnScope ["branches", "claim", "usable", "branch", "known"] ["branches", "claim"] (defScope s_usable_at_end) := ⟨rfl, rfl, rfl, by decide +kernel, rfl, by decide +kernel, by decide +kernel⟩
theorem ok_usable_at_end (T : Txt K mg a) : FnOk P w K mg base CX0 5 a.f_usable_at_end a.d_usable_at_end ["branches", "claim"] (sp_usable_at_end a) := by
  refine T.F_usable_at_end.ok sc_usable_at_end (fun vs H Q E h => ?_) (fun cdv A outer s H vs Q E hr h => ?_)
  · obtain ⟨lb, lc, n, bs, c, rfl, _⟩ := h
    rfl
  · obtain ⟨lb, lc, n, bs, c, rfl, d, q⟩ := h
    refine ⟨_, pss_cons (ps_set (i := 2) sc_usable_at_end.nd rfl (Or.inl rfl) (pv 1))
      (pss_cons (ps_for PassesOwn.never rfl (pi_list (pv 0)) (pn 3 sc_usable_at_end.nd rfl rfl)
        (pss_cons (ps_set (i := 4) sc_usable_at_end.nd rfl (Or.inl rfl) (pe_call (ok_where_not_chosen T) hr rfl T.g_where_not_chosen T.F_where_not_chosen.kp T.b_where_not_chosen .nil pass0 (pa_cons (pv 3) pa_nil)))
        (pss_cons (ps_if (pt_cmpR op_eq (pe_callB call_len_seq rfl T.bl_len PySem.boot_len (pa_cons (pv 4) pa_nil)) pe_int (nomark _)) (pss_one (ps_ret pe_non)) pss_nil)
        (pss_one (ps_set (i := 2) sc_usable_at_end.nd rfl (Or.inl rfl) (pe_op op_cat (pv 2) (pv 4)))))))
      (pss_one (ps_ret (pv 2)))), ?_⟩
    obtain ⟨ys, hlb, hys⟩ := d.hb
    have hyl := hys.1
    have c6 := d.oc.len
    have l3 := d.ol.len
    refine ⟨_, rfl, _, rfl, lb, rfl, ⟨_, SqL.of hlb⟩, for_list (K := K) (xs := ys.map V.ref) (fun i σ H' => ∃ lu v3 v4 fs, σ = [some (.ref lb), some (.ref lc), some (.ref lu), v3, v4] ∧ Same H H' ∧ Facts a H' lu fs ∧ fs.length ≤ 6 + i ∧ mEnd n fs (bs.drop i) = mEnd n (c.map mF) bs)
      ⟨lc, none, none, c.map mF, rfl, Same.refl H, d.hc, by rw [List.length_map]; omega, by rw [List.drop_zero]⟩ (fun i σ H' _ ⟨_, _, _, _, _, h, _⟩ => SqL.of (h _ _ hlb)) ?_ ?_⟩
    · rintro i u σ H' hu ⟨lu, v3, v4, fs, rfl, hs, ⟨us, hlu, hus⟩, hlen, hend⟩
      obtain ⟨z, hz, rfl⟩ := map_get hu
      obtain ⟨bz, hbz, az⟩ := hys.get hz
      have obz : OkB n bz := d.ol.all bz (List.mem_of_getElem? hbz)
      have hdrop : bs.drop i = bz :: bs.drop (i + 1) := by
        obtain ⟨hi, e⟩ := List.getElem?_eq_some_iff.mp hbz
        rw [List.drop_eq_getElem_cons hi, e]
      have hcons : mEnd n fs (bz :: bs.drop (i + 1)) = match mWhere n bz with
        | [] => none
        | f :: r => mEnd n (fs ++ (f :: r)) (bs.drop (i + 1)) := rfl
      rw [hdrop, hcons] at hend
      refine ⟨_, rfl, z, n, bz, rfl, az.mono hs, d.ol.lt, obz.1, obz.2.1, fun l3' H3 s3 hW => ?_⟩
      have hw1 := mWhere_len n bz
      obtain ⟨ws, hl3, hws⟩ := hW
      have lws := hws.1
      refine ⟨_, rfl, l3', _, rfl, .inl (SqL.of hl3), rfl, _, rfl, ?_⟩
      rw [List.length_map, lws]
      cases hw : mWhere n bz with
      | nil =>
        rw [hw] at hend
        refine iteT (q _ H3 (hs.trans s3) ?_)
        have hend : none = mEnd n (c.map mF) bs := hend
        rw [← hend]
        rfl
      | cons f r =>
        rw [hw] at hend hws hw1
        have hend : mEnd n (fs ++ (f :: r)) (bs.drop (i + 1)) = mEnd n (c.map mF) bs := hend
        have lr : r = [] := by
          cases r with
          | nil => rfl
          | cons _ _ => simp at hw1
        subst lr
        refine iteF ⟨_, rfl, _, rfl, lu, l3', _, _, rfl, rfl, s3 _ _ hlu, hl3, ?_, fun l4 n4 => ?_⟩
        · have lus := hus.1
          have il : i < bs.length := (List.getElem?_eq_some_iff.mp hbz).1
          rw [List.length_map, List.length_map, lus, hws.1, sizeLine_eq]
          show _ + 1 ≤ _
          omega
        · have s4 := s3.trans (Same.upd n4 (o := .lst (us.map V.ref ++ ws.map V.ref)))
          refine ⟨l4, _, _, fs ++ [f], rfl, hs.trans s4, ⟨us ++ ws, by rw [List.map_append]; exact upd_same, (hus.mono fun x f r => r.mono s4).append (hws.mono fun x f r => r.mono (Same.upd n4))⟩, by rw [List.length_append]; show _ + 1 ≤ _; omega, hend⟩
    · rintro σ H' ⟨lu, v3, v4, fs, rfl, hs, hfs, _, hend⟩
      refine ⟨_, rfl, q _ H' hs ?_⟩
      rw [List.drop_eq_nil_of_le (by rw [List.length_map, hyl]; exact Nat.le_refl _)] at hend
      rw [← hend]
      exact ⟨lu, rfl, hfs⟩
end
end Lc
end
section
set_option Elab.async false
set_option linter.all false
set_option maxRecDepth 100000
set_option maxHeartbeats 1000000
namespace Lc
open PySem PySem.Spec PyProof.Rows L2
open VaaclBase (Test Branch Loop Values)
open Vaaclf (Fact)
section
variable {P : Program} {w : World} {K : PySem.W.Frag} {mg : Str → Option Value} {base : Heap} {a : Ad}
def brkFs (b f : Int) (l : Addr) : List (Str × V) := [("branch", .int b), ("broken", .int f), ("origin", .ref l)]
def sp_Break_init (a : Ad) : Sp := fun vs H Q _ => ∃ (p dx l : Addr) (o k : Int), vs = [.ref p, .int o, .int k, .ref l] ∧ H p = some (.ins a.C_Break dx []) ∧ ∀ H' : Hp, H' p = some (.ins a.C_Break dx (brkFs o k l)) → But p H H' → Q .non H'
theorem sc_Break_init : FnScope ["self", "branch", "broken", "origin"] ["self", "branch", "broken", "origin"] (defScope s_Break_init) := ⟨rfl, rfl, rfl, by decide +kernel, rfl, by decide +kernel, by decide +kernel⟩
theorem ok_Break_init (T : Txt K mg a) : FnOk P w K mg base CX0 1 a.f_Break_init a.d_Break_init ["self", "branch", "broken", "origin"] (sp_Break_init a) := by
  refine T.F_Break_init.ok sc_Break_init (fun vs H Q E h => ?_) (fun cdv A outer s H vs Q E hr h => ?_)
  · obtain ⟨p, dx, l, o, k, rfl, _⟩ := h
    rfl
  · obtain ⟨p, dx, l, o, k, rfl, hp, q⟩ := h
    refine ⟨_, pss_cons (ps_fld (pv 0) (pv 1) rfl) (pss_cons (ps_fld (pv 0) (pv 2) rfl) (pss_one (ps_fld (pv 0) (pv 3) rfl))), ?_⟩
    refine ⟨_, rfl, _, rfl, p, _, dx, _, rfl, hp, T.cl_Break, T.na_Break_branch, (by show 0 < 1000; decide), ?_⟩
    refine ⟨_, rfl, _, rfl, p, _, dx, _, rfl, upd_same, T.cl_Break, T.na_Break_broken, (by show 1 < 1000; decide), ?_⟩
    refine ⟨_, rfl, _, rfl, p, _, dx, _, rfl, upd_same, T.cl_Break, T.na_Break_origin, (by show 2 < 1000; decide), ?_⟩
    rw [upd_upd, upd_upd]
    exact q _ upd_same fun b o e hb => by rw [upd_ne hb]; exact e
def rNewBreak (a : Ad) : List V → Hp → VK → Prop := fun vs H Q => ∃ (l : Addr) (o k : Int), vs = [.int o, .int k, .ref l] ∧ ∀ (x : Addr) (H2 : Hp), Same H H2 → (∃ dx, H2 x = some (.ins a.C_Break dx (brkFs o k l))) → Q (.ref x) H2
theorem pe_newBreak {X : Cx} {p pos : Pos} {e : Expr} {es : List Expr} {t : TA} (T : Txt X.K X.mg a) (hr : Room 2 X.A) (ha : PA X (e :: es) t) (hg : Gl X "Break" := by rfl)
    (he : starEach (e :: es) X.env = (false, eval e X.env) :: starEach es X.env := by rfl) (hpl : (backTo pos (starEach es X.env)).any (·.1) = false := by rfl) :
    PE X (.Call (.Name "Break" p) (e :: es) [] pos) (tCB (rNewBreak a) t) :=
  pe_new T.mk_Break (ok_Break_init T) hr T.mg_Break T.b_Break_init ha (fun vs H Q ⟨l, o, k, e1, q⟩ y dx h1 h2 h3 => by
    subst e1
    exact ⟨y, dx, l, o, k, rfl, upd_same, fun H' h4 h5 => ⟨rfl, q y H' (But.made h1 h2 h5) ⟨dx, h4⟩⟩⟩) hg (by decide) he hpl
def sp_how_many_rows : Sp := fun vs H Q _ => ∃ (lo hi : Int) (n : Nat), vs = [.int lo, .int hi, .int (n : Nat)] ∧ n ≤ 4 ∧ 0 ≤ hi - lo + 1 ∧ hi - lo + 1 ≤ 1000000000 ∧ Q (.int ((hi - lo + 1) ^ n)) H
theorem sc_how_many_rows : FnScope ["low", "high", "counters", "size", "counter"] ["low", "high", "counters"] (defScope s_how_many_rows) := ⟨rfl, rfl, rfl, by decide +kernel, rfl, by decide +kernel, by decide +kernel⟩
theorem ok_how_many_rows (T : Txt K mg a) : FnOk P w K mg base CX0 1 a.f_how_many_rows a.d_how_many_rows ["low", "high", "counters"] sp_how_many_rows := by
  refine T.F_how_many_rows.ok sc_how_many_rows (fun vs H Q E h => ?_) (fun cdv A outer s H vs Q E hr h => ?_)
  · obtain ⟨lo, hi, n, rfl, _⟩ := h
    rfl
  · obtain ⟨lo, hi, n, rfl, n4, h0, h1, q⟩ := h
    refine ⟨_, pss_cons (ps_set (i := 3) sc_how_many_rows.nd rfl (Or.inl rfl) pe_int)
      (pss_cons (ps_for PassesOwn.never rfl (pi_range1 rfl T.bl_range (pa_cons (pv 2) pa_nil)) (pn 4 sc_how_many_rows.nd rfl rfl)
        (pss_one (ps_aug (i := 3) sc_how_many_rows.nd rfl (Or.inl rfl) (pe_op op_add (pe_op op_sub (pv 1) (pv 0)) pe_int) ip_mul)))
      (pss_one (ps_ret (pv 3)))), ?_⟩
    have nn : ((n : Nat) : Int).toNat = n := by omega
    refine ⟨_, rfl, (n : Int), rfl, by omega, by omega, ?_⟩
    rw [nn]
    refine for_range (lo := 0) (n := n) (fun i σ H' => H' = H ∧ ∃ v4, σ = [some (.int lo), some (.int hi), some (.int (n : Nat)), some (.int ((hi - lo + 1) ^ i)), v4]) ⟨rfl, none, by rw [Int.pow_zero]; rfl⟩ ?_ ?_
    · rintro i σ H' hi' ⟨rfl, v4, rfl⟩
      refine ⟨_, rfl, _, rfl, _, rfl, _, _, rfl, rfl, _, _, rfl, rfl, _, _, rfl, rfl, .inr ⟨by omega, by omega⟩, rfl, some (.int (0 + (i : Nat))), ?_⟩
      rw [Int.pow_succ]
      rfl
    · rintro σ H' ⟨rfl, v4, rfl⟩
      exact ⟨_, rfl, q⟩
def RowAt (H : Hp) (x : Addr) (r : Values) : Prop := H x = some (.lst (r.map V.int))
def RowsAt (H : Hp) (l : Addr) (rs : List Values) : Prop := ∃ xs : List Addr, H l = some (.lst (xs.map V.ref)) ∧ All2 (RowAt H) xs rs
theorem RowAt.mono {H H' : Hp} {x : Addr} {r : Values} (h : RowAt H x r) (s : Same H H') : RowAt H' x r := s _ _ h
def sp_rows_of_values : Sp := fun vs H Q _ => ∃ (lo hi : Int) (n : Nat), vs = [.int lo, .int hi, .int (n : Nat)] ∧ n ≤ 4 ∧ -1000000 ≤ lo ∧ lo ≤ hi ∧ hi ≤ 1000000 ∧ (hi - lo + 1).toNat ^ n ≤ 125 ∧ ∀ (D : Addr) (H' : Hp), Same H H' → RowsAt H' D (mRows lo (hi - lo + 1).toNat n) → Q (.ref D) H'
theorem sc_rows_of_values : FnScope ["low", "high", "counters", "rows", "counter", "longer", "row", "value"] ["low", "high", "counters"] (defScope s_rows_of_values) := ⟨rfl, rfl, rfl, by decide +kernel, rfl, by decide +kernel, by decide +kernel⟩
theorem ok_rows_of_values (T : Txt K mg a) : FnOk P w K mg base CX0 1 a.f_rows_of_values a.d_rows_of_values ["low", "high", "counters"] sp_rows_of_values := by
  refine T.F_rows_of_values.ok sc_rows_of_values (fun vs H Q E h => ?_) (fun cdv A outer s H vs Q E hr h => ?_)
  · obtain ⟨lo, hi, n, rfl, _⟩ := h
    rfl
  · obtain ⟨lo, hi, n, rfl, n4, l1, lh, h1, hpow, q⟩ := h
    refine ⟨_, pss_cons (ps_set (i := 3) sc_rows_of_values.nd rfl (Or.inl rfl) (pe_lst (pa_cons (pe_lst pa_nil) pa_nil)))
      (pss_cons (ps_for PassesOwn.never rfl (pi_range1 rfl T.bl_range (pa_cons (pv 2) pa_nil)) (pn 4 sc_rows_of_values.nd rfl rfl)
        (pss_cons (ps_set (i := 5) sc_rows_of_values.nd rfl (Or.inl rfl) (pe_lst pa_nil))
        (pss_cons (ps_for PassesOwn.never rfl (pi_list (pv 3)) (pn 6 sc_rows_of_values.nd rfl rfl)
          (pss_one (ps_for PassesOwn.never rfl (pi_range2 rfl T.bl_range (pa_cons (pv 0) (pa_cons (pe_op op_add (pv 1) pe_int) pa_nil))) (pn 7 sc_rows_of_values.nd rfl rfl)
            (pss_one (ps_expr (pe_bm PySem.F.plainAttrs_list PySem.F.slot_list_append PySem.F.type_list_append mt_append (pv 5) (pa_cons (pe_op op_cat (pv 6) (pe_lst (pa_cons (pv 7) pa_nil))) pa_nil)))))))
        (pss_one (ps_set (i := 3) sc_rows_of_values.nd rfl (Or.inl rfl) (pv 5))))))
      (pss_one (ps_ret (pv 3)))), ?_⟩
    generalize hmm : (hi - lo + 1).toNat = m at hpow q
    have m1 : 1 ≤ m := by omega
    have nn : ((n : Nat) : Int).toNat = n := by omega
    refine ⟨Nat.zero_le _, fun l0 hl0 => ⟨(by show 1 ≤ sizeLine; decide), fun l1' hl1 => ?_⟩⟩
    have s0 : Same H (upd (upd H l0 (.lst [])) l1' (.lst [.ref l0])) := (Same.upd hl0).trans (Same.upd hl1)
    refine ⟨_, rfl, (n : Int), rfl, by omega, by omega, ?_⟩
    rw [nn]
    refine for_range (lo := 0) (n := n) (fun i σ H' => ∃ lr v4 v5 v6 v7, σ = [some (.int lo), some (.int hi), some (.int (n : Nat)), some (.ref lr), v4, v5, v6, v7] ∧ Same H H' ∧ RowsAt H' lr (mRows lo m i))
      ⟨l1', none, none, none, none, rfl, s0, [l0], upd_same, All2.cons ((Same.upd hl1) _ _ upd_same) All2.nil⟩ ?_ ?_
    · rintro i σ H1 hi' ⟨lr, v4, v5, v6, v7, rfl, hs, xs, hlr, hxs⟩
      have pw : m ^ (i + 1) ≤ 125 := Nat.le_trans (Nat.pow_le_pow_right m1 hi') hpow
      refine ⟨Nat.zero_le _, fun D hD => ?_⟩
      have lx := hxs.1
      generalize hg : (fun row : Values => (List.range m).map fun (k : Nat) => row ++ [lo + (k : Int)]) = g
      have gl : ∀ r, (g r).length = m := fun r => by rw [← hg]; show ((List.range m).map _).length = m; rw [List.length_map, List.length_range]
      have rl : (mRows lo m i).length = m ^ i := mRows_length lo m i
      refine ⟨_, rfl, lr, rfl, ⟨_, SqL.of ((Same.upd hD) _ _ hlr)⟩, for_list (K := K) (xs := xs.map V.ref) (fun j σ H' => (∃ v4 v6 v7, σ = [some (.int lo), some (.int hi), some (.int (n : Nat)), some (.ref lr), v4, some (.ref D), v6, v7]) ∧ Same H1 H' ∧
        ∃ zs, H' D = some (.lst (zs.map V.ref)) ∧ All2 (RowAt (hid D H')) zs (((mRows lo m i).take j).flatMap g)) ⟨⟨_, _, _, rfl⟩, Same.upd hD, [], upd_same, All2.nil⟩ (fun j σ H' _ h => SqL.of (h.2.1 _ _ hlr)) ?_ ?_⟩
      · rintro j y σ H2 hy ⟨⟨v4, v6, v7, rfl⟩, hs2, zs, hz, hzs⟩
        obtain ⟨z, hzx, rfl⟩ := map_get hy
        obtain ⟨row, hrow, ra⟩ := hxs.get hzx
        have ra2 : RowAt H2 z row := ra.mono hs2
        have rowl : row.length = i := mRows_row lo m i row (List.mem_of_getElem? hrow)
        have jl : j < m ^ i := by rw [← rl]; exact (List.getElem?_eq_some_iff.mp hrow).1
        have e0 : (hi + 1 - lo).toNat = m := by omega
        refine ⟨_, rfl, _, rfl, _, _, rfl, rfl, lo, hi + 1, rfl, ⟨by omega, by omega, by omega, by omega⟩, ?_⟩
        rw [e0]
        have hin : ((mRows lo m i).take (j + 1)).flatMap g = ((mRows lo m i).take j).flatMap g ++ (List.range m).map fun (k : Nat) => row ++ [lo + (k : Int)] := by
          rw [take_snoc hrow, List.flatMap_append, List.flatMap_cons, List.flatMap_nil, List.append_nil, ← hg]
        have lz : (((mRows lo m i).take j).flatMap g).length = j * m := by
          rw [flat_const (m := m) _ (fun x _ => gl x), List.length_take, rl, Nat.min_eq_left (Nat.le_of_lt jl)]
        have jm : j * m + m ≤ 125 := by
          have : (j + 1) * m ≤ m ^ i * m := Nat.mul_le_mul_right m jl
          rw [← Nat.pow_succ, Nat.succ_eq_add_one, Nat.add_mul, Nat.one_mul] at this
          omega
        refine for_range (lo := lo) (n := m) (fun k σ H' => (∃ v4 v7, σ = [some (.int lo), some (.int hi), some (.int (n : Nat)), some (.ref lr), v4, some (.ref D), some (.ref z), v7]) ∧ Same H1 H' ∧
          ∃ zs, H' D = some (.lst (zs.map V.ref)) ∧ All2 (RowAt (hid D H')) zs (((mRows lo m i).take j).flatMap g ++ ((List.range m).take k).map fun (k : Nat) => row ++ [lo + (k : Int)])) ⟨⟨_, _, rfl⟩, hs2, zs, hz, by rw [List.take_zero, List.map_nil, List.append_nil]; exact hzs⟩ ?_ ?_
        · rintro k σ H3 hk ⟨⟨v4', v7', rfl⟩, hs3, zs3, hz3, hzs3⟩
          have l3 := hzs3.1
          refine ⟨_, rfl, .inl ⟨rfl, _, SqL.of hz3⟩, _, rfl, _, rfl, (by show 1 ≤ sizeLine; decide), fun lv hlv => ?_⟩
          have s4 : Same H3 (upd H3 lv (.lst [.int (lo + (k : Nat))])) := Same.upd hlv
          refine ⟨z, lv, _, _, rfl, rfl, s4 _ _ (ra.mono hs3), upd_same, ?_, fun lw hlw => ?_⟩
          · rw [List.length_map, rowl, sizeLine_eq]; show _ + 1 ≤ _; omega
          have s5 : Same H3 (upd (upd H3 lv (.lst [.int (lo + (k : Nat))])) lw (.lst (row.map V.int ++ [.int (lo + (k : Nat))]))) := s4.trans (Same.upd hlw)
          have lwD : lw ≠ D := fun e => by rw [e, s4 _ _ hz3] at hlw; cases hlw
          have ew : (upd (upd H3 lv (.lst [.int (lo + (k : Nat))])) lw (.lst (row.map V.int ++ [.int (lo + (k : Nat))]))) lw = some (.lst ((row ++ [lo + (k : Int)]).map V.int)) := by
            rw [upd_same, List.map_append]
            rfl
          generalize upd (upd H3 lv (.lst [.int (lo + (k : Nat))])) lw (.lst (row.map V.int ++ [.int (lo + (k : Nat))])) = H5 at s5 ew ⊢
          refine ⟨D, _, _, rfl, rfl, s5 _ _ hz3, ?_, ⟨_, _, rfl⟩, fun b o e => by rw [upd_ne (ne_of_none e hD)]; exact s5 _ _ (hs3 _ _ e), zs3 ++ [lw], ?_, ?_⟩
          · rw [List.length_map, l3, List.length_append, lz, List.length_map, List.length_take, List.length_range, sizeLine_eq]
            omega
          · rw [upd_same, List.map_append]
            rfl
          · have ek : (List.range m)[k]? = some k := List.getElem?_range hk
            rw [hid_upd, take_snoc ek, List.map_append, ← List.append_assoc]
            refine (hzs3.mono fun x v r => r.mono (hid_same s5)).append (All2.cons ?_ All2.nil)
            show hid D H5 lw = _
            rw [hid_ne lwD]
            exact ew
        · rintro σ H3 ⟨⟨v4', v7', rfl⟩, hs3, zs3, hz3, hzs3⟩
          refine ⟨⟨_, _, _, rfl⟩, hs3, zs3, hz3, ?_⟩
          rw [hin]
          rw [take_all (List.range m) (by rw [List.length_range]; exact Nat.le_refl _)] at hzs3
          exact hzs3
      · rintro σ H2 ⟨⟨v4, v6, v7, rfl⟩, hs2, zs, hz, hzs⟩
        refine ⟨_, rfl, D, _, _, _, _, rfl, hs.trans hs2, zs, hz, ?_⟩
        rw [take_all (mRows lo m i) (by rw [List.length_map, lx]; exact Nat.le_refl _), ← hg] at hzs
        exact hzs.mono fun x r h => h.mono hid_sub
    · rintro σ H' ⟨lr, v4, v5, v6, v7, rfl, hs, hrows⟩
      exact ⟨_, rfl, q lr H' hs hrows⟩
theorem mF_small {n : Nat} {c : Vaaclf.Claim} (oc : OkC n c) {ns : List Int} (hn : ns.length = n) : ∀ f ∈ c.map mF, f.ts.length = ns.length ∧ (∀ t ∈ f.ts, -5 ≤ t ∧ t ≤ 5) ∧ (f.k ≠ 0 → f.k ≠ 1 → 0 < f.d) := by
  intro f hf
  obtain ⟨g, hg, rfl⟩ := List.mem_map.mp hf
  exact ⟨by rw [mF_ts, (oc.all g hg).1, hn], fun t ht => by rw [mF_ts] at ht; exact oc.small g hg t ht, mF_div (oc.all g hg)⟩
def BreakAt (a : Ad) (H : Hp) (x : Addr) (b : Vaaclf.Break) : Prop := ∃ dx l, H x = some (.ins a.C_Break dx (brkFs (b.branch : Nat) (b.fact : Nat) l)) ∧ H l = some (.lst (b.values.map V.int))
def OptBreak (a : Ad) (H : Hp) (v : V) : Option Vaaclf.Break → Prop
  | none => v = .non
  | some b => ∃ x, v = .ref x ∧ BreakAt a H x b
def sp_break_at (a : Ad) : Sp := fun vs H Q _ => ∃ (lb lc m : Addr) (n : Nat) (bs : Loop) (c : Vaaclf.Claim) (ns : List Int), vs = [.ref lb, .ref lc, .ref m] ∧ Desked a n H lb lc bs c ∧ H m = some (.lst (ns.map V.int)) ∧ ns.length = n ∧ ∀ (v : V) (H' : Hp), Same H H' → OptBreak a H' v (Vaaclf.breakAt bs c ns) → Q v H'
theorem sc_break_at : FnScope ["branches", "claim", "values", "branch", "broken"] ["branches", "claim", "values"] (defScope s_break_at) := ⟨rfl, rfl, rfl, by decide +kernel, rfl, by decide +kernel, by decide +kernel⟩
theorem ok_break_at (T : Txt K mg a) : FnOk P w K mg base CX0 4 a.f_break_at a.d_break_at ["branches", "claim", "values"] (sp_break_at a) := by
  refine T.F_break_at.ok sc_break_at (fun vs H Q E h => ?_) (fun cdv A outer s H vs Q E hr h => ?_)
  · obtain ⟨lb, lc, m, n, bs, c, ns, rfl, _⟩ := h
    rfl
  · obtain ⟨lb, lc, m, n, bs, c, ns, rfl, d, hm, hn, q⟩ := h
    have hr1 : Room 1 _ := hr.mono (by decide)
    have hr2 : Room 2 _ := hr.mono (by decide)
    refine ⟨_, pss_cons (ps_if (pt_cmp (pc_notN (pe_call (ok_first_not_holding T) hr2 rfl T.g_first_not_holding T.F_first_not_holding.kp T.b_first_not_holding .nil pass0 (pa_cons (pv 1) (pa_cons (pv 2) pa_nil))))) (pss_one (ps_ret pe_non)) pss_nil)
      (pss_cons (ps_set (i := 3) sc_break_at.nd rfl (Or.inl rfl) (pe_call (ok_chosen_place T) hr rfl T.g_chosen_place T.F_chosen_place.kp T.b_chosen_place .nil pass0 (pa_cons (pv 0) (pa_cons (pv 2) pa_nil))))
      (pss_cons (ps_if (pt_cmp (pc_isN (pv 3))) (pss_one (ps_ret pe_non)) pss_nil)
      (pss_cons (ps_set (i := 4) sc_break_at.nd rfl (Or.inl rfl) (pe_call (ok_first_not_holding T) hr2 rfl T.g_first_not_holding T.F_first_not_holding.kp T.b_first_not_holding .nil pass0 (pa_cons (pv 1) (pa_cons
        (pe_call (ok_moved T) hr1 rfl T.g_moved T.F_moved.kp T.b_moved .nil pass0 (pa_cons (pe_fld (pe_ix ix_list (pv 0) (pv 3) (fun _ _ => rfl)) rfl) (pa_cons (pv 2) pa_nil))) pa_nil))))
      (pss_cons (ps_if (pt_cmp (pc_isN (pv 4))) (pss_one (ps_ret pe_non)) pss_nil)
      (pss_one (ps_ret (pe_newBreak T hr2 (pa_cons (pv 3) (pa_cons (pv 4) (pa_cons (pv 2) pa_nil)))))))))), ?_⟩
    have n4 : n ≤ 4 := d.ol.lt
    refine ⟨_, rfl, _, rfl, lc, m, _, ns, rfl, d.hc, hm, by omega, mF_small d.oc hn, fun H1 s1 => ?_⟩
    rw [firstNot_eq]
    have d1 := d.mono s1
    unfold Vaaclf.breakAt at q
    refine ⟨_, rfl, ?_⟩
    cases h0 : Vaaclf.firstNot c ns with
    | some i =>
      have ha : Vaaclf.allHold c ns = false := by
        cases e : Vaaclf.allHold c ns with
        | false => rfl
        | true =>
          have := (firstNot_none c ns).mpr e
          rw [h0] at this
          cases this
      refine iteT (q _ H1 s1 ?_)
      rw [ha]
      rfl
    | none =>
      have ha : Vaaclf.allHold c ns = true := (firstNot_none c ns).mp h0
      rw [ha] at q
      refine iteF ⟨_, rfl, _, rfl, lb, m, n, bs, ns, rfl, d1.hb, d.ol, s1 _ _ hm, hn, fun H2 s2 => ?_⟩
      have s12 := s1.trans s2
      have d2 := d1.mono s2
      refine ⟨_, rfl, _, rfl, ?_⟩
      cases hc : VaaclBase.chosen bs ns with
      | none =>
        rw [hc] at q
        exact iteT (q _ H2 s12 rfl)
      | some i =>
        rw [hc] at q
        have il := chosen_lt hc
        obtain ⟨ys, hlb, hys⟩ := d2.hb
        obtain ⟨y, hy⟩ : ∃ y, ys[i]? = some y := ⟨_, List.getElem?_eq_getElem (by rw [hys.1]; exact il)⟩
        obtain ⟨br, hbr, by'⟩ := hys.get hy
        have hat : VaaclBase.branchAt bs i = br := by unfold VaaclBase.branchAt; rw [hbr]; rfl
        have ob : OkB n br := by rw [← hat]; exact branchAt_ok d.ol il
        obtain ⟨lm, ⟨b1, C1, dx1, fs1, e1, e2, e3, e4, e5⟩, hmv⟩ := by'.move T
        refine iteF ⟨_, rfl, _, rfl, _, rfl, lb, _, _, _, rfl, rfl, SqL.of hlb, atI_nat (by rw [List.getElem?_map, hy]; rfl), b1, C1, dx1, fs1, _, e1, e2, e3, e4, e5, _, rfl, ?_⟩
        refine ⟨lm, m, br.move, ns, rfl, hmv, s12 _ _ hm, by rw [ob.2.2.1.1]; exact n4, fun g hg j hj => by rw [hn]; exact ob.2.2.1.2 g hg j hj, fun D H3 s3 hD => ?_⟩
        have ml : (VaaclBase.moved br.move ns).length = n := by rw [moved_len, ob.2.2.1.1]
        have d3 := d2.mono s3
        refine ⟨lc, D, _, _, rfl, d3.hc, hD, by rw [ml]; exact n4, mF_small d.oc ml, fun H4 s4 => ?_⟩
        rw [firstNot_eq]
        have s14 := s12.trans (s3.trans s4)
        have q : ∀ (v : V) (H' : Hp), Same H H' → OptBreak a H' v ((Vaaclf.firstNot c (VaaclBase.moved (VaaclBase.branchAt bs i).move ns)).map fun f => ⟨ns, i, f⟩) → Q v H' := q
        rw [hat] at q
        refine ⟨_, rfl, _, rfl, ?_⟩
        cases hf : Vaaclf.firstNot c (VaaclBase.moved br.move ns) with
        | none =>
          rw [hf] at q
          exact iteT (q _ H4 s14 rfl)
        | some f =>
          rw [hf] at q
          refine iteF ⟨_, rfl, _, rfl, _, rfl, m, _, _, rfl, fun x H5 s5 ⟨dx, e⟩ => q _ H5 (s14.trans s5) ⟨x, rfl, dx, m, e, s5 _ _ (s14 _ _ hm)⟩⟩
def sp_first_break (a : Ad) : Sp := fun vs H Q _ => ∃ (lb lc lr : Addr) (n : Nat) (bs : Loop) (c : Vaaclf.Claim) (rs : List Values), vs = [.ref lb, .ref lc, .ref lr] ∧ Desked a n H lb lc bs c ∧ RowsAt H lr rs ∧ (∀ r ∈ rs, r.length = n) ∧ ∀ (v : V) (H' : Hp), Same H H' → OptBreak a H' v (rs.findSome? (Vaaclf.breakAt bs c)) → Q v H'
theorem sc_first_break : FnScope ["branches", "claim", "rows", "row", "found"] ["branches", "claim", "rows"] (defScope s_first_break) := ⟨rfl, rfl, rfl, by decide +kernel, rfl, by decide +kernel, by decide +kernel⟩
theorem ok_first_break (T : Txt K mg a) : FnOk P w K mg base CX0 5 a.f_first_break a.d_first_break ["branches", "claim", "rows"] (sp_first_break a) := by
  refine T.F_first_break.ok sc_first_break (fun vs H Q E h => ?_) (fun cdv A outer s H vs Q E hr h => ?_)
  · obtain ⟨lb, lc, lr, n, bs, c, rs, rfl, _⟩ := h
    rfl
  · obtain ⟨lb, lc, lr, n, bs, c, rs, rfl, d, ⟨xs, hlr, hxs⟩, hn, q⟩ := h
    refine ⟨_, pss_cons (ps_for PassesOwn.never rfl (pi_list (pv 2)) (pn 3 sc_first_break.nd rfl rfl)
        (pss_cons (ps_set (i := 4) sc_first_break.nd rfl (Or.inl rfl) (pe_call (ok_break_at T) hr rfl T.g_break_at T.F_break_at.kp T.b_break_at .nil pass0 (pa_cons (pv 0) (pa_cons (pv 1) (pa_cons (pv 3) pa_nil)))))
        (pss_one (ps_if (pt_cmp (pc_notN (pv 4))) (pss_one (ps_ret (pv 4))) pss_nil))))
      (pss_one (ps_ret pe_non)), ?_⟩
    refine ⟨_, rfl, lr, rfl, ⟨_, SqL.of hlr⟩, for_list (K := K) (xs := xs.map V.ref) (fun i σ H' => (∃ v3 v4, σ = [some (.ref lb), some (.ref lc), some (.ref lr), v3, v4]) ∧ Same H H' ∧ ∀ (j : Nat) r, j < i → rs[j]? = some r → Vaaclf.breakAt bs c r = none) ⟨⟨none, none, rfl⟩, Same.refl H, fun j f h => absurd h (Nat.not_lt_zero _)⟩ (fun i σ H' _ h => SqL.of (h.2.1 _ _ hlr)) ?_ ?_⟩
    · rintro i y σ H' hi ⟨⟨v3, v4, rfl⟩, hs, hn'⟩
      obtain ⟨z, hz, rfl⟩ := map_get hi
      obtain ⟨r, hr', ra⟩ := hxs.get hz
      refine ⟨_, rfl, _, rfl, _, rfl, lb, lc, z, n, bs, c, r, rfl, d.mono hs, ra.mono hs, hn r (List.mem_of_getElem? hr'), fun v H1 s1 hv => ?_⟩
      have s01 := hs.trans s1
      refine ⟨_, rfl, _, rfl, ?_⟩
      cases hb : Vaaclf.breakAt bs c r with
      | none =>
        rw [hb] at hv
        have hv : v = .non := hv
        subst hv
        refine iteF ⟨⟨_, _, rfl⟩, s01, fun j r' hj hr2 => ?_⟩
        rcases Nat.lt_succ_iff_lt_or_eq.mp hj with h | h
        · exact hn' j r' h hr2
        · subst h
          rw [hr'] at hr2
          cases hr2
          exact hb
      | some b =>
        rw [hb] at hv
        obtain ⟨x, rfl, hx⟩ := hv
        refine iteT ⟨_, rfl, q _ H1 s01 ?_⟩
        rw [findSome_at hr' hb fun j r' hj hr2 => hn' j r' hj hr2]
        exact ⟨x, rfl, hx⟩
    · rintro σ H' ⟨⟨v3, v4, rfl⟩, hs, hn'⟩
      refine q _ H' hs ?_
      rw [findSome_none_at fun j r hr' => hn' j r (by rw [List.length_map, hxs.1]; exact (List.getElem?_eq_some_iff.mp hr').1) hr']
      rfl
end
end Lc
end
section
set_option Elab.async false
set_option linter.all false
set_option maxRecDepth 100000
set_option maxHeartbeats 1000000
namespace Lc
open PySem PySem.Spec PyProof.Rows L2
open VaaclBase (Test Branch Loop Values Reader)
open Vaaclf (Fact)
def hidL (zs : List Addr) (H : Hp) : Hp := fun b => if zs.contains b then none else H b
section
variable {zs : List Addr} {H H' : Hp} {b d : Addr} {o : HO}
theorem hidL_get (e : hidL zs H b = some o) : b ∉ zs ∧ H b = some o := by
  unfold hidL at e
  split at e
  · cases e
  · rename_i n
    exact ⟨fun m => n (by simpa using m), e⟩
theorem hidL_mk (n : b ∉ zs) (e : H b = some o) : hidL zs H b = some o := by
  unfold hidL
  rw [if_neg (by simpa using n)]
  exact e
theorem hidL_sub : Same (hidL zs H) H := fun _ _ e => (hidL_get e).2
theorem hidL_same (s : Same H H') : Same (hidL zs H) (hidL zs H') := fun _ _ e => let ⟨h1, h2⟩ := hidL_get e; hidL_mk h1 (s _ _ h2)
theorem hidL_but (s : But d H H') (m : d ∈ zs) : Same (hidL zs H) (hidL zs H') := fun b _ e => let ⟨h1, h2⟩ := hidL_get e; hidL_mk h1 (s _ _ h2 fun z => h1 (z ▸ m))
theorem hidL_hid (s : But d H H') : Same (hid d (hidL zs H)) (hid d (hidL zs H')) := fun b _ e => by
  by_cases hb : b = d
  · unfold hid at e
    rw [if_pos hb] at e
    cases e
  · rw [hid_ne hb] at e ⊢
    obtain ⟨h1, h2⟩ := hidL_get e
    exact hidL_mk h1 (s _ _ h2 hb)
end
def deskFs (n : Int) (lb lc : Addr) : List (Str × V) := [("counters", .int n), ("branches", .ref lb), ("claim", .ref lc)]
structure DeskAt (a : Ad) (H : Hp) (d : Addr) (st : Vaaclf.State) : Prop where
  ex : ∃ dx lb lc, H d = some (.ins a.C_Desk dx (deskFs (st.counters : Nat) lb lc)) ∧ Desked a st.counters (hid d H) lb lc st.loop st.claim
theorem DeskAt.mono {a : Ad} {H H' : Hp} {d : Addr} {st : Vaaclf.State} (h : DeskAt a H d st) (s : Same H H') : DeskAt a H' d st := let ⟨dx, lb, lc, h1, h2⟩ := h.ex; ⟨dx, lb, lc, s _ _ h1, h2.mono (hid_same s)⟩
structure DeskOf (a : Ad) (H : Hp) (d : Addr) (zs : List Addr) (st : Vaaclf.State) : Prop where
  at_ : DeskAt a (hidL zs H) d st
  has : ∀ z ∈ zs, H z ≠ none
section
variable {K : PySem.W.Frag} {mg : Str → Option Value} {a : Ad} {H H' : Hp} {d : Addr} {zs : List Addr} {st : Vaaclf.State}
theorem DeskAt.flds (h : DeskAt a H d st) (T : Txt K mg a) : ∃ lb lc, Fld K H (.ref d) "counters" (.int (st.counters : Nat)) ∧ Fld K H (.ref d) "branches" (.ref lb) ∧ Fld K H (.ref d) "claim" (.ref lc) ∧ Desked a st.counters H lb lc st.loop st.claim := by
  obtain ⟨dx, lb, lc, h1, h2⟩ := h.ex
  exact ⟨lb, lc, ⟨d, _, dx, _, rfl, h1, T.cl_Desk, T.na_Desk_counters, rfl⟩, ⟨d, _, dx, _, rfl, h1, T.cl_Desk, T.na_Desk_branches, rfl⟩, ⟨d, _, dx, _, rfl, h1, T.cl_Desk, T.na_Desk_claim, rfl⟩, h2.mono hid_sub⟩
theorem _root_.L2.Fld.mono {x : V} {f : Str} {v : V} (h : Fld K H x f v) (s : Same H H') : Fld K H' x f v := let ⟨b, C, dx, fs, e1, e2, e3, e4, e5⟩ := h; ⟨b, C, dx, fs, e1, s _ _ e2, e3, e4, e5⟩
theorem DeskOf.here (h : DeskOf a H d zs st) : DeskAt a H d st := h.at_.mono hidL_sub
end
def AnsPost (H : Hp) (xs : List Int) (Q : VK) : Prop := ∀ (D : Addr) (H' : Hp), H D = none → Same H H' → H' D = some (.lst (xs.map V.int)) → Q (.ref D) H'
def StepPost (a : Ad) (d : Addr) (zs : List Addr) (st : Vaaclf.State) (c : Vaaclf.Call) (H : Hp) (Q : VK) : Prop :=
  ∀ (D : Addr) (H' : Hp), H D = none → But d H H' → DeskAt a (hidL zs H') d (Vaaclf.step st c).1 → H' D = some (.lst ((Vaaclf.step st c).2.map V.int)) → Q (.ref D) H'
section
variable {a : Ad} {H H1 : Hp} {d : Addr} {zs : List Addr} {st : Vaaclf.State} {c : Vaaclf.Call} {Q : VK} {xs : List Int}
theorem StepPost.tell (h : StepPost a d zs st c H Q) (hd : DeskOf a H d zs st) (e1 : (Vaaclf.step st c).1 = st) (e2 : (Vaaclf.step st c).2 = xs) : AnsPost H xs Q := fun D H' n s e => h D H' n (But.of s) (by rw [e1]; exact hd.at_.mono (hidL_same s)) (by rw [e2]; exact e)
theorem AnsPost.shift (h : AnsPost H xs Q) (s : Same H H1) : AnsPost H1 xs Q := fun D H' n s' e => h D H' (Dom.same s _ n) (s.trans s') e
theorem AnsPost.new (h : AnsPost H xs Q) {D : Addr} (n : H D = none) : Q (.ref D) (upd H D (.lst (xs.map V.int))) := h D _ n (Same.upd n) upd_same
end
section
variable {P : Program} {w : World} {K : PySem.W.Frag} {mg : Str → Option Value} {base : Heap} {a : Ad}
def sp_uses_as_numbers (a : Ad) : Sp := fun vs H Q _ => ∃ (v : V) (o : Option (List U)), vs = [v] ∧ OptUses a H v o ∧ (∀ us, o = some us → us.length ≤ 100) ∧ AnsPost H (Vaaclf.usesTold (o.map (List.map toUse))) Q
theorem sc_uses_as_numbers : FnScope ["uses", "numbers", "use"] ["uses"] (defScope s_uses_as_numbers) := ⟨rfl, rfl, rfl, by decide +kernel, rfl, by decide +kernel, by decide +kernel⟩
theorem ok_uses_as_numbers (T : Txt K mg a) : FnOk P w K mg base CX0 1 a.f_uses_as_numbers a.d_uses_as_numbers ["uses"] (sp_uses_as_numbers a) := by
  refine T.F_uses_as_numbers.ok sc_uses_as_numbers (fun vs H Q E h => ?_) (fun cdv A outer s H vs Q E hr h => ?_)
  · obtain ⟨v, o, rfl, _⟩ := h
    rfl
  · obtain ⟨v, o, rfl, ho, h100, q⟩ := h
    refine ⟨_, pss_cons (ps_if (pt_cmp (pc_isN (pv 0))) (pss_one (ps_ret (pe_lst (pa_cons pe_int pa_nil)))) pss_nil)
      (pss_cons (ps_set (i := 1) sc_uses_as_numbers.nd rfl (Or.inl rfl) (pe_lst (pa_cons pe_int (pa_cons (pe_callB call_len_seq rfl T.bl_len PySem.boot_len (pa_cons (pv 0) pa_nil)) pa_nil))))
      (pss_cons (ps_for PassesOwn.never rfl (pi_list (pv 0)) (pn 2 sc_uses_as_numbers.nd rfl rfl)
        (pss_cons (ps_expr (pe_bm PySem.F.plainAttrs_list PySem.F.slot_list_append PySem.F.type_list_append mt_append (pv 1) (pa_cons (pg 2) pa_nil)))
        (pss_one (ps_expr (pe_bm PySem.F.plainAttrs_list PySem.F.slot_list_append PySem.F.type_list_append mt_append (pv 1) (pa_cons (pg 2) pa_nil))))))
      (pss_one (ps_ret (pv 1))))), ?_⟩
    refine ⟨_, rfl, _, rfl, ?_⟩
    cases o with
    | none =>
      have ho : v = .non := ho
      subst ho
      exact iteT ⟨(by show 1 ≤ sizeLine; decide), fun D hD => q.new hD⟩
    | some us =>
      obtain ⟨l, rfl, xs, hl, hx⟩ := ho
      have u100 := h100 us rfl
      have hlen := hx.1
      refine iteF ⟨_, rfl, l, _, rfl, .inl (SqL.of hl), (by show 2 ≤ sizeLine; decide), fun D hD => ?_⟩
      generalize hg : (fun u : U => [((u.place : Nat) : Int), u.often]) = g
      have gl : ∀ u, (g u).length = 2 := fun u => by rw [← hg]; rfl
      refine ⟨_, rfl, l, rfl, ⟨_, SqL.of ((Same.upd hD) _ _ hl)⟩, for_list (K := K) (xs := xs.map V.ref) (fun i σ H' => (∃ v2, σ = [some (.ref l), some (.ref D), v2]) ∧ Same H H' ∧ H' D = some (.lst (((1 :: (us.length : Int) :: (us.take i).flatMap g)).map V.int))) ⟨⟨_, rfl⟩, Same.upd hD, ?_⟩ (fun i σ H' _ h => SqL.of (h.2.1 _ _ hl)) ?_ ?_⟩
      · rw [upd_same, List.length_map, hlen]
        rfl
      · rintro i y σ H' hi ⟨⟨v2, rfl⟩, hs, hD'⟩
        obtain ⟨z, hz, rfl⟩ := map_get hi
        obtain ⟨u, hu, ua⟩ := hx.get hz
        have il : i < us.length := (List.getElem?_eq_some_iff.mp hu).1
        have fl : ((us.take i).flatMap g).length = i * 2 := by rw [flat_const (m := 2) _ (fun x _ => gl x), List.length_take, Nat.min_eq_left (Nat.le_of_lt il)]
        have s1 : Same H (upd H' D (.lst ((1 :: (us.length : Int) :: (us.take i).flatMap g).map V.int ++ [.int (u.place : Nat)]))) := fun b o e => by rw [upd_ne (ne_of_none e hD)]; exact hs _ _ e
        refine ⟨_, rfl, .inl ⟨rfl, _, SqL.of hD'⟩, _, rfl, _, (ua.mono hs).place T, D, _, _, rfl, rfl, hD', ?_, ?_⟩
        · rw [List.length_map, List.length_cons, List.length_cons, fl, sizeLine_eq]; omega
        refine ⟨_, rfl, .inl ⟨rfl, _, SqL.of upd_same⟩, _, rfl, _, (ua.mono s1).often T, D, _, _, rfl, rfl, upd_same, ?_, ?_⟩
        · rw [List.length_append, List.length_map, List.length_cons, List.length_cons, fl, sizeLine_eq]; show _ + 1 < _; omega
        refine ⟨⟨_, rfl⟩, fun b o e => by rw [upd_ne (ne_of_none e hD)]; exact s1 _ _ e, ?_⟩
        rw [upd_same, take_snoc hu, List.flatMap_append, List.flatMap_cons, List.flatMap_nil, List.append_nil, ← hg]
        simp
      · rintro σ H' ⟨⟨v2, rfl⟩, hs, hD'⟩
        refine ⟨_, rfl, q D H' hD hs ?_⟩
        rw [hD', take_all us (by rw [List.length_map, hlen]; exact Nat.le_refl _), ← hg]
        show _ = some (HO.lst ((1 :: ((us.map toUse).length : Int) :: (us.map toUse).flatMap fun u => [Vaaclf.int u.fact, u.times]).map V.int))
        rw [List.length_map, List.flatMap_map]
        rfl
def sp_claim_as_numbers (a : Ad) : Sp := fun vs H Q _ => ∃ (l : Addr) (c : Vaaclf.Claim) (n : Nat), vs = [.ref l] ∧ ClaimAt a H l c ∧ OkC n c ∧ n ≤ 4 ∧ AnsPost H (Vaaclf.flatClaim c) Q
theorem sc_claim_as_numbers : FnScope ["claim", "numbers", "fact"] ["claim"] (defScope s_claim_as_numbers) := ⟨rfl, rfl, rfl, by decide +kernel, rfl, by decide +kernel, by decide +kernel⟩
theorem told_len {n : Nat} {f : Fact} (of : OkF n f) : (Vaaclf.flatFact f).length ≤ n + 3 := by
  unfold Vaaclf.flatFact
  rw [List.length_append, of.1]
  cases f.kind <;> simp [Vaaclf.flatKind]
theorem ok_claim_as_numbers (T : Txt K mg a) : FnOk P w K mg base CX0 2 a.f_claim_as_numbers a.d_claim_as_numbers ["claim"] (sp_claim_as_numbers a) := by
  refine T.F_claim_as_numbers.ok sc_claim_as_numbers (fun vs H Q E h => ?_) (fun cdv A outer s H vs Q E hr h => ?_)
  · obtain ⟨l, c, n, rfl, _⟩ := h
    rfl
  · obtain ⟨l, c, n, rfl, ⟨xs, hl, hx⟩, oc, n4, q⟩ := h
    refine ⟨_, pss_cons (ps_set (i := 1) sc_claim_as_numbers.nd rfl (Or.inl rfl) (pe_lst (pa_cons (pe_callB call_len_seq rfl T.bl_len PySem.boot_len (pa_cons (pv 0) pa_nil)) pa_nil)))
      (pss_cons (ps_for PassesOwn.never rfl (pi_list (pv 0)) (pn 2 sc_claim_as_numbers.nd rfl rfl)
        (pss_one (ps_expr (pe_bm PySem.F.plainAttrs_list PySem.F.slot_list_extend PySem.F.type_list_extend mt_extend (pv 1) (pa_cons (pe_call (ok_fact_as_numbers T) hr rfl T.g_fact_as_numbers T.F_fact_as_numbers.kp T.b_fact_as_numbers .nil pass0 (pa_cons (pv 2) pa_nil)) pa_nil)))))
      (pss_one (ps_ret (pv 1)))), ?_⟩
    have hlen : xs.length = c.length := by have := hx.1; rw [List.length_map] at this; exact this
    have c6 := oc.len
    refine ⟨_, rfl, l, _, rfl, .inl (SqL.of hl), (by show 1 ≤ sizeLine; decide), fun D hD => ?_⟩
    refine ⟨_, rfl, l, rfl, ⟨_, SqL.of ((Same.upd hD) _ _ hl)⟩, for_list (K := K) (xs := xs.map V.ref) (fun i σ H' => (∃ v2, σ = [some (.ref l), some (.ref D), v2]) ∧ Same H H' ∧ H' D = some (.lst ((((c.length : Int) :: (c.take i).flatMap Vaaclf.flatFact)).map V.int)) ∧ ((c.take i).flatMap Vaaclf.flatFact).length ≤ i * 7) ⟨⟨_, rfl⟩, Same.upd hD, ?_, Nat.zero_le _⟩ (fun i σ H' _ h => SqL.of (h.2.1 _ _ hl)) ?_ ?_⟩
    · rw [upd_same, List.length_map, hlen]
      rfl
    · rintro i y σ H' hi ⟨⟨v2, rfl⟩, hs, hD', hb⟩
      obtain ⟨z, hz, rfl⟩ := map_get hi
      obtain ⟨f', hf', fa⟩ := hx.get hz
      obtain ⟨f, hf, rfl⟩ := map_get hf'
      have il : i < c.length := (List.getElem?_eq_some_iff.mp hf).1
      have of := oc.all f (List.mem_of_getElem? hf)
      have tl := told_len of
      refine ⟨_, rfl, .inl ⟨rfl, _, SqL.of hD'⟩, _, rfl, z, mF f, rfl, fa.mono hs, by rw [mF_ts, of.1]; exact n4, fun L H2 s2 hL => ?_⟩
      rw [mTold_eq] at hL
      refine ⟨D, L, _, _, rfl, rfl, s2 _ _ hD', hL, ?_, ⟨_, rfl⟩, fun b o e => by rw [upd_ne (ne_of_none e hD)]; exact s2 _ _ (hs _ _ e), ?_, ?_⟩
      · rw [List.length_map, List.length_cons, List.length_map, sizeLine_eq]; omega
      · rw [upd_same, take_snoc hf, List.flatMap_append, List.flatMap_cons, List.flatMap_nil, List.append_nil, ← List.map_append]
        rfl
      · rw [take_snoc hf, List.flatMap_append, List.flatMap_cons, List.flatMap_nil, List.append_nil, List.length_append]
        omega
    · rintro σ H' ⟨⟨v2, rfl⟩, hs, hD', _⟩
      refine ⟨_, rfl, q D H' hD hs ?_⟩
      rw [hD', take_all c (by rw [List.length_map, hlen]; exact Nat.le_refl _)]
      rfl
def sp_never (a : Ad) : Sp := fun vs H Q _ => vs = [] ∧ ∀ (x : Addr) (H' : Hp), Same H H' → BranchAt a 1 (fresh H H') x branch0 → Q (.ref x) H'
theorem ok_never (T : Txt K mg a) : FnOk P w K mg base CX0 3 a.f_never_chosen a.d_never_chosen [] (sp_never a) := by
  refine T.F_never_chosen.ok sc_never_chosen (fun vs H Q E h => ?_) (fun cdv A outer s H vs Q E hr h => ?_)
  · obtain ⟨rfl, _⟩ := h
    rfl
  · obtain ⟨rfl, q⟩ := h
    refine ⟨_, pss_cons (ps_set (i := 0) sc_never_chosen.nd rfl (Or.inl rfl) (pe_lst (pa_cons (pe_newFactN T hr (pa_cons (pe_lst (pa_cons pe_int pa_nil)) (pa_cons (pe_cst T.c_AT_MOST) (pa_cons pe_int (pa_cons (pe_un un_neg pe_int) pa_nil)))))
        (pa_cons (pe_newFactN T hr (pa_cons (pe_lst (pa_cons (pe_un un_neg pe_int) pa_nil)) (pa_cons (pe_cst T.c_AT_MOST) (pa_cons pe_int (pa_cons pe_int pa_nil))))) pa_nil))))
      (pss_one (ps_ret (pe_newBranchN T hr (pa_cons (pv 0) (pa_cons (pe_lst (pa_cons (pe_newGivenN T hr (pa_cons pe_int (pa_cons pe_int pa_nil))) pa_nil)) pa_nil))))), ?_⟩
    refine ⟨(by show 1 ≤ sizeLine; decide), fun l1 n1 => ⟨_, rfl, l1, _, _, _, rfl, fun x1 H1 f1 s1 ⟨d1, e1⟩ => ?_⟩⟩
    refine ⟨_, rfl, (by show 1 ≤ sizeLine; decide), fun l2 n2 => ⟨l2, _, _, _, rfl, fun x2 H2 f2 s2 ⟨d2, e2⟩ => ?_⟩⟩
    refine ⟨(by show 2 ≤ sizeLine; decide), fun l3 n3 => ?_⟩
    refine ⟨_, rfl, _, _, rfl, fun x3 H3 f3 s3 ⟨d3, e3⟩ => ⟨(by show 1 ≤ sizeLine; decide), fun l4 n4 => ?_⟩⟩
    refine ⟨l3, l4, rfl, fun x4 H4 f4 s4 ⟨d4, e4⟩ => ?_⟩
    have t1 : Same H H1 := (Same.upd n1).trans s1
    have t2 : Same H1 H2 := (Same.upd n2).trans s2
    have t3 : Same H2 H3 := (Same.upd n3).trans s3
    have t4 : Same H3 H4 := (Same.upd n4).trans s4
    have t12 := t1.trans t2
    have t13 := t12.trans t3
    refine q x4 H4 (t13.trans t4) ⟨d4, l3, l4, fresh_mk (Dom.same (t13.trans (Same.upd n4)) _ f4) e4, ⟨[x1, x2], fresh_mk (Dom.same t12 _ n3) ?_, All2.cons ⟨d1, l1, fresh_mk (Dom.same (Same.upd n1) _ f1) ?_, fresh_mk n1 ?_⟩ (All2.cons ⟨d2, l2, fresh_mk (Dom.same (t1.trans (Same.upd n2)) _ f2) ?_, fresh_mk (Dom.same t1 _ n2) ?_⟩ All2.nil)⟩,
      ⟨[x3], fresh_mk (Dom.same t13 _ n4) ?_, All2.cons ⟨d3, fresh_mk (Dom.same (t12.trans (Same.upd n3)) _ f3) ?_⟩ All2.nil⟩⟩
    · exact t4 _ _ (s3 _ _ upd_same)
    · exact t4 _ _ (t3 _ _ (t2 _ _ e1))
    · exact t4 _ _ (t3 _ _ (t2 _ _ (s1 _ _ upd_same)))
    · exact t4 _ _ (t3 _ _ e2)
    · exact t4 _ _ (t3 _ _ (s2 _ _ upd_same))
    · exact s4 _ _ upd_same
    · exact t4 _ _ e3
def sp_Desk_init (a : Ad) : Sp := fun vs H Q _ => ∃ (p dx : Addr), vs = [.ref p] ∧ H p = some (.ins a.C_Desk dx []) ∧ ∀ (H' : Hp), But p H H' → (∃ lb lc, H' p = some (.ins a.C_Desk dx (deskFs 1 lb lc)) ∧ Branches a 1 (fresh H H') lb [branch0] ∧ ClaimAt a (fresh H H') lc []) → Q .non H'
theorem sc_Desk_init : FnScope ["self"] ["self"] (defScope s_Desk_init) := ⟨rfl, rfl, rfl, by decide +kernel, rfl, by decide +kernel, by decide +kernel⟩
theorem ok_Desk_init (T : Txt K mg a) : FnOk P w K mg base CX0 4 a.f_Desk_init a.d_Desk_init ["self"] (sp_Desk_init a) := by
  refine T.F_Desk_init.ok sc_Desk_init (fun vs H Q E h => ?_) (fun cdv A outer s H vs Q E hr h => ?_)
  · obtain ⟨p, dx, rfl, _⟩ := h
    rfl
  · obtain ⟨p, dx, rfl, hp, q⟩ := h
    refine ⟨_, pss_cons (ps_fld (pv 0) pe_int rfl) (pss_cons (ps_fld (pv 0) (pe_lst (pa_cons (pe_call0 (ok_never T) hr rfl T.g_never_chosen T.F_never_chosen.kp T.b_never_chosen .nil pass0) pa_nil)) rfl) (pss_one (ps_fld (pv 0) (pe_lst pa_nil) rfl))), ?_⟩
    refine ⟨_, rfl, p, _, dx, _, rfl, hp, T.cl_Desk, T.na_Desk_counters, (by show 0 < 1000; decide), ?_⟩
    generalize hH1 : upd H p _ = H1
    have b1 : But p H H1 := by rw [← hH1]; exact But.upd
    have p1 : H1 p = some (.ins a.C_Desk dx [("counters", .int 1)]) := by rw [← hH1]; exact upd_same
    have pn1 : H1 p ≠ none := by rw [p1]; intro z; cases z
    have d1 : Dom H H1 := Dom.but b1 pn1
    refine ⟨rfl, fun x H2 s2 hx => ⟨(by show 1 ≤ sizeLine; decide), fun l hl => ?_⟩⟩
    have s3 := s2.trans (Same.upd hl (o := .lst [.ref x]))
    refine ⟨_, rfl, p, _, dx, _, rfl, s3 _ _ p1, T.cl_Desk, T.na_Desk_branches, (by show 1 < 1000; decide), ?_⟩
    have lp : l ≠ p := fun z => by rw [z, s2 _ _ p1] at hl; cases hl
    generalize hH4 : upd (upd H2 l (.lst [.ref x])) p _ = H4
    have b4 : But p H1 H4 := fun b o e hb => by rw [← hH4, upd_ne hb]; exact s3 _ _ e
    have p4 : H4 p = some (.ins a.C_Desk dx [("counters", .int 1), ("branches", .ref l)]) := by rw [← hH4]; exact upd_same
    have l4 : H4 l = some (.lst [.ref x]) := by rw [← hH4, upd_ne lp]; exact upd_same
    refine ⟨Nat.zero_le _, fun lc hlc => ?_⟩
    refine ⟨_, rfl, p, _, dx, _, rfl, (Same.upd hlc) _ _ p4, T.cl_Desk, T.na_Desk_claim, (by show 2 < 1000; decide), ?_⟩
    have lcp : lc ≠ p := fun z => by rw [z, p4] at hlc; cases hlc
    generalize hH5 : upd (upd H4 lc (.lst [])) p _ = H5
    have b5 : But p H4 H5 := fun b o e hb => by rw [← hH5, upd_ne hb]; exact (Same.upd hlc) _ _ e
    have p5 : H5 p = some (.ins a.C_Desk dx [("counters", .int 1), ("branches", .ref l), ("claim", .ref lc)]) := by rw [← hH5]; exact upd_same
    have c5 : H5 lc = some (.lst []) := by rw [← hH5, upd_ne lcp]; exact upd_same
    have b45 := b1.trans (b4.trans b5)
    have dl : Dom H1 H2 := Dom.same s2
    have d4 : Dom H1 H4 := Dom.but b4 (by rw [p4]; intro z; cases z)
    have fs : Same (fresh H1 H2) (fresh H H5) := fun b o e => by
      obtain ⟨e1, e2⟩ := fresh_get e
      have hb : b ≠ p := fun z => pn1 (by rw [← z]; exact e1)
      refine fresh_mk (d1 _ e1) (b5 _ _ ?_ hb)
      rw [← hH4, upd_ne hb]
      exact (Same.upd hl) _ _ e2
    refine q H5 b45 ⟨l, lc, p5, ⟨[x], fresh_mk (d1 _ (dl _ hl)) (b5 _ _ l4 lp), All2.cons (hx.mono fs) All2.nil⟩, ⟨[], fresh_mk (d1 _ (d4 _ hlc)) c5, All2.nil⟩⟩
def rNewDesk (a : Ad) : Hp → VK → Prop := fun H Q => ∀ (d : Addr) (H2 : Hp), H d = none → Same H H2 → DeskAt a (fresh H H2) d Vaaclf.start → Q (.ref d) H2
theorem okL0 : OkL 1 [branch0] := ⟨Nat.le_refl _, by decide, by decide, fun b hb => by
  rw [List.mem_singleton.mp hb]
  refine ⟨fun t ht => ?_, by decide, ⟨rfl, fun g hg j hj => ?_⟩, fun g hg => ?_⟩
  · have : t = .atMost 0 (-1) ∨ t = .atLeast 0 0 := by simpa [branch0] using ht
    rcases this with rfl | rfl <;> (unfold OkT; decide)
  · have : g = ⟨some 0, 0⟩ := by simpa [branch0, VaaclBase.still] using hg
    subst this
    cases hj
    decide
  · have : g = ⟨some 0, 0⟩ := by simpa [branch0, VaaclBase.still] using hg
    subst this
    decide⟩
theorem okC0 : OkC 1 [] := ⟨Nat.zero_le _, (fun f hf => by cases hf), (fun f hf => by cases hf)⟩
theorem pe_newDesk {X : Cx} {p pos : Pos} (T : Txt X.K X.mg a) (hr : Room 5 X.A) (hg : Gl X "Desk" := by rfl) : PE X (.Call (.Name "Desk" p) [] [] pos) (fun _ H Q => rNewDesk a H Q) :=
  (pe_make0 T.mk_Desk (ok_Desk_init T) hr hg T.mg_Desk T.b_Desk_init .nil pass0).of fun σ H Q q => by
    intro d dx h1 h2 h3
    refine ⟨d, dx, rfl, upd_same, fun H' b ⟨lb, lc, e1, e2, e3⟩ => ⟨rfl, ?_⟩⟩
    have dm : Dom H (upd (upd H dx (.own d)) d (.ins a.C_Desk dx [])) := fun b e => upd_none (upd_none e)
    have hd : (upd (upd H dx (.own d)) d (.ins a.C_Desk dx [])) d ≠ none := by rw [upd_same]; intro z; cases z
    have sf : Same (fresh (upd (upd H dx (.own d)) d (.ins a.C_Desk dx [])) H') (hid d (fresh H H')) := fun b' o e => by
      obtain ⟨f1, f2⟩ := fresh_get e
      rw [hid_ne (fun z => by subst z; exact hd f1)]
      exact fresh_mk (dm _ f1) f2
    exact q d H' h1 (But.made h1 h2 b) ⟨dx, lb, lc, fresh_mk h1 e1, ⟨e2.mono sf, okL0, Facts.mono e3 sf, okC0⟩⟩
end
end Lc
end
section
set_option Elab.async false
set_option linter.all false
set_option maxRecDepth 100000
set_option maxHeartbeats 1000000
namespace Lc
open PySem PySem.Spec PyProof.Rows L2
open VaaclBase (Test Branch Loop Values Reader)
open Vaaclf (Fact)
section
variable {P : Program} {w : World} {K : PySem.W.Frag} {mg : Str → Option Value} {base : Heap} {a : Ad}
theorem whole_congr {A : Type} {r r' : Reader A} (h : ∀ x, r x = r' x) (l : List Int) : VaaclBase.whole r l = VaaclBase.whole r' l := by
  unfold VaaclBase.whole
  rw [h]
theorem whole_ok {A : Type} {r : Reader A} {Pp : A → Prop} (h : ∀ x u, r x = some u → Pp u.1) {l : List Int} {x : A} (e : VaaclBase.whole r l = some x) : Pp x := by
  unfold VaaclBase.whole at e
  split at e
  · rename_i u hu
    cases e
    exact h _ _ hu
  · cases e
def Nw (a : Ad) (H : Hp) (p : Prop) : XK := fun c _ H' => c = .ref a.C_NotWhole ∧ Same H H' ∧ p
def sp_set_loop (a : Ad) : Sp := fun vs H Q _ => ∃ (d l : Addr) (zs : List Addr) (st : Vaaclf.State) (k : Int) (ns : List Int), vs = [.ref d, .int k, .ref l] ∧ DeskOf a H d zs st ∧ H l = some (.lst (ns.map V.int)) ∧ StepPost a d zs st (.loop k ns) H Q
theorem sc_set_loop : FnScope ["self", "counters", "numbers", "branches"] ["self", "counters", "numbers"] (defScope s_Desk_set_loop) := ⟨rfl, rfl, rfl, by decide +kernel, rfl, by decide +kernel, by decide +kernel⟩
theorem ok_set_loop (T : Txt K mg a) : FnOk P w K mg base CX0 8 a.f_Desk_set_loop a.d_Desk_set_loop ["self", "counters", "numbers"] (sp_set_loop a) := by
  refine T.F_Desk_set_loop.ok sc_set_loop (fun vs H Q E h => ?_) (fun cdv A outer s H vs Q E hr h => ?_)
  · obtain ⟨d, l, zs, st, k, ns, rfl, _⟩ := h
    rfl
  · obtain ⟨d, l, zs, st, k, ns, rfl, hd, hl, q⟩ := h
    refine ⟨_, pss_cons (ps_if (pw_or (pt_cmpR op_lt (pv 1) pe_int (nomark _)) (pw_or1 (pt_cmpR op_gt (pv 1) (pe_cst T.c_MOST_COUNTERS) (nomark _)))).pt (pss_one (ps_ret (pe_lst (pa_cons (pe_un un_neg pe_int) pa_nil)))) pss_nil)
      (pss_cons (ps_try (E := Nw a H (VaaclBase.whole (loopR k.toNat) ns = none)) rfl ⟨rfl, rfl⟩ (fun pn W hp => pss_one (ps_set (i := 3) sc_set_loop.nd rfl (Or.inl rfl) (pe_call (ok_whole_loop T) hr rfl T.g_whole_loop T.F_whole_loop.kp T.b_whole_loop .nil hp (pa_cons (pv 2) (pa_cons (pv 1) pa_nil)))))
          (fun v => pss_one (ps_ret (pe_lst (pa_cons (pe_un un_neg pe_int) pa_nil)))) (fun c H' h => h.1) rfl T.mg_NotWhole T.ex_NotWhole)
      (pss_cons (ps_fld (pv 0) (pv 1) rfl) (pss_cons (ps_fld (pv 0) (pv 3) rfl) (pss_cons (ps_fld (pv 0) (pe_lst pa_nil) rfl)
      (pss_one (ps_ret (pe_lst (pa_cons (pe_callB call_len_seq rfl T.bl_len PySem.boot_len (pa_cons (pv 3) pa_nil)) pa_nil)))))))), ?_⟩
    have bad : (k < 1 ∨ 4 < k) → AnsPost H [-2] Q := fun hk => q.tell hd (by show (if k < 1 ∨ Vaaclf.int VaaclBase.COUNTERS < k then _ else _ : Vaaclf.State × Vaaclf.Answer).1 = st; rw [if_pos (show k < 1 ∨ Vaaclf.int VaaclBase.COUNTERS < k from hk)]) (by show (if k < 1 ∨ Vaaclf.int VaaclBase.COUNTERS < k then _ else _ : Vaaclf.State × Vaaclf.Answer).2 = _; rw [if_pos (show k < 1 ∨ Vaaclf.int VaaclBase.COUNTERS < k from hk)])
    refine ⟨_, rfl, _, _, rfl, rfl, _, rfl, ite2 (fun c1 => iteT ⟨_, rfl, (by show 1 ≤ sizeLine; decide), fun D hD => (bad (.inl (of_decide_eq_true c1))).new hD⟩) (fun c1 => ⟨_, rfl, _, _, rfl, rfl, _, rfl, ite2 (fun c2 => ⟨_, rfl, (by show 1 ≤ sizeLine; decide), fun D hD => (bad (.inr (of_decide_eq_true c2))).new hD⟩) (fun c2 => ?_)⟩)⟩
    have k1 : ¬ k < 1 := fun e => c1 (decide_eq_true e)
    have k4 : ¬ 4 < k := fun e => c2 (decide_eq_true e)
    obtain ⟨n, rfl⟩ : ∃ n : Nat, k = (n : Nat) := ⟨k.toNat, by omega⟩
    have n1 : 1 ≤ n := by omega
    have n4 : n ≤ 4 := by omega
    have hstep : Vaaclf.step st (.loop (n : Nat) ns) = match VaaclBase.whole (loopR n) ns with
        | none => (st, [-1])
        | some x => (⟨n, x, []⟩, [Vaaclf.int x.length]) := by
      show (if ((n : Nat) : Int) < 1 ∨ Vaaclf.int VaaclBase.COUNTERS < ((n : Nat) : Int) then _ else _ : Vaaclf.State × Vaaclf.Answer) = _
      rw [if_neg (by show ¬ (((n : Nat) : Int) < 1 ∨ (4 : Int) < ((n : Nat) : Int)); omega), show ((n : Nat) : Int).toNat = n by omega, whole_congr (loopR_eq n1)]
      cases VaaclBase.whole (VaaclBase.readLoop n) ns <;> rfl
    refine ⟨⟨_, rfl, _, rfl, l, ns, n, rfl, hl, n4, ?_⟩, fun σ' H' hE => ⟨_, rfl, (by show 1 ≤ sizeLine; decide), fun D hD => ?_⟩⟩
    · unfold Whole
      cases hw : VaaclBase.whole (loopR n) ns with
      | none => exact fun H' s => ⟨rfl, s, hw⟩
      | some bs =>
        rintro v H1 s1 ⟨lb, rfl, hb⟩
        rw [hw] at hstep
        have ok : OkL n bs := whole_ok (Pp := OkL n) (loopR_ok n1 n4) hw
        obtain ⟨dx, lb0, lc0, e1, _⟩ := hd.here.ex
        have g1 := s1 _ _ e1
        refine ⟨_, rfl, _, rfl, d, _, dx, _, rfl, g1, T.cl_Desk, T.na_Desk_counters, (by show 3 < 1000; decide), ?_⟩
        refine ⟨_, rfl, _, rfl, d, _, dx, _, rfl, upd_same, T.cl_Desk, T.na_Desk_branches, (by show 3 < 1000; decide), ?_⟩
        rw [upd_upd]
        generalize hH2 : upd H1 d _ = H2
        have b2 : But d H1 H2 := by rw [← hH2]; exact But.upd
        have p2 : H2 d = some (.ins a.C_Desk dx (deskFs (n : Nat) lb lc0)) := by rw [← hH2]; exact upd_same
        refine ⟨Nat.zero_le _, fun lc hlc => ⟨_, rfl, d, _, dx, _, rfl, (Same.upd hlc) _ _ p2, T.cl_Desk, T.na_Desk_claim, (by show 3 < 1000; decide), ?_⟩⟩
        have lcd : lc ≠ d := fun z => by rw [z, p2] at hlc; cases hlc
        generalize hH3 : upd (upd H2 lc (.lst [])) d _ = H3
        have b3 : But d H2 H3 := fun b o e hb => by rw [← hH3, upd_ne hb]; exact (Same.upd hlc) _ _ e
        have p3 : H3 d = some (.ins a.C_Desk dx (deskFs (n : Nat) lb lc)) := by rw [← hH3]; exact upd_same
        have l3 : H3 lc = some (.lst []) := by rw [← hH3, upd_ne lcd]; exact upd_same
        have b13 : But d H H3 := (But.of s1).trans (b2.trans b3)
        obtain ⟨xs, hlb, hxs⟩ := hb
        have hlb' := fresh_get hlb
        have lbd : lb ≠ d := fun z => by rw [z, e1] at hlb'; cases hlb'.1
        have hlb3 := b3 _ _ (b2 _ _ hlb'.2 lbd) lbd
        refine ⟨_, rfl, lb, _, rfl, .inl (SqL.of hlb3), (by show 1 ≤ sizeLine; decide), fun D hD => ?_⟩
        have dH : H D = none := Dom.but b13 (by rw [p3]; intro z; cases z) _ hD
        have fr : Same (fresh H H1) (hid d (hidL zs (upd H3 D (.lst [.int ((xs.map V.ref).length : Nat)])))) := fun b o e => by
          obtain ⟨f1, f2⟩ := fresh_get e
          have hb : b ≠ d := fun z => by rw [z, e1] at f1; cases f1
          rw [hid_ne hb]
          exact hidL_mk (fun m => hd.has b m f1) ((Same.upd hD) _ _ (b3 _ _ (b2 _ _ f2 hb) hb))
        have lcH : H lc = none := Dom.but ((But.of s1).trans b2) (by rw [p2]; intro z; cases z) _ hlc
        have dz : d ∉ zs := by
          obtain ⟨dx', lb', lc', e', _⟩ := hd.at_.ex
          exact (hidL_get e').1
        refine q D _ dH (b13.trans (But.of (Same.upd hD))) ?_ ?_
        · rw [hstep]
          refine ⟨dx, lb, lc, hidL_mk dz ((Same.upd hD) _ _ p3), ⟨⟨xs, fr _ _ hlb, hxs.mono fun x b r => r.mono fr⟩, ok, ⟨[], ?_, All2.nil⟩, ⟨Nat.zero_le _, (fun f hf => by cases hf), (fun f hf => by cases hf)⟩⟩⟩
          rw [hid_ne lcd]
          exact hidL_mk (fun m => hd.has lc m lcH) ((Same.upd hD) _ _ l3)
        · rw [hstep, upd_same, List.length_map, hxs.1]
          rfl
    · obtain ⟨_, sE, hw⟩ := hE
      have hw : VaaclBase.whole (loopR n) ns = none := hw
      rw [hw] at hstep
      exact ((q.tell hd (by rw [hstep]) (by rw [hstep])).shift sE).new hD
theorem DeskOf.nz {H : Hp} {d : Addr} {zs : List Addr} {st : Vaaclf.State} (hd : DeskOf a H d zs st) : d ∉ zs := by
  obtain ⟨dx', lb', lc', e', _⟩ := hd.at_.ex
  exact (hidL_get e').1
def sp_set_claim (a : Ad) : Sp := fun vs H Q _ => ∃ (d l : Addr) (zs : List Addr) (st : Vaaclf.State) (ns : List Int), vs = [.ref d, .ref l] ∧ DeskOf a H d zs st ∧ H l = some (.lst (ns.map V.int)) ∧ StepPost a d zs st (.claim ns) H Q
theorem sc_set_claim : FnScope ["self", "numbers", "claim"] ["self", "numbers"] (defScope s_Desk_set_claim) := ⟨rfl, rfl, rfl, by decide +kernel, rfl, by decide +kernel, by decide +kernel⟩
theorem ok_set_claim (T : Txt K mg a) : FnOk P w K mg base CX0 7 a.f_Desk_set_claim a.d_Desk_set_claim ["self", "numbers"] (sp_set_claim a) := by
  refine T.F_Desk_set_claim.ok sc_set_claim (fun vs H Q E h => ?_) (fun cdv A outer s H vs Q E hr h => ?_)
  · obtain ⟨d, l, zs, st, ns, rfl, _⟩ := h
    rfl
  · obtain ⟨d, l, zs, st, ns, rfl, hd, hl, q⟩ := h
    refine ⟨_, pss_cons (ps_try (E := Nw a H (VaaclBase.whole (claimR st.counters) ns = none)) (tb := tAsg (tCall (sp_whole_claim a) [] (Nw a H (VaaclBase.whole (claimR st.counters) ns = none)) (tCons (tVar 1) (tCons (tFldS K (tVar 0) "counters") tNil))) (gName 2)) rfl ⟨rfl, rfl⟩ (fun pn W hp => pss_one (ps_set (i := 2) sc_set_claim.nd rfl (Or.inl rfl) (pe_call (ok_whole_claim T) hr rfl T.g_whole_claim T.F_whole_claim.kp T.b_whole_claim .nil hp (pa_cons (pv 1) (pa_cons (pg 0) pa_nil)))))
          (fun v => pss_one (ps_ret (pe_lst (pa_cons (pe_un un_neg pe_int) pa_nil)))) (fun c H' h => h.1) rfl T.mg_NotWhole T.ex_NotWhole)
      (pss_cons (ps_fld (pv 0) (pv 2) rfl)
      (pss_one (ps_ret (pe_lst (pa_cons (pe_callB call_len_seq rfl T.bl_len PySem.boot_len (pa_cons (pv 2) pa_nil)) pa_nil))))), ?_⟩
    obtain ⟨lb, lc, f1, f2, f3, dk⟩ := hd.here.flds T
    have hstep : Vaaclf.step st (.claim ns) = match VaaclBase.whole (claimR st.counters) ns with
        | none => (st, [-1])
        | some c => ({ st with claim := c }, [Vaaclf.int c.length]) := by
      show (match Vaaclf.readClaim st.counters ns with | none => _ | some c => _ : Vaaclf.State × Vaaclf.Answer) = _
      unfold Vaaclf.readClaim
      rw [whole_congr (claimR_eq st.counters)]
    refine ⟨⟨_, rfl, _, rfl, _, f1, l, ns, st.counters, rfl, hl, dk.ol.lt, ?_⟩, fun σ' H' hE => ⟨_, rfl, (by show 1 ≤ sizeLine; decide), fun D hD => ?_⟩⟩
    · unfold Whole
      cases hw : VaaclBase.whole (claimR st.counters) ns with
      | none => exact fun H' s => ⟨rfl, s, rfl⟩
      | some c =>
        rintro v H1 s1 ⟨lc', rfl, hc⟩
        rw [hw] at hstep
        have ok : OkC st.counters c := whole_ok (Pp := OkC st.counters) (claimR_ok st.counters) hw
        obtain ⟨dx, lb0, lc0, e1, dk0⟩ := hd.at_.ex
        have e1 := (hidL_get e1).2
        have g1 := s1 _ _ e1
        refine ⟨_, rfl, _, rfl, d, _, dx, _, rfl, g1, T.cl_Desk, T.na_Desk_claim, (by show 3 < 1000; decide), ?_⟩
        generalize hH2 : upd H1 d _ = H2
        have b2 : But d H1 H2 := by rw [← hH2]; exact But.upd
        have p2 : H2 d = some (.ins a.C_Desk dx (deskFs (st.counters : Nat) lb0 lc')) := by rw [← hH2]; exact upd_same
        have b12 : But d H H2 := (But.of s1).trans b2
        obtain ⟨xs, hlc, hxs⟩ := hc
        have hlc' := fresh_get hlc
        have lcd : lc' ≠ d := fun z => by rw [z, e1] at hlc'; cases hlc'.1
        refine ⟨_, rfl, lc', _, rfl, .inl (SqL.of (b2 _ _ hlc'.2 lcd)), (by show 1 ≤ sizeLine; decide), fun D hD => ?_⟩
        have dH : H D = none := Dom.but b12 (by rw [p2]; intro z; cases z) _ hD
        have sD := Same.upd hD (o := .lst [.int ((xs.map V.ref).length : Nat)])
        have fr : Same (fresh H H1) (hid d (hidL zs (upd H2 D (.lst [.int ((xs.map V.ref).length : Nat)])))) := fun b o e => by
          obtain ⟨f1, f2⟩ := fresh_get e
          have hb : b ≠ d := fun z => by rw [z, e1] at f1; cases f1
          rw [hid_ne hb]
          exact hidL_mk (fun m => hd.has b m f1) (sD _ _ (b2 _ _ f2 hb))
        have b3 := b12.trans (But.of sD)
        refine q D _ dH b3 ?_ ?_
        · rw [hstep]
          exact ⟨dx, lb0, lc', hidL_mk hd.nz (sD _ _ p2), ⟨dk0.hb.mono (hidL_hid b3), dk0.ol, ⟨xs, fr _ _ hlc, hxs.mono fun x b r => r.mono fr⟩, ok⟩⟩
        · rw [hstep, upd_same, List.length_map, hxs.1, List.length_map]
          rfl
    · obtain ⟨_, sE, hw⟩ := hE
      rw [hw] at hstep
      exact ((q.tell hd (by rw [hstep]) (by rw [hstep])).shift sE).new hD
def sp_tell_holds (a : Ad) : Sp := fun vs H Q _ => ∃ (d l : Addr) (zs : List Addr) (st : Vaaclf.State) (ns : List Int), vs = [.ref d, .ref l] ∧ DeskOf a H d zs st ∧ H l = some (.lst (ns.map V.int)) ∧ StepPost a d zs st (.holds ns) H Q
theorem sc_tell_holds : FnScope ["self", "numbers", "values", "place"] ["self", "numbers"] (defScope s_Desk_tell_holds) := ⟨rfl, rfl, rfl, by decide +kernel, rfl, by decide +kernel, by decide +kernel⟩
theorem values_len {n : Nat} {l : List Int} {x : List Int} (e : VaaclBase.whole (valuesR n) l = some x) : x.length = n := whole_ok (Pp := fun x => x.length = n) (fun y u h => times_len _ _ _ _ h) e
theorem ok_tell_holds (T : Txt K mg a) : FnOk P w K mg base CX0 5 a.f_Desk_tell_holds a.d_Desk_tell_holds ["self", "numbers"] (sp_tell_holds a) := by
  refine T.F_Desk_tell_holds.ok sc_tell_holds (fun vs H Q E h => ?_) (fun cdv A outer s H vs Q E hr h => ?_)
  · obtain ⟨d, l, zs, st, ns, rfl, _⟩ := h
    rfl
  · obtain ⟨d, l, zs, st, ns, rfl, hd, hl, q⟩ := h
    have hr2 : Room 2 _ := hr.mono (by decide)
    refine ⟨_, pss_cons (ps_try (E := Nw a H (VaaclBase.whole (valuesR st.counters) ns = none)) (tb := tAsg (tCall (sp_whole_values a) [] (Nw a H (VaaclBase.whole (valuesR st.counters) ns = none)) (tCons (tVar 1) (tCons (tFldS K (tVar 0) "counters") tNil))) (gName 2)) rfl ⟨rfl, rfl⟩ (fun pn W hp => pss_one (ps_set (i := 2) sc_tell_holds.nd rfl (Or.inl rfl) (pe_call (ok_whole_values T) hr rfl T.g_whole_values T.F_whole_values.kp T.b_whole_values .nil hp (pa_cons (pv 1) (pa_cons (pg 0) pa_nil)))))
          (fun v => pss_one (ps_ret (pe_lst (pa_cons (pe_un un_neg pe_int) pa_nil)))) (fun c H' h => h.1) rfl T.mg_NotWhole T.ex_NotWhole)
      (pss_cons (ps_set (i := 3) sc_tell_holds.nd rfl (Or.inl rfl) (pe_call (ok_first_not_holding T) hr2 rfl T.g_first_not_holding T.F_first_not_holding.kp T.b_first_not_holding .nil pass0 (pa_cons (pg 0) (pa_cons (pv 2) pa_nil))))
      (pss_cons (ps_if (pt_cmp (pc_isN (pv 3))) (pss_one (ps_ret (pe_lst (pa_cons pe_int pa_nil)))) pss_nil)
      (pss_one (ps_ret (pe_lst (pa_cons pe_int (pa_cons (pv 3) pa_nil))))))), ?_⟩
    obtain ⟨lb, lc, f1, f2, f3, dk⟩ := hd.here.flds T
    have hstep : Vaaclf.step st (.holds ns) = (st, match VaaclBase.whole (valuesR st.counters) ns with
        | none => [-5]
        | some x => match Vaaclf.firstNot st.claim x with
          | none => [1]
          | some f => [0, Vaaclf.int f]) := rfl
    refine ⟨⟨_, rfl, _, rfl, _, f1, l, ns, st.counters, rfl, hl, dk.ol.lt, ?_⟩, fun σ' H' hE => ⟨_, rfl, (by show 1 ≤ sizeLine; decide), fun D hD => ?_⟩⟩
    · unfold Whole
      cases hw : VaaclBase.whole (valuesR st.counters) ns with
      | none => exact fun H' s => ⟨rfl, s, rfl⟩
      | some x =>
        rintro v H1 s1 ⟨lv, rfl, hv⟩
        rw [hw] at hstep
        have lx := values_len hw
        have dk1 := dk.mono s1
        refine ⟨_, rfl, _, f3.mono s1, _, rfl, lc, lv, _, x, rfl, dk1.hc, fresh_sub _ _ hv, by rw [lx]; exact dk.ol.lt, mF_small dk.oc lx, fun H2 s2 => ?_⟩
        rw [firstNot_eq]
        refine ⟨_, rfl, _, rfl, ?_⟩
        cases hf : Vaaclf.firstNot st.claim x with
        | none =>
          simp only [hf] at hstep
          exact iteT ⟨(by show 1 ≤ sizeLine; decide), fun D hD => ((q.tell hd (by rw [hstep]) (xs := [1]) (by rw [hstep])).shift (s1.trans s2)).new hD⟩
        | some i =>
          simp only [hf] at hstep
          exact iteF ⟨_, rfl, (by show 2 ≤ sizeLine; decide), fun D hD => ((q.tell hd (by rw [hstep]) (xs := [0, (i : Int)]) (by rw [hstep]; rfl)).shift (s1.trans s2)).new hD⟩
    · obtain ⟨_, sE, hw⟩ := hE
      rw [hw] at hstep
      exact ((q.tell hd (by rw [hstep]) (by rw [hstep])).shift sE).new hD
def sp_refusal_of (a : Ad) : Sp := fun vs H Q _ => ∃ (d : Addr) (st : Vaaclf.State) (b f : Int), vs = [.ref d, .int b, .int f] ∧ DeskAt a H d st ∧ ((b < 0 ∨ (st.loop.length : Int) ≤ b) → AnsPost H [-2] Q) ∧ (¬ (b < 0 ∨ (st.loop.length : Int) ≤ b) → (f < 0 ∨ (st.claim.length : Int) ≤ f) → AnsPost H [-3] Q) ∧ (¬ (b < 0 ∨ (st.loop.length : Int) ≤ b) → ¬ (f < 0 ∨ (st.claim.length : Int) ≤ f) → Q .non H)
theorem sc_refusal_of : FnScope ["self", "branch", "fact"] ["self", "branch", "fact"] (defScope s_Desk_refusal_of) := ⟨rfl, rfl, rfl, by decide +kernel, rfl, by decide +kernel, by decide +kernel⟩
theorem ok_refusal_of (T : Txt K mg a) : FnOk P w K mg base CX0 1 a.f_Desk_refusal_of a.d_Desk_refusal_of ["self", "branch", "fact"] (sp_refusal_of a) := by
  refine T.F_Desk_refusal_of.ok sc_refusal_of (fun vs H Q E h => ?_) (fun cdv A outer s H vs Q E hr h => ?_)
  · obtain ⟨d, st, b, f, rfl, _⟩ := h
    rfl
  · obtain ⟨d, st, b, f, rfl, hd, q1, q2, q3⟩ := h
    refine ⟨_, pss_cons (ps_if (pw_or (pt_cmpR op_lt (pv 1) pe_int (nomark _)) (pw_or1 (pt_cmpR op_ge (pv 1) (pe_callB call_len_seq (by rfl) T.bl_len PySem.boot_len (pa_cons (pg 0) pa_nil)) (nomark _)))).pt (pss_one (ps_ret (pe_lst (pa_cons (pe_un un_neg pe_int) pa_nil)))) pss_nil)
      (pss_cons (ps_if (pw_or (pt_cmpR op_lt (pv 2) pe_int (nomark _)) (pw_or1 (pt_cmpR op_ge (pv 2) (pe_callB call_len_seq (by rfl) T.bl_len PySem.boot_len (pa_cons (pg 0) pa_nil)) (nomark _)))).pt (pss_one (ps_ret (pe_lst (pa_cons (pe_un un_neg pe_int) pa_nil)))) pss_nil)
      (pss_one (ps_ret pe_non))), ?_⟩
    obtain ⟨lb, lc, f1, f2, f3, dk⟩ := hd.flds T
    obtain ⟨ys, hlb, hys⟩ := dk.hb
    obtain ⟨xs, hlc, hxs⟩ := dk.hc
    have ly : (((ys.map V.ref).length : Nat) : Int) = (st.loop.length : Int) := by rw [List.length_map, hys.1]
    have lx : (((xs.map V.ref).length : Nat) : Int) = (st.claim.length : Int) := by rw [List.length_map, hxs.1, List.length_map]
    refine ⟨_, rfl, _, _, rfl, rfl, _, rfl, ite2 (fun c1 => iteT ⟨_, rfl, (by show 1 ≤ sizeLine; decide), fun D hD => (q1 (.inl (of_decide_eq_true c1))).new hD⟩) (fun c1 => ⟨_, rfl, _, rfl, _, f2, lb, _, rfl, .inl (SqL.of hlb), _, _, rfl, rfl, _, rfl, ite2 (fun c2 => ⟨_, rfl, (by show 1 ≤ sizeLine; decide), fun D hD => (q1 (.inr (by rw [← ly]; exact of_decide_eq_true c2))).new hD⟩) (fun c2 => ?_)⟩)⟩
    have nb : ¬ (b < 0 ∨ (st.loop.length : Int) ≤ b) := by
      rintro (h | h)
      · exact c1 (decide_eq_true h)
      · exact c2 (decide_eq_true (by rw [ly]; exact h))
    refine ⟨_, rfl, _, _, rfl, rfl, _, rfl, ite2 (fun c3 => iteT ⟨_, rfl, (by show 1 ≤ sizeLine; decide), fun D hD => (q2 nb (.inl (of_decide_eq_true c3))).new hD⟩) (fun c3 => ⟨_, rfl, _, rfl, _, f3, lc, _, rfl, .inl (SqL.of hlc), _, _, rfl, rfl, _, rfl, ite2 (fun c4 => ⟨_, rfl, (by show 1 ≤ sizeLine; decide), fun D hD => (q2 nb (.inr (by rw [← lx]; exact of_decide_eq_true c4))).new hD⟩) (fun c4 => ?_)⟩)⟩
    refine q3 nb ?_
    rintro (h | h)
    · exact c3 (decide_eq_true h)
    · exact c4 (decide_eq_true (by rw [lx]; exact h))
end
end Lc
end
section
set_option Elab.async false
set_option linter.all false
set_option maxRecDepth 100000
set_option maxHeartbeats 1000000
namespace Lc
open PySem PySem.Spec PyProof.Rows L2
open VaaclBase (Test Branch Loop Values Reader)
open Vaaclf (Fact)
section
variable {P : Program} {w : World} {K : PySem.W.Frag} {mg : Str → Option Value} {base : Heap} {a : Ad}
theorem mFirst_len {t : F} {fs : List F} {us : List U} (h : mFirst t fs = some us) : us.length ≤ 100 := by
  unfold mFirst at h
  split at h
  · cases h
    exact Nat.zero_le _
  · split at h
    · cases h
      show 1 ≤ 100
      decide
    · obtain ⟨u, _, hu⟩ := List.exists_of_findSome?_eq_some h
      obtain ⟨v, _, rfl⟩ := Option.map_eq_some_iff.mp hu
      show 2 ≤ 100
      decide
theorem onBoth_cases (st : Vaaclf.State) (b f : Int) (g : Nat → Fact → Vaaclf.Answer) :
    (b < 0 ∨ (st.loop.length : Int) ≤ b → Vaaclf.onBoth st b f g = (st, [-2])) ∧ (¬ (b < 0 ∨ (st.loop.length : Int) ≤ b) → (f < 0 ∨ (st.claim.length : Int) ≤ f) → Vaaclf.onBoth st b f g = (st, [-3])) ∧
    (¬ (b < 0 ∨ (st.loop.length : Int) ≤ b) → ¬ (f < 0 ∨ (st.claim.length : Int) ≤ f) → ∃ (i j : Nat) (x : Fact), b = (i : Nat) ∧ f = (j : Nat) ∧ i < st.loop.length ∧ st.claim[j]? = some x ∧ Vaaclf.onBoth st b f g = (st, g i x)) := by
  refine ⟨fun h => ?_, fun h1 h2 => ?_, fun h1 h2 => ?_⟩
  · show (st, if b < 0 ∨ (st.loop.length : Int) ≤ b then _ else _) = _
    rw [if_pos h]
  · show (st, if b < 0 ∨ (st.loop.length : Int) ≤ b then _ else _) = _
    rw [if_neg h1]
    by_cases hf : 0 ≤ f
    · rw [if_pos hf, List.getElem?_eq_none (by omega)]
    · rw [if_neg hf]
  · obtain ⟨i, rfl⟩ : ∃ i : Nat, b = (i : Nat) := ⟨b.toNat, by omega⟩
    obtain ⟨j, rfl⟩ : ∃ j : Nat, f = (j : Nat) := ⟨f.toNat, by omega⟩
    have hj : j < st.claim.length := by omega
    refine ⟨i, j, st.claim[j], rfl, rfl, by omega, List.getElem?_eq_getElem hj, ?_⟩
    show (st, if ((i : Nat) : Int) < 0 ∨ (st.loop.length : Int) ≤ ((i : Nat) : Int) then _ else _) = _
    rw [if_neg h1, if_pos (by omega), show ((j : Nat) : Int).toNat = j by omega, List.getElem?_eq_getElem hj]
    rfl
def sp_tell_shown (a : Ad) : Sp := fun vs H Q _ => ∃ (d : Addr) (zs : List Addr) (st : Vaaclf.State) (b f : Int), vs = [.ref d, .int b, .int f] ∧ DeskOf a H d zs st ∧ StepPost a d zs st (.shown b f) H Q
theorem sc_tell_shown : FnScope ["self", "branch", "fact", "refusal"] ["self", "branch", "fact"] (defScope s_Desk_tell_shown) := ⟨rfl, rfl, rfl, by decide +kernel, rfl, by decide +kernel, by decide +kernel⟩
theorem ok_tell_shown (T : Txt K mg a) : FnOk P w K mg base CX0 7 a.f_Desk_tell_shown a.d_Desk_tell_shown ["self", "branch", "fact"] (sp_tell_shown a) := by
  refine T.F_Desk_tell_shown.ok sc_tell_shown (fun vs H Q E h => ?_) (fun cdv A outer s H vs Q E hr h => ?_)
  · obtain ⟨d, zs, st, b, f, rfl, _⟩ := h
    rfl
  · obtain ⟨d, zs, st, b, f, rfl, hd, q⟩ := h
    have hr1 : Room 1 _ := hr.mono (by decide)
    refine ⟨_, pss_cons (ps_set (i := 3) sc_tell_shown.nd rfl (Or.inl rfl) (pe_meth (pv 0) T.cl_Desk T.me_Desk_refusal_of (ok_refusal_of T) hr1 T.b_Desk_refusal_of .nil pass0 (pa_cons (pv 1) (pa_cons (pv 2) pa_nil))))
      (pss_cons (ps_if (pt_cmp (pc_notN (pv 3))) (pss_one (ps_ret (pv 3))) pss_nil)
      (pss_one (ps_ret (pe_call (ok_uses_as_numbers T) hr1 rfl T.g_uses_as_numbers T.F_uses_as_numbers.kp T.b_uses_as_numbers .nil pass0 (pa_cons (pe_call (ok_uses_that_keep T) hr rfl T.g_uses_that_keep T.F_uses_that_keep.kp T.b_uses_that_keep .nil pass0
        (pa_cons (pg 0) (pa_cons (pv 1) (pa_cons (pg 0) (pa_cons (pe_ix ix_list (pg 0) (pv 2) (fun _ _ => rfl)) pa_nil))))) pa_nil))))), ?_⟩
    obtain ⟨dx, lb0, lc0, e1, _⟩ := hd.here.ex
    obtain ⟨lb, lc, f1, f2, f3, dk⟩ := hd.here.flds T
    obtain ⟨o1, o2, o3⟩ := onBoth_cases st b f fun k x => Vaaclf.usesTold (Vaaclf.keepsBy st.loop st.counters st.claim k x)
    refine ⟨_, rfl, d, dx, _, rfl, e1, rfl, _, rfl, _, rfl, d, st, b, f, rfl, hd.here, fun h1 => ?_, fun h1 h2 => ?_, fun h1 h2 => ?_⟩
    · have o := o1 h1
      exact fun D H' hD s' hl => ⟨_, rfl, _, rfl, iteT ⟨_, rfl, (q.tell hd (show (Vaaclf.onBoth _ _ _ _).1 = _ by rw [o]) (show (Vaaclf.onBoth _ _ _ _).2 = _ by rw [o])) D H' hD s' hl⟩⟩
    · have o := o2 h1 h2
      exact fun D H' hD s' hl => ⟨_, rfl, _, rfl, iteT ⟨_, rfl, (q.tell hd (show (Vaaclf.onBoth _ _ _ _).1 = _ by rw [o]) (show (Vaaclf.onBoth _ _ _ _).2 = _ by rw [o])) D H' hD s' hl⟩⟩
    · obtain ⟨i, j, x, rfl, rfl, hi, hx, o⟩ := o3 h1 h2
      refine ⟨_, rfl, _, rfl, iteF ?_⟩
      obtain ⟨xs, hlc, hxs⟩ := dk.hc
      obtain ⟨y, hy, fy⟩ := hxs.get' (i := j) (y := mF x) (by rw [List.getElem?_map, hx]; rfl)
      have ox := dk.oc.all x (List.mem_of_getElem? hx)
      refine ⟨_, rfl, _, f2, _, rfl, _, rfl, _, f3, _, rfl, _, f3, _, rfl, lc, _, _, .ref y, rfl, rfl, SqL.of hlc, atI_nat (by rw [List.getElem?_map, hy]; rfl), ?_⟩
      refine ⟨lb, lc, y, st.counters, st.loop, i, st.claim, x, rfl, dk, hi, fy, ox, fun v H1 s1 hv => ?_⟩
      refine ⟨v, _, rfl, hv, fun us hu => mFirst_len hu, ?_⟩
      rw [mKeeps_eq dk.ol dk.oc.all hi ox]
      exact (q.tell hd (show (Vaaclf.onBoth _ _ _ _).1 = _ by rw [o]) (show (Vaaclf.onBoth _ _ _ _).2 = _ by rw [o])).shift s1
def sp_tell_ahead (a : Ad) : Sp := fun vs H Q _ => ∃ (d : Addr) (zs : List Addr) (st : Vaaclf.State) (b f : Int), vs = [.ref d, .int b, .int f] ∧ DeskOf a H d zs st ∧ StepPost a d zs st (.ahead b f) H Q
theorem sc_tell_ahead : FnScope ["self", "branch", "fact", "refusal"] ["self", "branch", "fact"] (defScope s_Desk_tell_ahead) := ⟨rfl, rfl, rfl, by decide +kernel, rfl, by decide +kernel, by decide +kernel⟩
theorem ok_tell_ahead (T : Txt K mg a) : FnOk P w K mg base CX0 4 a.f_Desk_tell_ahead a.d_Desk_tell_ahead ["self", "branch", "fact"] (sp_tell_ahead a) := by
  refine T.F_Desk_tell_ahead.ok sc_tell_ahead (fun vs H Q E h => ?_) (fun cdv A outer s H vs Q E hr h => ?_)
  · obtain ⟨d, zs, st, b, f, rfl, _⟩ := h
    rfl
  · obtain ⟨d, zs, st, b, f, rfl, hd, q⟩ := h
    have hr1 : Room 1 _ := hr.mono (by decide)
    refine ⟨_, pss_cons (ps_set (i := 3) sc_tell_ahead.nd rfl (Or.inl rfl) (pe_meth (pv 0) T.cl_Desk T.me_Desk_refusal_of (ok_refusal_of T) hr1 T.b_Desk_refusal_of .nil pass0 (pa_cons (pv 1) (pa_cons (pv 2) pa_nil))))
      (pss_cons (ps_if (pt_cmp (pc_notN (pv 3))) (pss_one (ps_ret (pv 3))) pss_nil)
      (pss_one (ps_ret (pe_op op_cat (pe_lst (pa_cons pe_int pa_nil)) (pe_call (ok_fact_as_numbers T) hr1 rfl T.g_fact_as_numbers T.F_fact_as_numbers.kp T.b_fact_as_numbers .nil pass0 (pa_cons
        (pe_call (ok_ahead_of T) hr rfl T.g_ahead_of T.F_ahead_of.kp T.b_ahead_of .nil pass0 (pa_cons (pe_fld (pe_ix ix_list (pg 0) (pv 1) (fun _ _ => rfl)) rfl) (pa_cons (pe_ix ix_list (pg 0) (pv 2) (fun _ _ => rfl)) pa_nil))) pa_nil)))))), ?_⟩
    obtain ⟨dx, lb0, lc0, e1, _⟩ := hd.here.ex
    obtain ⟨lb, lc, f1, f2, f3, dk⟩ := hd.here.flds T
    obtain ⟨o1, o2, o3⟩ := onBoth_cases st b f fun k x => 0 :: Vaaclf.flatFact (Vaaclf.ahead (VaaclBase.branchAt st.loop k).move x)
    refine ⟨_, rfl, d, dx, _, rfl, e1, rfl, _, rfl, _, rfl, d, st, b, f, rfl, hd.here, fun h1 => ?_, fun h1 h2 => ?_, fun h1 h2 => ?_⟩
    · have o := o1 h1
      exact fun D H' hD s' hl => ⟨_, rfl, _, rfl, iteT ⟨_, rfl, (q.tell hd (show (Vaaclf.onBoth _ _ _ _).1 = _ by rw [o]) (show (Vaaclf.onBoth _ _ _ _).2 = _ by rw [o])) D H' hD s' hl⟩⟩
    · have o := o2 h1 h2
      exact fun D H' hD s' hl => ⟨_, rfl, _, rfl, iteT ⟨_, rfl, (q.tell hd (show (Vaaclf.onBoth _ _ _ _).1 = _ by rw [o]) (show (Vaaclf.onBoth _ _ _ _).2 = _ by rw [o])) D H' hD s' hl⟩⟩
    · obtain ⟨i, j, x, rfl, rfl, hi, hx, o⟩ := o3 h1 h2
      refine ⟨_, rfl, _, rfl, iteF ⟨(by show 1 ≤ sizeLine; decide), fun l0 hl0 => ?_⟩⟩
      have s0 := Same.upd hl0 (o := .lst [.int 0])
      have dk0 := dk.mono s0
      obtain ⟨xs, hlc, hxs⟩ := dk0.hc
      obtain ⟨y, hy, fy⟩ := hxs.get' (i := j) (y := mF x) (by rw [List.getElem?_map, hx]; rfl)
      have ox := dk.oc.all x (List.mem_of_getElem? hx)
      obtain ⟨ys, hlb, hys⟩ := dk0.hb
      obtain ⟨yb, hyb⟩ : ∃ yb, ys[i]? = some yb := ⟨_, List.getElem?_eq_getElem (by rw [hys.1]; exact hi)⟩
      obtain ⟨br, hbr, by'⟩ := hys.get hyb
      have hat : VaaclBase.branchAt st.loop i = br := by unfold VaaclBase.branchAt; rw [hbr]; rfl
      have ob : OkB st.counters br := by rw [← hat]; exact branchAt_ok dk.ol hi
      obtain ⟨lm, ⟨b1, C1, dx1, fs1, g1, g2, g3, g4, g5⟩, hm⟩ := by'.move T
      refine ⟨_, rfl, _, f2.mono s0, _, rfl, lb, _, _, _, rfl, rfl, SqL.of hlb, atI_nat (by rw [List.getElem?_map, hyb]; rfl), b1, C1, dx1, fs1, _, g1, g2, g3, g4, g5, _, rfl, _, f3.mono s0, _, rfl, lc, _, _, .ref y, rfl, rfl, SqL.of hlc, atI_nat (by rw [List.getElem?_map, hy]; rfl), ?_⟩
      refine ⟨lm, y, br.move, mF x, rfl, hm, fy, by rw [mF_ts, ox.1, ob.2.2.1.1], by rw [ob.2.2.1.1]; exact dk.ol.lt, fun g hg j hj => by rw [ob.2.2.1.1]; exact ob.2.2.1.2 g hg j hj, ob.2.2.2, fun h2 => mF_div ox (by rw [h2]; decide) (by rw [h2]; decide), fun z H1 s1 fz => ?_⟩
      rw [← mAhead_eq ob.2.2.1 ox] at fz
      have oa := ahead_ok ob.2.2.1 ox
      refine ⟨z, _, rfl, fz, by rw [mF_ts, oa.1]; exact dk.ol.lt, fun L H2 s2 hL => ?_⟩
      rw [mTold_eq] at hL
      have tl := told_len oa
      have n4 := dk.ol.lt
      refine ⟨l0, L, _, _, rfl, rfl, s2 _ _ (s1 _ _ upd_same), hL, ?_, fun D hD => ?_⟩
      · rw [List.length_map, sizeLine_eq]; show 1 + _ ≤ _; omega
      · rw [← hat] at hL ⊢
        exact ((q.tell hd (show (Vaaclf.onBoth _ _ _ _).1 = _ by rw [o]) (show (Vaaclf.onBoth _ _ _ _).2 = _ by rw [o])).shift (s0.trans (s1.trans s2))).new hD
theorem head_flat {α β : Type} {g : α → List β} {o : β} : ∀ {l : List α} {i : Nat} {x : α}, l[i]? = some x → (g x).head? = some o → (∀ (j : Nat) y, j < i → l[j]? = some y → g y = []) → (l.flatMap g).head? = some o
  | [], i, x, h, _, _ => by simp at h
  | a :: l, 0, x, h, hp, _ => by
    have e : a = x := Option.some.inj h
    subst e
    rw [List.flatMap_cons, List.head?_append, hp]
    rfl
  | a :: l, i + 1, x, h, hp, hn => by
    rw [List.flatMap_cons, hn 0 a (Nat.zero_lt_succ _) rfl, List.nil_append]
    exact head_flat (l := l) (i := i) (x := x) h hp fun j y hj hy => hn (j + 1) y (by omega) hy
def opensOf (bs : Loop) (n : Nat) (c : Vaaclf.Claim) (b : Nat) : List Vaaclf.Open := (c.zipIdx.filter fun f => (Vaaclf.keepsBy bs n c b f.1).isNone).map fun f => ⟨b, f.2⟩
theorem opensOf_nil {bs : Loop} {n : Nat} {c : Vaaclf.Claim} {b : Nat} (h : ∀ (i : Nat) f, c[i]? = some f → (Vaaclf.keepsBy bs n c b f).isSome = true) : opensOf bs n c b = [] := by
  unfold opensOf
  rw [List.map_eq_nil_iff, List.filter_eq_nil_iff]
  intro x hx
  obtain ⟨_, e⟩ := zipIdx_get c 0 x hx
  have := h _ _ e
  cases q : Vaaclf.keepsBy bs n c b x.1 with
  | none => rw [q] at this; cases this
  | some u => simp
theorem opensOf_head {bs : Loop} {n : Nat} {c : Vaaclf.Claim} {b i : Nat} {f : Fact} (hf : c[i]? = some f) (hn : (Vaaclf.keepsBy bs n c b f).isSome = false) (h : ∀ (j : Nat) g, j < i → c[j]? = some g → (Vaaclf.keepsBy bs n c b g).isSome = true) : (opensOf bs n c b).head? = some ⟨b, i⟩ := by
  unfold opensOf
  rw [List.head?_map, List.head?_filter, find_some_at (zipIdx_at hf) (by cases q : Vaaclf.keepsBy bs n c b f with | none => simp [q] | some u => rw [q] at hn; cases hn) (fun j y hj hy => ?_)]
  · rfl
  · rw [List.getElem?_zipIdx] at hy
    obtain ⟨g, hg, rfl⟩ := Option.map_eq_some_iff.mp hy
    have := h j g hj hg
    cases q : Vaaclf.keepsBy bs n c b g with
    | none => rw [q] at this; cases this
    | some u => simp [q]
def sp_tell_check (a : Ad) : Sp := fun vs H Q _ => ∃ (d : Addr) (zs : List Addr) (st : Vaaclf.State), vs = [.ref d] ∧ DeskOf a H d zs st ∧ StepPost a d zs st .check H Q
theorem sc_tell_check : FnScope ["self", "branch", "place", "fact"] ["self"] (defScope s_Desk_tell_check) := ⟨rfl, rfl, rfl, by decide +kernel, rfl, by decide +kernel, by decide +kernel⟩
theorem ok_tell_check (T : Txt K mg a) : FnOk P w K mg base CX0 8 a.f_Desk_tell_check a.d_Desk_tell_check ["self"] (sp_tell_check a) := by
  refine T.F_Desk_tell_check.ok sc_tell_check (fun vs H Q E h => ?_) (fun cdv A outer s H vs Q E hr h => ?_)
  · obtain ⟨d, zs, st, rfl, _⟩ := h
    rfl
  · obtain ⟨d, zs, st, rfl, hd, q⟩ := h
    refine ⟨_, pss_cons (ps_for PassesOwn.never rfl (pi_range1 rfl T.bl_range (pa_cons (pe_callB call_len_seq rfl T.bl_len PySem.boot_len (pa_cons (pg 0) pa_nil)) pa_nil)) (pn 1 sc_tell_check.nd rfl rfl)
        (pss_one (ps_for PassesOwn.never rfl (pi_enum rfl T.bl_enumerate (pa_cons (pg 0) pa_nil)) (pg_tup (n := 2) rfl (pgs_cons (pn 2 sc_tell_check.nd rfl rfl) (pgs_cons (pn 3 sc_tell_check.nd rfl rfl) pgs_nil)))
          (pss_one (ps_if (pt_not (pt_val (pe_call (ok_keeps T) hr rfl T.g_keeps T.F_keeps.kp T.b_keeps .nil pass0 (pa_cons (pg 0) (pa_cons (pv 1) (pa_cons (pg 0) (pa_cons (pv 3) pa_nil))))))) (pss_one (ps_ret (pe_lst (pa_cons pe_int (pa_cons (pv 1) (pa_cons (pv 2) pa_nil)))))) pss_nil)))))
      (pss_one (ps_ret (pe_lst (pa_cons pe_int pa_nil)))), ?_⟩
    obtain ⟨lb, lc, f1, f2, f3, dk⟩ := hd.here.flds T
    obtain ⟨ys, hlb, hys⟩ := dk.hb
    obtain ⟨xs, hlc, hxs⟩ := dk.hc
    have l3 := dk.ol.len
    have hop : Vaaclf.opens st.loop st.counters st.claim = (List.range st.loop.length).flatMap (opensOf st.loop st.counters st.claim) := rfl
    have hstep : Vaaclf.step st .check = (st, match (Vaaclf.opens st.loop st.counters st.claim).head? with
      | none => [1]
      | some o => [0, Vaaclf.int o.branch, Vaaclf.int o.fact]) := rfl
    have e0 : (((ys.map V.ref).length : Nat) : Int).toNat = st.loop.length := by rw [List.length_map, hys.1]; rfl
    refine ⟨_, rfl, _, f2, lb, _, rfl, .inl (SqL.of hlb), _, rfl, by rw [List.length_map, hys.1]; omega, by rw [List.length_map, hys.1]; omega, ?_⟩
    rw [e0]
    refine for_range (lo := 0) (n := st.loop.length) (fun b σ H' => (∃ v1 v2 v3, σ = [some (.ref d), v1, v2, v3]) ∧ Same H H' ∧ ∀ (b' : Nat), b' < b → opensOf st.loop st.counters st.claim b' = []) ⟨⟨_, _, _, rfl⟩, Same.refl H, fun b h => absurd h (Nat.not_lt_zero _)⟩ ?_ ?_
    · rintro b σ H' hb ⟨⟨v1, v2, v3, rfl⟩, hs, hn⟩
      have eb : (0 : Int) + ((b : Nat) : Int) = ((b : Nat) : Int) := Int.zero_add _
      rw [eb]
      refine ⟨_, rfl, _, f3.mono hs, lc, _, rfl, SqL.of (hs _ _ hlc), for_enum (K := K) (xs := xs.map V.ref) (fun i σ H' => (∃ v2 v3, σ = [some (.ref d), some (.int (b : Nat)), v2, v3]) ∧ Same H H' ∧ ∀ (j : Nat) g, j < i → st.claim[j]? = some g → (Vaaclf.keepsBy st.loop st.counters st.claim b g).isSome = true) ⟨⟨_, _, rfl⟩, hs, fun j g h => absurd h (Nat.not_lt_zero _)⟩ (fun i σ H' _ h => SqL.of (h.2.1 _ _ hlc)) ?_ ?_⟩
      · rintro i x σ H2 S hi ⟨⟨v2, v3, rfl⟩, hs2, hn2⟩ hS
        obtain ⟨y, hy, rfl⟩ := map_get hi
        obtain ⟨f', hf', fa⟩ := hxs.get hy
        obtain ⟨f, hf, rfl⟩ := map_get hf'
        have s2 : Same H (upd H2 S (.tup [.int (i : Nat), .ref y])) := hs2.trans (Same.upd hS)
        refine ⟨S, _, rfl, SqT.of upd_same, rfl, _, _, rfl, _, _, rfl, rfl, ?_⟩
        refine ⟨_, rfl, _, f2.mono s2, _, rfl, _, rfl, _, f3.mono s2, _, rfl, lb, lc, y, st.counters, st.loop, b, st.claim, f, rfl, dk.mono s2, hb, fa.mono s2, dk.oc.all f (List.mem_of_getElem? hf), fun H3 s3 => ⟨_, rfl, ?_⟩⟩
        have s23 := s2.trans s3
        cases hk : (Vaaclf.keepsBy st.loop st.counters st.claim b f).isSome with
        | true =>
          refine iteF ⟨⟨_, _, rfl⟩, s23, fun j g hj hg => ?_⟩
          rcases Nat.lt_succ_iff_lt_or_eq.mp hj with h | h
          · exact hn2 j g h hg
          · subst h
            rw [hf] at hg
            cases hg
            exact hk
        | false =>
          have hh : (Vaaclf.opens st.loop st.counters st.claim).head? = some ⟨b, i⟩ := by
            rw [hop]
            refine head_flat (i := b) (x := b) (List.getElem?_range hb) (opensOf_head hf hk hn2) fun j y' hj hy' => ?_
            rw [List.getElem?_range (by omega)] at hy'
            cases hy'
            exact hn j hj
          rw [hh] at hstep
          exact iteT ⟨_, rfl, _, rfl, (by show 3 ≤ sizeLine; decide), fun D hD => ((q.tell hd (by rw [hstep]) (xs := [0, (b : Int), (i : Int)]) (by rw [hstep]; rfl)).shift s23).new hD⟩
      · rintro σ H2 ⟨⟨v2, v3, rfl⟩, hs2, hn2⟩
        refine ⟨⟨_, _, _, rfl⟩, hs2, fun b' hb' => ?_⟩
        rcases Nat.lt_succ_iff_lt_or_eq.mp hb' with h | h
        · exact hn b' h
        · subst h
          refine opensOf_nil fun i f hf => hn2 i f ?_ hf
          rw [List.length_map, hxs.1, List.length_map]
          exact (List.getElem?_eq_some_iff.mp hf).1
    · rintro σ H' ⟨⟨v1, v2, v3, rfl⟩, hs, hn⟩
      have hh : (Vaaclf.opens st.loop st.counters st.claim).head? = none := by
        rw [hop]
        have : (List.range st.loop.length).flatMap (opensOf st.loop st.counters st.claim) = [] := by
          rw [List.flatMap_eq_nil_iff]
          intro b hb
          exact hn b (List.mem_range.mp hb)
        rw [this]
        rfl
      rw [hh] at hstep
      exact ⟨(by show 1 ≤ sizeLine; decide), fun D hD => ((q.tell hd (by rw [hstep]) (xs := [1]) (by rw [hstep])).shift hs).new hD⟩
end
end Lc
end
section
set_option Elab.async false
set_option linter.all false
set_option maxRecDepth 100000
set_option maxHeartbeats 1000000
namespace Lc
open PySem PySem.Spec PyProof.Rows L2
open VaaclBase (Test Branch Loop Values Reader)
open Vaaclf (Fact)
section
variable {P : Program} {w : World} {K : PySem.W.Frag} {mg : Str → Option Value} {base : Heap} {a : Ad}
theorem trimFrom_of {bs : Loop} {n : Nat} {c : Vaaclf.Claim} : ∀ (k : Nat) (C : List (Fact × Nat)), OfC c C → OfC c (Vaaclf.trimFrom bs n k C) ∧ (Vaaclf.trimFrom bs n k C).length ≤ C.length
  | 0, C, h => ⟨h, Nat.le_refl _⟩
  | k + 1, C, h => by
    rw [trim_step]
    by_cases e : tStep bs n C = C
    · rw [if_pos e]
      exact ⟨h, Nat.le_refl _⟩
    · rw [if_neg e]
      have lt := tStep_lt e
      obtain ⟨h1, h2⟩ := trimFrom_of k (tStep bs n C) (tStep_of h)
      exact ⟨h1, by omega⟩
theorem trim_of (bs : Loop) (n : Nat) (c : Vaaclf.Claim) : OfC c (Vaaclf.trim bs n c) ∧ (Vaaclf.trim bs n c).length ≤ c.length := by
  have of0 : OfC c c.zipIdx := fun x hx => by
    obtain ⟨_, e⟩ := zipIdx_get c 0 x hx
    rw [Nat.sub_zero] at e
    exact e
  have := trimFrom_of (bs := bs) (n := n) c.length c.zipIdx of0
  rw [List.length_zipIdx] at this
  exact this
def sp_tell_trim (a : Ad) : Sp := fun vs H Q _ => ∃ (d : Addr) (zs : List Addr) (st : Vaaclf.State), vs = [.ref d] ∧ DeskOf a H d zs st ∧ StepPost a d zs st .trim H Q
theorem sc_tell_trim : FnScope ["self", "places"] ["self"] (defScope s_Desk_tell_trim) := ⟨rfl, rfl, rfl, by decide +kernel, rfl, by decide +kernel, by decide +kernel⟩
theorem ok_tell_trim (T : Txt K mg a) : FnOk P w K mg base CX0 10 a.f_Desk_tell_trim a.d_Desk_tell_trim ["self"] (sp_tell_trim a) := by
  refine T.F_Desk_tell_trim.ok sc_tell_trim (fun vs H Q E h => ?_) (fun cdv A outer s H vs Q E hr h => ?_)
  · obtain ⟨d, zs, st, rfl, _⟩ := h
    rfl
  · obtain ⟨d, zs, st, rfl, hd, q⟩ := h
    refine ⟨_, pss_cons (ps_set (i := 1) sc_tell_trim.nd rfl (Or.inl rfl) (pe_call (ok_trimmed T) hr rfl T.g_trimmed T.F_trimmed.kp T.b_trimmed .nil pass0 (pa_cons (pg 0) (pa_cons (pg 0) pa_nil))))
      (pss_one (ps_ret (pe_op op_cat (pe_lst (pa_cons (pe_callB call_len_seq rfl T.bl_len PySem.boot_len (pa_cons (pv 1) pa_nil)) pa_nil)) (pv 1)))), ?_⟩
    obtain ⟨lb, lc, f1, f2, f3, dk⟩ := hd.here.flds T
    obtain ⟨_, tl⟩ := trim_of st.loop st.counters st.claim
    have c6 := dk.oc.len
    refine ⟨_, rfl, _, f2, _, rfl, _, f3, lb, lc, st.counters, st.loop, st.claim, rfl, dk, fun D H1 s1 hD => ?_⟩
    generalize hC : Vaaclf.trim st.loop st.counters st.claim = C at hD tl
    have hlen : ((natsV (C.map fun x => x.2)).map V.int).length = C.length := by unfold natsV; rw [List.length_map, List.length_map, List.length_map]
    refine ⟨_, rfl, D, _, rfl, .inl (SqL.of hD), (by show 1 ≤ sizeLine; decide), fun l hl => ?_⟩
    refine ⟨_, rfl, l, D, _, _, rfl, rfl, upd_same, (Same.upd hl) _ _ hD, ?_, fun L hL => ?_⟩
    · rw [hlen, sizeLine_eq]; show 1 + _ ≤ _; omega
    · rw [hlen] at hL ⊢
      refine ((q.tell hd rfl (xs := (C.length : Int) :: natsV (C.map fun x => x.2)) ?_).shift (s1.trans (Same.upd hl))).new hL
      show VaaclBase.listed ((Vaaclf.trim st.loop st.counters st.claim).map fun x => x.2) = _
      rw [hC]
      unfold VaaclBase.listed
      rw [List.length_map]
      rfl
def sp_set_trimmed (a : Ad) : Sp := fun vs H Q _ => ∃ (d : Addr) (zs : List Addr) (st : Vaaclf.State), vs = [.ref d] ∧ DeskOf a H d zs st ∧ StepPost a d zs st .use H Q
theorem sc_set_trimmed : FnScope ["self", "place"] ["self"] (defScope s_Desk_set_trimmed) := ⟨rfl, rfl, rfl, by decide +kernel, rfl, by decide +kernel, by decide +kernel⟩
theorem ok_set_trimmed (T : Txt K mg a) : FnOk P w K mg base CX0 10 a.f_Desk_set_trimmed a.d_Desk_set_trimmed ["self"] (sp_set_trimmed a) := by
  refine T.F_Desk_set_trimmed.ok sc_set_trimmed (fun vs H Q E h => ?_) (fun cdv A outer s H vs Q E hr h => ?_)
  · obtain ⟨d, zs, st, rfl, _⟩ := h
    rfl
  · obtain ⟨d, zs, st, rfl, hd, q⟩ := h
    have hr2 : Room 2 _ := hr.mono (by decide)
    refine ⟨_, pss_cons (ps_fld (pv 0) (pe_lc (own := [("place", 1)]) (te := tOp (rIxL K) (tFldS K (tVar 0) "claim") (tVar 1)) rfl sc_set_trimmed.nd (pi_list (pe_call (ok_trimmed T) hr rfl T.g_trimmed T.F_trimmed.kp T.b_trimmed .nil pass0 (pa_cons (pg 0) (pa_cons (pg 0) pa_nil)))) (blkOk_by rfl) (fun _ _ _ _ _ => pn 1 sc_set_trimmed.nd rfl rfl) (fun _ _ _ _ _ => pts_nil) (fun _ _ _ _ _ => pe_ix ix_list (pg 0) (pv 1) (fun _ _ => rfl))) rfl)
      (pss_one (ps_ret (pe_call (ok_claim_as_numbers T) hr2 rfl T.g_claim_as_numbers T.F_claim_as_numbers.kp T.b_claim_as_numbers .nil pass0 (pa_cons (pg 0) pa_nil)))), ?_⟩
    obtain ⟨lb, lc, f1, f2, f3, dk⟩ := hd.here.flds T
    obtain ⟨of, tl⟩ := trim_of st.loop st.counters st.claim
    obtain ⟨dx, lb0, lc0, e1', dk0⟩ := hd.at_.ex
    have e1 := (hidL_get e1').2
    refine ⟨_, rfl, _, f2, _, rfl, _, f3, lb, lc, st.counters, st.loop, st.claim, rfl, dk, fun L H1 s1 hL => ?_⟩
    have hstep : Vaaclf.step st .use = ({ st with claim := (Vaaclf.trim st.loop st.counters st.claim).map fun x => x.1 }, Vaaclf.flatClaim ((Vaaclf.trim st.loop st.counters st.claim).map fun x => x.1)) := rfl
    generalize hC : Vaaclf.trim st.loop st.counters st.claim = C at hL of tl hstep
    have oc2 := of.facts dk.oc tl
    have c6 := dk.oc.len
    have lce : lc = lc0 := by
      obtain ⟨b, C', dx', fs, z1, z2, _, _, z5⟩ := f3
      cases z1
      rw [e1] at z2
      cases z2
      exact (by cases z5; rfl)
    subst lce
    obtain ⟨xs, hlc, hxs⟩ := dk0.hc
    have hlcH : H lc = some (.lst (xs.map V.ref)) := hidL_sub _ _ (hid_sub _ _ hlc)
    refine ⟨L, rfl, ⟨_, SqL.of hL⟩, fun D hD => ?_⟩
    have dL : ∀ {H2 : Hp}, Same H1 (hid D H2) → Same H H2 := fun s => s1.trans (s.trans hid_sub)
    have dDH : H D = none := Dom.same s1 _ hD
    refine lc_list (K := K) (xs := (natsV (C.map fun x => x.2)).map V.int) (fun i H2 => Same H1 (hid D H2) ∧ ∃ zs', H2 D = some (.lst (zs'.map V.ref)) ∧ zs'.length = i ∧ All2 (FactAt a (hid d (hidL zs H))) zs' ((C.take i).map fun x => mF x.1)) ⟨hid_of (Same.upd hD) hD, [], upd_same, rfl, All2.nil⟩ (fun i H2 _ h => SqL.of (hid_sub _ _ (h.1 _ _ hL))) ?_ ?_
    · rintro i y H2 hy ⟨hs2, zs', hz, hzl, hzs⟩
      obtain ⟨k, hk, rfl⟩ := map_get hy
      obtain ⟨k', hk', rfl⟩ := map_get hk
      obtain ⟨x, hx, rfl⟩ := map_get hk'
      obtain ⟨z, hz', fz⟩ := hxs.get' (i := x.2) (y := mF x.1) (by rw [List.getElem?_map, of x (List.mem_of_getElem? hx)]; rfl)
      have il : i < C.length := (List.getElem?_eq_some_iff.mp hx).1
      have s2 := dL hs2
      refine ⟨rfl, yes ⟨_, rfl, _, f3.mono s2, _, rfl, lc, _, _, .ref z, rfl, rfl, SqL.of (s2 _ _ hlcH), atI_nat (by rw [List.getElem?_map, hz']; rfl), _, hz, ?_, ?_⟩⟩
      · rw [List.length_map, hzl, sizeLine_eq]; omega
      · refine ⟨by rw [hid_upd]; exact hs2, zs' ++ [z], by rw [upd_same, List.map_append]; rfl, by rw [List.length_append, hzl]; rfl, ?_⟩
        rw [take_snoc hx, List.map_append]
        exact hzs.append (All2.cons fz All2.nil)
    · rintro H2 ⟨hs2, zs', hz, hzl, hzs⟩
      rw [take_all C (by rw [List.length_map]; unfold natsV; rw [List.length_map, List.length_map]; exact Nat.le_refl _)] at hzs
      have s2 := dL hs2
      have Dd : D ≠ d := fun z => by rw [z, e1] at dDH; cases dDH
      refine ⟨_, rfl, d, _, dx, _, rfl, s2 _ _ e1, T.cl_Desk, T.na_Desk_claim, (by show 3 < 1000; decide), ?_⟩
      generalize hH3 : upd H2 d _ = H3
      have b3 : But d H2 H3 := by rw [← hH3]; exact But.upd
      have p3 : H3 d = some (.ins a.C_Desk dx (deskFs (st.counters : Nat) lb0 D)) := by rw [← hH3]; exact upd_same
      have b03 : But d H H3 := (But.of s2).trans b3
      have sH3 : Same (hid d (hidL zs H)) (hid d (hidL zs H3)) := hidL_hid b03
      have hD3 := b3 _ _ hz Dd
      have cl : ∀ {C' : Hp}, Same (hid d (hidL zs H)) C' → C' D = some (.lst (zs'.map V.ref)) → ClaimAt a C' D (C.map fun x => x.1) := fun s e => ⟨zs', e, by rw [List.map_map]; exact hzs.mono fun x f r => r.mono s⟩
      refine ⟨_, rfl, _, ⟨d, _, dx, _, rfl, p3, T.cl_Desk, T.na_Desk_claim, rfl⟩, D, C.map fun x => x.1, st.counters, rfl, cl (sH3.trans (hid_sub.trans hidL_sub)) hD3, oc2, dk.ol.lt, ?_⟩
      intro A' H4 nA s4 hA
      have b04 := b03.trans (But.of s4)
      refine q A' H4 (Dom.but b03 (by rw [p3]; intro z; cases z) _ nA) b04 ?_ ?_
      · rw [hstep]
        refine ⟨dx, lb0, D, hidL_mk hd.nz (s4 _ _ p3), ⟨dk0.hb.mono (hidL_hid b04), dk0.ol, cl (hidL_hid b04) ?_, oc2⟩⟩
        rw [hid_ne Dd]
        exact hidL_mk (fun m => hd.has D m dDH) (s4 _ _ hD3)
      · rw [hstep]
        exact hA
def sp_tell_broken (a : Ad) : Sp := fun vs H Q _ => ∃ (d : Addr) (zs : List Addr) (st : Vaaclf.State) (lo hi : Int), vs = [.ref d, .int lo, .int hi] ∧ DeskOf a H d zs st ∧ StepPost a d zs st (.broken lo hi) H Q
theorem sc_tell_broken : FnScope ["self", "low", "high", "found"] ["self", "low", "high"] (defScope s_Desk_tell_broken) := ⟨rfl, rfl, rfl, by decide +kernel, rfl, by decide +kernel, by decide +kernel⟩
theorem ok_tell_broken (T : Txt K mg a) : FnOk P w K mg base CX0 6 a.f_Desk_tell_broken a.d_Desk_tell_broken ["self", "low", "high"] (sp_tell_broken a) := by
  refine T.F_Desk_tell_broken.ok sc_tell_broken (fun vs H Q E h => ?_) (fun cdv A outer s H vs Q E hr h => ?_)
  · obtain ⟨d, zs, st, lo, hi, rfl, _⟩ := h
    rfl
  · obtain ⟨d, zs, st, lo, hi, rfl, hd, q⟩ := h
    have hr1 : Room 1 _ := hr.mono (by decide)
    refine ⟨_, pss_cons (ps_if (pw_or (pt_cmpR op_lt (pv 1) (pe_un un_neg (pe_cst T.c_MOST_VALUE)) (nomark _)) (pw_or (pt_cmpR op_gt (pv 2) (pe_cst T.c_MOST_VALUE) (nomark _)) (pw_or1 (pt_cmpR op_lt (pv 2) (pv 1) (nomark _))))).pt (pss_one (ps_ret (pe_lst (pa_cons (pe_un un_neg pe_int) pa_nil)))) pss_nil)
      (pss_cons (ps_if (pt_cmpR op_gt (pe_call (ok_how_many_rows T) hr1 rfl T.g_how_many_rows T.F_how_many_rows.kp T.b_how_many_rows .nil pass0 (pa_cons (pv 1) (pa_cons (pv 2) (pa_cons (pg 0) pa_nil)))) (pe_cst T.c_MOST_ROWS) (nomark _)) (pss_one (ps_ret (pe_lst (pa_cons (pe_un un_neg pe_int) pa_nil)))) pss_nil)
      (pss_cons (ps_set (i := 3) sc_tell_broken.nd rfl (Or.inl rfl) (pe_call (ok_first_break T) hr rfl T.g_first_break T.F_first_break.kp T.b_first_break .nil pass0 (pa_cons (pg 0) (pa_cons (pg 0) (pa_cons
          (pe_call (ok_rows_of_values T) hr1 rfl T.g_rows_of_values T.F_rows_of_values.kp T.b_rows_of_values .nil pass0 (pa_cons (pv 1) (pa_cons (pv 2) (pa_cons (pg 0) pa_nil)))) pa_nil)))))
      (pss_cons (ps_if (pt_cmp (pc_isN (pv 3))) (pss_one (ps_ret (pe_lst (pa_cons pe_int pa_nil)))) pss_nil)
      (pss_one (ps_ret (pe_op op_cat (pe_lst (pa_cons pe_int (pa_cons (pg 3) (pa_cons (pg 3) pa_nil)))) (pg 3))))))), ?_⟩
    obtain ⟨lb, lc, f1, f2, f3, dk⟩ := hd.here.flds T
    have n1 := dk.ol.pos
    have n4 := dk.ol.lt
    have hstep : Vaaclf.step st (.broken lo hi) = (st, if lo < -1000000 ∨ 1000000 < hi ∨ hi < lo then [-5] else if !Vaaclf.boxFits lo hi st.counters then [-7] else match Vaaclf.broken st.loop st.claim lo hi st.counters with
      | none => [1]
      | some x => 0 :: Vaaclf.int x.branch :: Vaaclf.int x.fact :: x.values) := rfl
    have bad : (lo < -1000000 ∨ 1000000 < hi ∨ hi < lo) → ∀ D, H D = none → Q (.ref D) (upd H D (.lst [.int (-5)])) := fun h D hD => by
      rw [if_pos h] at hstep
      exact (q.tell hd (by rw [hstep]) (xs := [-5]) (by rw [hstep])).new hD
    refine ⟨_, rfl, _, rfl, _, _, rfl, rfl, _, rfl, ite2 (fun c1 => iteT ⟨_, rfl, (by show 1 ≤ sizeLine; decide), bad (.inl (of_decide_eq_true c1))⟩) (fun c1 => ⟨_, rfl, _, _, rfl, rfl, _, rfl, ite2 (fun c2 => iteT ⟨_, rfl, (by show 1 ≤ sizeLine; decide), bad (.inr (.inl (of_decide_eq_true c2)))⟩) (fun c2 => ⟨_, rfl, _, rfl, _, _, rfl, rfl, _, rfl, ite2 (fun c3 => ⟨_, rfl, (by show 1 ≤ sizeLine; decide), bad (.inr (.inr (of_decide_eq_true c3)))⟩) (fun c3 => ?_)⟩)⟩)⟩
    have k1 : ¬ lo < -1000000 := fun e => c1 (decide_eq_true e)
    have k2 : ¬ 1000000 < hi := fun e => c2 (decide_eq_true e)
    have k3 : ¬ hi < lo := fun e => c3 (decide_eq_true e)
    rw [if_neg (by omega), fits_eq (by omega) n1] at hstep
    refine ⟨_, rfl, _, rfl, _, rfl, _, f1, lo, hi, st.counters, rfl, n4, by omega, by omega, _, _, rfl, rfl, _, rfl, ite2 (fun c4 => ?_) (fun c4 => ?_)⟩
    · rw [if_pos c4] at hstep
      exact ⟨_, rfl, (by show 1 ≤ sizeLine; decide), fun D hD => (q.tell hd (by rw [hstep]) (xs := [-7]) (by rw [hstep])).new hD⟩
    · rw [if_neg c4] at hstep
      have k4 : ¬ 125 < (hi - lo + 1) ^ st.counters := fun e => c4 (decide_eq_true e)
      refine ⟨_, rfl, _, f2, _, rfl, _, f3, _, rfl, _, rfl, _, rfl, _, f1, lo, hi, st.counters, rfl, n4, by omega, by omega, by omega, pow_lt_of (by omega) k4, fun R H1 s1 hR => ?_⟩
      refine ⟨lb, lc, R, st.counters, st.loop, st.claim, _, rfl, dk.mono s1, hR, mRows_row _ _ _, fun v H2 s2 hv => ?_⟩
      rw [← box_eq] at hv
      have hbr : (Vaaclf.box lo hi st.counters).findSome? (Vaaclf.breakAt st.loop st.claim) = Vaaclf.broken st.loop st.claim lo hi st.counters := rfl
      rw [hbr] at hv
      have s12 := s1.trans s2
      refine ⟨_, rfl, _, rfl, ?_⟩
      cases hb : Vaaclf.broken st.loop st.claim lo hi st.counters with
      | none =>
        rw [hb] at hv hstep
        have hv : v = .non := hv
        subst hv
        exact iteT ⟨(by show 1 ≤ sizeLine; decide), fun D hD => ((q.tell hd (by rw [hstep]) (xs := [1]) (by rw [hstep])).shift s12).new hD⟩
      | some x =>
        have vl : x.values.length ≤ 4 := by
          unfold Vaaclf.broken at hb
          obtain ⟨r, hr', hx⟩ := List.exists_of_findSome?_eq_some hb
          rw [box_eq] at hr'
          have rl := mRows_row _ _ _ r hr'
          unfold Vaaclf.breakAt at hx
          split at hx
          · cases hx
          · split at hx
            · cases hx
            · obtain ⟨f, _, rfl⟩ := Option.map_eq_some_iff.mp hx
              show r.length ≤ 4
              omega
        rw [hb] at hv hstep
        obtain ⟨y, rfl, dxb, lv, ey, elv⟩ := hv
        have g1 : ∀ {H' : Hp}, Same H2 H' → Fld K H' (.ref y) "branch" (.int (x.branch : Nat)) := fun s => ⟨y, _, dxb, _, rfl, s _ _ ey, T.cl_Break, T.na_Break_branch, rfl⟩
        have g2 : ∀ {H' : Hp}, Same H2 H' → Fld K H' (.ref y) "broken" (.int (x.fact : Nat)) := fun s => ⟨y, _, dxb, _, rfl, s _ _ ey, T.cl_Break, T.na_Break_broken, rfl⟩
        have g3 : ∀ {H' : Hp}, Same H2 H' → Fld K H' (.ref y) "origin" (.ref lv) := fun s => ⟨y, _, dxb, _, rfl, s _ _ ey, T.cl_Break, T.na_Break_origin, rfl⟩
        refine iteF ⟨_, rfl, _, g1 (Same.refl _), _, rfl, _, g2 (Same.refl _), (by show 3 ≤ sizeLine; decide), fun l hl => ?_⟩
        refine ⟨_, rfl, _, g3 (Same.upd hl), l, lv, _, _, rfl, rfl, upd_same, (Same.upd hl) _ _ elv, ?_, fun D hD => ?_⟩
        · rw [List.length_map, sizeLine_eq]; show 3 + _ ≤ _; omega
        · exact ((q.tell hd (by rw [hstep]) (xs := 0 :: (x.branch : Int) :: (x.fact : Int) :: x.values) (by rw [hstep]; rfl)).shift (s12.trans (Same.upd hl))).new hD
end
end Lc
end
section
set_option Elab.async false
set_option linter.all false
set_option maxRecDepth 100000
set_option maxHeartbeats 1000000
namespace Lc
open PySem PySem.Spec PyProof.Rows L2
open VaaclBase (Test Branch Loop Values Reader)
open Vaaclf (Fact)
section
variable {P : Program} {w : World} {K : PySem.W.Frag} {mg : Str → Option Value} {base : Heap} {a : Ad}
theorem fact_ok {n : Nat} {l : List Int} {f : Fact} (e : VaaclBase.whole (factR n) l = some f) : OkF n f := (whole_ok (Pp := fun f => OkF n f ∧ ∀ t ∈ f.times, -5 ≤ t ∧ t ≤ 5) (factR_ok n) e).1
def sp_tell_goal (a : Ad) : Sp := fun vs H Q _ => ∃ (d l : Addr) (zs : List Addr) (st : Vaaclf.State) (ns : List Int), vs = [.ref d, .ref l] ∧ DeskOf a H d zs st ∧ H l = some (.lst (ns.map V.int)) ∧ StepPost a d zs st (.goal ns) H Q
theorem sc_tell_goal : FnScope ["self", "numbers", "fact"] ["self", "numbers"] (defScope s_Desk_tell_goal) := ⟨rfl, rfl, rfl, by decide +kernel, rfl, by decide +kernel, by decide +kernel⟩
theorem ok_tell_goal (T : Txt K mg a) : FnOk P w K mg base CX0 7 a.f_Desk_tell_goal a.d_Desk_tell_goal ["self", "numbers"] (sp_tell_goal a) := by
  refine T.F_Desk_tell_goal.ok sc_tell_goal (fun vs H Q E h => ?_) (fun cdv A outer s H vs Q E hr h => ?_)
  · obtain ⟨d, l, zs, st, ns, rfl, _⟩ := h
    rfl
  · obtain ⟨d, l, zs, st, ns, rfl, hd, hl, q⟩ := h
    have hr1 : Room 1 _ := hr.mono (by decide)
    have hr5 : Room 5 _ := hr.mono (by decide)
    refine ⟨_, pss_cons (ps_try (E := Nw a H (VaaclBase.whole (factR st.counters) ns = none)) (tb := tAsg (tCall (sp_whole_fact a) [] (Nw a H (VaaclBase.whole (factR st.counters) ns = none)) (tCons (tVar 1) (tCons (tFldS K (tVar 0) "counters") tNil))) (gName 2)) rfl ⟨rfl, rfl⟩
          (fun pn W hp => pss_one (ps_set (i := 2) sc_tell_goal.nd rfl (Or.inl rfl) (pe_call (ok_whole_fact T) hr rfl T.g_whole_fact T.F_whole_fact.kp T.b_whole_fact .nil hp (pa_cons (pv 1) (pa_cons (pg 0) pa_nil)))))
          (fun v => pss_one (ps_ret (pe_lst (pa_cons (pe_un un_neg pe_int) pa_nil)))) (fun c H' h => h.1) rfl T.mg_NotWhole T.ex_NotWhole)
      (pss_one (ps_ret (pe_call (ok_uses_as_numbers T) hr1 rfl T.g_uses_as_numbers T.F_uses_as_numbers.kp T.b_uses_as_numbers .nil pass0 (pa_cons (pe_call (ok_first_uses T) hr5 rfl T.g_first_uses T.F_first_uses.kp T.b_first_uses .nil pass0 (pa_cons (pv 2) (pa_cons (pg 0) pa_nil))) pa_nil)))), ?_⟩
    obtain ⟨lb, lc, f1, f2, f3, dk⟩ := hd.here.flds T
    have hstep : Vaaclf.step st (.goal ns) = (st, match VaaclBase.whole (factR st.counters) ns with
        | none => [-1]
        | some g => Vaaclf.usesTold (Vaaclf.shown st.counters st.claim g)) := by
      rw [whole_congr (factR_eq st.counters)]
      rfl
    refine ⟨⟨_, rfl, _, rfl, _, f1, l, ns, st.counters, rfl, hl, dk.ol.lt, ?_⟩, fun σ' H' hE => ⟨_, rfl, (by show 1 ≤ sizeLine; decide), fun D hD => ?_⟩⟩
    · unfold Whole
      cases hw : VaaclBase.whole (factR st.counters) ns with
      | none => exact fun H' s => ⟨rfl, s, rfl⟩
      | some g =>
        rintro v H1 s1 ⟨x, rfl, hx⟩
        rw [hw] at hstep
        have og := fact_ok hw
        have dk1 := dk.mono s1
        have c6 := dk.oc.len
        refine ⟨_, rfl, _, rfl, _, f3.mono s1, x, lc, _, _, rfl, hx.mono fresh_sub, dk1.hc, aim_of dk.ol.lt og dk.oc.all (by omega), fun v H2 s2 hv => ?_⟩
        refine ⟨v, _, rfl, hv, fun us hu => mFirst_len hu, ?_⟩
        rw [first_eq og dk.oc.all]
        exact (q.tell hd (by rw [hstep]) (by rw [hstep])).shift (s1.trans s2)
    · obtain ⟨_, sE, hw⟩ := hE
      rw [hw] at hstep
      exact ((q.tell hd (by rw [hstep]) (by rw [hstep])).shift sE).new hD
def sp_tell_at_end (a : Ad) : Sp := fun vs H Q _ => ∃ (d l : Addr) (zs : List Addr) (st : Vaaclf.State) (ns : List Int), vs = [.ref d, .ref l] ∧ DeskOf a H d zs st ∧ H l = some (.lst (ns.map V.int)) ∧ StepPost a d zs st (.atEnd ns) H Q
theorem sc_tell_at_end : FnScope ["self", "numbers", "fact", "usable"] ["self", "numbers"] (defScope s_Desk_tell_at_end) := ⟨rfl, rfl, rfl, by decide +kernel, rfl, by decide +kernel, by decide +kernel⟩
theorem ok_tell_at_end (T : Txt K mg a) : FnOk P w K mg base CX0 7 a.f_Desk_tell_at_end a.d_Desk_tell_at_end ["self", "numbers"] (sp_tell_at_end a) := by
  refine T.F_Desk_tell_at_end.ok sc_tell_at_end (fun vs H Q E h => ?_) (fun cdv A outer s H vs Q E hr h => ?_)
  · obtain ⟨d, l, zs, st, ns, rfl, _⟩ := h
    rfl
  · obtain ⟨d, l, zs, st, ns, rfl, hd, hl, q⟩ := h
    have hr1 : Room 1 _ := hr.mono (by decide)
    have hr5 : Room 5 _ := hr.mono (by decide)
    refine ⟨_, pss_cons (ps_try (E := Nw a H (VaaclBase.whole (factR st.counters) ns = none)) (tb := tAsg (tCall (sp_whole_fact a) [] (Nw a H (VaaclBase.whole (factR st.counters) ns = none)) (tCons (tVar 1) (tCons (tFldS K (tVar 0) "counters") tNil))) (gName 2)) rfl ⟨rfl, rfl⟩
          (fun pn W hp => pss_one (ps_set (i := 2) sc_tell_at_end.nd rfl (Or.inl rfl) (pe_call (ok_whole_fact T) hr rfl T.g_whole_fact T.F_whole_fact.kp T.b_whole_fact .nil hp (pa_cons (pv 1) (pa_cons (pg 0) pa_nil)))))
          (fun v => pss_one (ps_ret (pe_lst (pa_cons (pe_un un_neg pe_int) pa_nil)))) (fun c H' h => h.1) rfl T.mg_NotWhole T.ex_NotWhole)
      (pss_cons (ps_set (i := 3) sc_tell_at_end.nd rfl (Or.inl rfl) (pe_call (ok_usable_at_end T) hr5 rfl T.g_usable_at_end T.F_usable_at_end.kp T.b_usable_at_end .nil pass0 (pa_cons (pg 0) (pa_cons (pg 0) pa_nil))))
      (pss_cons (ps_if (pt_cmp (pc_isN (pv 3))) (pss_one (ps_ret (pe_lst (pa_cons (pe_un un_neg pe_int) pa_nil)))) pss_nil)
      (pss_one (ps_ret (pe_call (ok_uses_as_numbers T) hr1 rfl T.g_uses_as_numbers T.F_uses_as_numbers.kp T.b_uses_as_numbers .nil pass0 (pa_cons (pe_call (ok_first_uses T) hr5 rfl T.g_first_uses T.F_first_uses.kp T.b_first_uses .nil pass0 (pa_cons (pv 2) (pa_cons (pv 3) pa_nil))) pa_nil)))))), ?_⟩
    obtain ⟨lb, lc, f1, f2, f3, dk⟩ := hd.here.flds T
    have hstep : Vaaclf.step st (.atEnd ns) = (st, match VaaclBase.whole (factR st.counters) ns with
        | none => [-1]
        | some g => match Vaaclf.atEnd st.loop st.counters st.claim with
          | none => [-4]
          | some fs => Vaaclf.usesTold (Vaaclf.shown st.counters fs g)) := by
      rw [whole_congr (factR_eq st.counters)]
      rfl
    refine ⟨⟨_, rfl, _, rfl, _, f1, l, ns, st.counters, rfl, hl, dk.ol.lt, ?_⟩, fun σ' H' hE => ⟨_, rfl, (by show 1 ≤ sizeLine; decide), fun D hD => ?_⟩⟩
    · unfold Whole
      cases hw : VaaclBase.whole (factR st.counters) ns with
      | none => exact fun H' s => ⟨rfl, s, rfl⟩
      | some g =>
        rintro v H1 s1 ⟨x, rfl, hx⟩
        rw [hw] at hstep
        have og := fact_ok hw
        have dk1 := dk.mono s1
        have c6 := dk.oc.len
        have l3 := dk.ol.len
        refine ⟨_, rfl, _, f2.mono s1, _, rfl, _, f3.mono s1, lb, lc, st.counters, st.loop, st.claim, rfl, dk1, fun v H2 s2 hv => ?_⟩
        rw [mEnd_eq] at hv
        have s12 := s1.trans s2
        refine ⟨_, rfl, _, rfl, ?_⟩
        cases he : Vaaclf.atEnd st.loop st.counters st.claim with
        | none =>
          rw [he] at hv
          simp only [he] at hstep
          have hv : v = .non := hv
          subst hv
          exact iteT ⟨_, rfl, (by show 1 ≤ sizeLine; decide), fun D hD => ((q.tell hd (by rw [hstep]) (xs := [-4]) (by rw [hstep])).shift s12).new hD⟩
        | some fs =>
          have fl := atEnd_len he
          have fo := atEnd_ok dk.oc.all he
          rw [he] at hv
          simp only [he] at hstep
          obtain ⟨D, rfl, hD⟩ := hv
          refine iteF ⟨_, rfl, _, rfl, x, D, _, _, rfl, (hx.mono fresh_sub).mono s2, hD, aim_of dk.ol.lt og fo (by omega), fun v H3 s3 hv => ?_⟩
          refine ⟨v, _, rfl, hv, fun us hu => mFirst_len hu, ?_⟩
          rw [first_eq og fo]
          exact (q.tell hd (by rw [hstep]) (by rw [hstep])).shift (s12.trans s3)
    · obtain ⟨_, sE, hw⟩ := hE
      rw [hw] at hstep
      exact ((q.tell hd (by rw [hstep]) (by rw [hstep])).shift sE).new hD
def sp_tell_run (a : Ad) : Sp := fun vs H Q _ => ∃ (d l : Addr) (zs : List Addr) (st : Vaaclf.State) (k : Int) (ns : List Int), vs = [.ref d, .int k, .ref l] ∧ DeskOf a H d zs st ∧ H l = some (.lst (ns.map V.int)) ∧ StepPost a d zs st (.run k ns) H Q
theorem sc_tell_run : FnScope ["self", "most", "numbers", "values", "ending", "signs", "fact"] ["self", "most", "numbers"] (defScope s_Desk_tell_run) := ⟨rfl, rfl, rfl, by decide +kernel, rfl, by decide +kernel, by decide +kernel⟩
theorem ok_tell_run (T : Txt K mg a) : FnOk P w K mg base CX0 5 a.f_Desk_tell_run a.d_Desk_tell_run ["self", "most", "numbers"] (sp_tell_run a) := by
  refine T.F_Desk_tell_run.ok sc_tell_run (fun vs H Q E h => ?_) (fun cdv A outer s H vs Q E hr h => ?_)
  · obtain ⟨d, l, zs, st, k, ns, rfl, _⟩ := h
    rfl
  · obtain ⟨d, l, zs, st, k, ns, rfl, hd, hl, q⟩ := h
    have hr1 : Room 1 _ := hr.mono (by decide)
    refine ⟨_, pss_cons (ps_if (pw_or (pt_cmpR op_lt (pv 1) pe_int (nomark _)) (pw_or1 (pt_cmpR op_gt (pv 1) (pe_cst T.c_MOST_ROUNDS) (nomark _)))).pt (pss_one (ps_ret (pe_lst (pa_cons (pe_un un_neg pe_int) pa_nil)))) pss_nil)
      (pss_cons (ps_try (E := Nw a H (VaaclBase.whole (valuesR st.counters) ns = none)) (tb := tAsg (tCall (sp_whole_values a) [] (Nw a H (VaaclBase.whole (valuesR st.counters) ns = none)) (tCons (tVar 2) (tCons (tFldS K (tVar 0) "counters") tNil))) (gName 3)) rfl ⟨rfl, rfl⟩
          (fun pn W hp => pss_one (ps_set (i := 3) sc_tell_run.nd rfl (Or.inl rfl) (pe_call (ok_whole_values T) hr rfl T.g_whole_values T.F_whole_values.kp T.b_whole_values .nil hp (pa_cons (pv 2) (pa_cons (pg 0) pa_nil)))))
          (fun v => pss_one (ps_ret (pe_lst (pa_cons (pe_un un_neg pe_int) pa_nil)))) (fun c H' h => h.1) rfl T.mg_NotWhole T.ex_NotWhole)
      (pss_cons (ps_set (i := 4) sc_tell_run.nd rfl (Or.inr rfl) (pe_call (ok_run_from T) hr rfl T.g_run_from T.F_run_from.kp T.b_run_from .nil pass0 (pa_cons (pg 0) (pa_cons (pv 3) (pa_cons (pv 1) pa_nil)))))
      (pss_cons (ps_setLc (i := 5) (own := [("fact", 6)]) (te := tIf (tB (tCall (sp_holds_at a) [] E0 (tCons (tVar 6) (tCons (tFldS K (tVar 4) "reached") tNil)))) (tC (.int 1)) (tC (.int 0))) rfl sc_tell_run.nd rfl rfl (sw_true rfl rfl rfl rfl) (pi_list (pg 0)) (blkOk_by rfl) (fun _ _ _ _ _ => pn 6 sc_tell_run.nd rfl rfl) (fun _ _ _ _ _ => pts_nil)
          (fun _ _ _ _ _ => pe_ifExp (pt_val (pe_call (ok_holds_at T) hr1 (by rfl) T.g_holds_at T.F_holds_at.kp T.b_holds_at .nil pass0 (pa_cons (pv 6) (pa_cons (pg 4) pa_nil)))) pe_int pe_int))
      (pss_one (ps_ret (pe_op op_cat (pe_op op_cat (pe_lst (pa_cons (pg 4) (pa_cons (pg 4) pa_nil))) (pg 4)) (pv 5))))))), ?_⟩
    obtain ⟨lb, lc, f1, f2, f3, dk⟩ := hd.here.flds T
    have bad : (k < 0 ∨ 200 < k) → ∀ D, H D = none → Q (.ref D) (upd H D (.lst [.int (-3)])) := fun h D hD => by
      have hstep : Vaaclf.step st (.run k ns) = (st, [-3]) := by
        show (if k < 0 ∨ (200 : Int) < k then _ else _ : Vaaclf.State × Vaaclf.Answer) = _
        rw [if_pos h]
      exact (q.tell hd (by rw [hstep]) (xs := [-3]) (by rw [hstep])).new hD
    refine ⟨_, rfl, _, _, rfl, rfl, _, rfl, ite2 (fun c1 => iteT ⟨_, rfl, (by show 1 ≤ sizeLine; decide), bad (.inl (of_decide_eq_true c1))⟩) (fun c1 => ⟨_, rfl, _, _, rfl, rfl, _, rfl, ite2 (fun c2 => ⟨_, rfl, (by show 1 ≤ sizeLine; decide), bad (.inr (of_decide_eq_true c2))⟩) (fun c2 => ?_)⟩)⟩
    have k1 : ¬ k < 0 := fun e => c1 (decide_eq_true e)
    have k4 : ¬ 200 < k := fun e => c2 (decide_eq_true e)
    obtain ⟨n, rfl⟩ : ∃ n : Nat, k = (n : Nat) := ⟨k.toNat, by omega⟩
    have hstep : Vaaclf.step st (.run (n : Nat) ns) = (st, match VaaclBase.whole (valuesR st.counters) ns with
        | none => [-5]
        | some x => VaaclBase.howNumber (VaaclBase.runLoop st.loop n x 0).how :: Vaaclf.int (VaaclBase.runLoop st.loop n x 0).rounds :: ((VaaclBase.runLoop st.loop n x 0).values ++ st.claim.map fun f => Vaaclf.bit (Vaaclf.holds (VaaclBase.runLoop st.loop n x 0).values f))) := by
      show (if ((n : Nat) : Int) < 0 ∨ (200 : Int) < ((n : Nat) : Int) then _ else _ : Vaaclf.State × Vaaclf.Answer) = _
      rw [if_neg (by omega)]
      rfl
    refine ⟨⟨_, rfl, _, rfl, _, f1, l, ns, st.counters, rfl, hl, dk.ol.lt, ?_⟩, fun σ' H' hE => ⟨_, rfl, (by show 1 ≤ sizeLine; decide), fun D hD => ?_⟩⟩
    · unfold Whole
      cases hw : VaaclBase.whole (valuesR st.counters) ns with
      | none => exact fun H' s => ⟨rfl, s, rfl⟩
      | some x =>
        rintro v H1 s1 ⟨lv, rfl, hv⟩
        rw [hw] at hstep
        have hstep : Vaaclf.step st (.run (n : Nat) ns) = (st, VaaclBase.howNumber (VaaclBase.runLoop st.loop n x 0).how :: Vaaclf.int (VaaclBase.runLoop st.loop n x 0).rounds :: ((VaaclBase.runLoop st.loop n x 0).values ++ st.claim.map fun f => Vaaclf.bit (Vaaclf.holds (VaaclBase.runLoop st.loop n x 0).values f))) := hstep
        have lx := values_len hw
        have dk1 := dk.mono s1
        refine ⟨_, rfl, _, f2.mono s1, _, rfl, _, rfl, lb, lv, st.counters, n, st.loop, x, rfl, dk1.hb, dk.ol, fresh_sub _ _ hv, lx, fun e H2 s2 he hvl => ?_⟩
        generalize hO : VaaclBase.runLoop st.loop n x 0 = O at he hvl hstep
        obtain ⟨dxe, le, e1, e2⟩ := he
        have n4 := dk.ol.lt
        have c6 := dk.oc.len
        have s12 := s1.trans s2
        have g1 : ∀ {H' : Hp}, Same H2 H' → Fld K H' (.ref e) "outcome" (.int (VaaclBase.howNumber O.how)) := fun s => ⟨e, _, dxe, _, rfl, s _ _ e1, T.cl_Ending, T.na_Ending_outcome, rfl⟩
        have g2 : ∀ {H' : Hp}, Same H2 H' → Fld K H' (.ref e) "rounds" (.int (O.rounds : Nat)) := fun s => ⟨e, _, dxe, _, rfl, s _ _ e1, T.cl_Ending, T.na_Ending_rounds, rfl⟩
        have g3 : ∀ {H' : Hp}, Same H2 H' → Fld K H' (.ref e) "reached" (.ref le) := fun s => ⟨e, _, dxe, _, rfl, s _ _ e1, T.cl_Ending, T.na_Ending_reached, rfl⟩
        have dk2 := dk.mono s12
        obtain ⟨xs, hlc, hxs⟩ := dk2.hc
        refine ⟨_, rfl, _, f3.mono s12, lc, rfl, ⟨_, SqL.of hlc⟩, fun D hD => ?_⟩
        generalize hp : (st.claim.map fun f => Vaaclf.bit (Vaaclf.holds O.values f)) = ps at hstep
        have lp : ps.length = st.claim.length := by rw [← hp, List.length_map]
        refine lc_list (K := K) (xs := xs.map V.ref) (fun i H' => H' D = some (.lst ((ps.take i).map V.int)) ∧ Same H2 H') ⟨upd_same, Same.upd hD⟩ (fun i H' _ h => SqL.of (h.2 _ _ hlc)) ?_ ?_
        · rintro i y H' hx ⟨hD', hs⟩
          obtain ⟨z, hz, rfl⟩ := map_get hx
          obtain ⟨f', hf', fa⟩ := hxs.get hz
          obtain ⟨f, hf, rfl⟩ := map_get hf'
          have ms := mF_small dk.oc hvl (mF f) (List.mem_map.mpr ⟨f, List.mem_of_getElem? hf, rfl⟩)
          have ep : ps[i]? = some (Vaaclf.bit (Vaaclf.holds O.values f)) := by rw [← hp, List.getElem?_map, hf]; rfl
          refine ⟨rfl, yes ⟨_, rfl, _, rfl, _, g3 hs, z, le, mF f, O.values, rfl, fa.mono hs, hs _ _ e2, ms.1, by rw [hvl]; exact n4, ms.2.1, ms.2.2, fun H3 s3 => ⟨_, rfl, ?_⟩⟩⟩
          have fin : ∀ b : Bool, fHolds (mF f) O.values = b → ∃ acc, H3 D = some (.lst acc) ∧ acc.length < sizeLine ∧ ((upd H3 D (.lst (acc ++ [.int (if b = true then 1 else 0)]))) D = some (.lst ((ps.take (i + 1)).map V.int)) ∧ Same H2 (upd H3 D (.lst (acc ++ [.int (if b = true then 1 else 0)])))) := fun b hb => by
            refine ⟨_, s3 _ _ hD', by rw [List.length_map, List.length_take, lp, sizeLine_eq]; omega, ?_, fun b' o e' => by rw [upd_ne (ne_of_none e' hD)]; exact s3 _ _ (hs _ _ e')⟩
            rw [upd_same, take_snoc ep, List.map_append, ← fHolds_eq, hb]
            rfl
          cases hb : fHolds (mF f) O.values with
          | true => exact iteT (fin true hb)
          | false => exact iteF (fin false hb)
        · rintro H' ⟨hD', hs⟩
          rw [take_all ps (by rw [List.length_map, hxs.1, List.length_map]; omega)] at hD'
          have s2' := s12.trans hs
          refine ⟨_, rfl, _, g1 hs, _, rfl, _, g2 hs, (by show 2 ≤ sizeLine; decide), fun l1 h1 => ?_⟩
          have t1 := Same.upd h1 (o := .lst [.int (VaaclBase.howNumber O.how), .int (O.rounds : Nat)])
          refine ⟨_, rfl, _, g3 (hs.trans t1), l1, le, _, _, rfl, rfl, upd_same, t1 _ _ (hs _ _ e2), ?_, fun l2 h2 => ?_⟩
          · rw [List.length_map, hvl, sizeLine_eq]; show 2 + _ ≤ _; omega
          have t2 := t1.trans (Same.upd h2 (o := .lst ([.int (VaaclBase.howNumber O.how), .int (O.rounds : Nat)] ++ O.values.map V.int)))
          refine ⟨_, rfl, l2, D, _, _, rfl, rfl, upd_same, t2 _ _ hD', ?_, fun L hL => ?_⟩
          · rw [List.length_append, List.length_map, List.length_map, hvl, lp, sizeLine_eq]; show 2 + _ + _ ≤ _; omega
          · have z := ((q.tell hd (by rw [hstep]) (xs := VaaclBase.howNumber O.how :: (O.rounds : Int) :: (O.values ++ ps)) (by rw [hstep]; rfl)).shift (s2'.trans t2)).new hL
            rw [List.map_cons, List.map_cons, List.map_append] at z
            exact z
    · obtain ⟨_, sE, hw⟩ := hE
      rw [hw] at hstep
      exact ((q.tell hd (by rw [hstep]) (xs := [-5]) (by rw [hstep])).shift sE).new hD
end
end Lc
end
section
set_option Elab.async false
set_option linter.all false
set_option maxRecDepth 100000
set_option maxHeartbeats 1000000
namespace L2
open PySem PySem.Spec PyProof.Rows
theorem pass0N {X : Cx} : Passes (CXN X.prog X.w) X E0 := fun _ _ _ _ _ _ _ h => by
  obtain ⟨_, _, _, _, _, _, _, _, _, _, f⟩ := h
  exact f.elim
end L2
namespace Lc
open PySem PySem.Spec PyProof.Rows L2
section
variable {P : Program} {w : World} {K : PySem.W.Frag} {mg : Str → Option Value} {base : Heap} {a : Ad}
theorem eqF {i j : Int} (h : i ≠ j) {A B : Prop} (b : B) : if decide (V.int i = V.int j) = true then A else B := by
  rw [if_neg (fun e => h (decI.mp e))]
  exact b
theorem eqT {i j : Int} (h : i = j) {A B : Prop} (b : A) : if decide (V.int i = V.int j) = true then A else B := by
  rw [if_pos (decI.mpr h)]
  exact b
theorem take_post {c : Rd} {p : Nat} {H : Hp} {Q : VK} {E : XK} {x : Int} {rest : List Int} (e : c.ns.drop p = x :: rest) (k : ∀ H1 p1, But c.r H H1 → RdAt K a H1 c p1 → c.ns.drop p1 = rest → Q (.int x) H1) : Post K a c takeR IntR p H Q E := by
  unfold Post
  rw [e]
  intro v H' p' b rd e2 ev
  have ev : v = .int x := ev
  subst ev
  exact k H' p' b rd e2
theorem DeskOf.but {H H1 : Hp} {d r : Addr} {zs : List Addr} {st : Vaaclf.State} (h : DeskOf a H d zs st) (b : But r H H1) (m : r ∈ zs) (hr : H1 r ≠ none) : DeskOf a H1 d zs st := by
  refine ⟨h.at_.mono (hidL_but b m), fun z hz => ?_⟩
  by_cases e : z = r
  · rw [e]
    exact hr
  · cases q : H z with
    | none => exact absurd q (h.has z hz)
    | some o =>
      rw [b _ _ q e]
      intro z
      cases z
def NextPost (K : PySem.W.Frag) (a : Ad) (d : Addr) (c : Rd) (zs : List Addr) (st : Vaaclf.State) (k : Vaaclf.Call) (t : List Int) (H : Hp) (Q : VK) : Prop :=
  ∀ (D : Addr) (H' : Hp) (p' : Nat), H D = none → (∀ b o, H b = some o → b ≠ d → b ≠ c.r → H' b = some o) → RdAt K a H' c p' → c.ns.drop p' = t → DeskAt a (hidL zs H') d (Vaaclf.step st k).1 → H' D = some (.lst ((Vaaclf.step st k).2.map V.int)) → Q (.ref D) H'
def sp_answer_next (K : PySem.W.Frag) (a : Ad) : Sp := fun vs H Q _ => ∃ (d : Addr) (c : Rd) (p : Nat) (zs : List Addr) (st : Vaaclf.State) (k : Vaaclf.Call) (t : List Int), vs = [.ref d, .ref c.r] ∧ DeskOf a H d zs st ∧ c.r ∈ zs ∧ RdAt K a H c p ∧ CallAt (c.ns.drop p) t k ∧ NextPost K a d c zs st k t H Q
theorem sc_answer_next : FnScope ["desk", "reader", "call", "counters", "branch", "low", "most"] ["desk", "reader"] (defScope s_answer_next) := ⟨rfl, rfl, rfl, by decide +kernel, rfl, by decide +kernel, by decide +kernel⟩
theorem ok_answer_next (T : Txt K mg a) : FnOk P w K mg base CX0 11 a.f_answer_next a.d_answer_next ["desk", "reader"] (sp_answer_next K a) := by
  refine T.F_answer_next.ok sc_answer_next (fun vs H Q E h => ?_) (fun cdv A outer s H vs Q E hr h => ?_)
  · obtain ⟨d, c, p, zs, st, k, t, rfl, _⟩ := h
    rfl
  · obtain ⟨d, c, p, zs, st, k, t, rfl, hd, hm, rd, hc, q⟩ := h
    have hr2 : Room 2 _ := hr.mono (by decide)
    have hr3 : Room 3 _ := hr.mono (by decide)
    have hr4 : Room 4 _ := hr.mono (by decide)
    have hr5 : Room 5 _ := hr.mono (by decide)
    have hr6 : Room 6 _ := hr.mono (by decide)
    have hr7 : Room 7 _ := hr.mono (by decide)
    have hr8 : Room 8 _ := hr.mono (by decide)
    refine ⟨_, pss_cons (ps_set (i := 2) sc_answer_next.nd rfl (Or.inl rfl) (pe_meth0 (pv 1) T.cl_Reader T.me_Reader_take (ok_take T) hr2 T.b_Reader_take .nil pass0N))
      (pss_cons (ps_if (pt_cmpR op_eq (pv 2) (pe_cst T.c_LOOP) (nomark _))
        (pss_cons (ps_set (i := 3) sc_answer_next.nd rfl (Or.inl rfl) (pe_meth0 (pv 1) T.cl_Reader T.me_Reader_take (ok_take T) hr2 T.b_Reader_take .nil pass0N))
          (pss_one (ps_ret (pe_meth (pv 0) T.cl_Desk T.me_Desk_set_loop (ok_set_loop T) hr8 T.b_Desk_set_loop .nil pass0 (pa_cons (pv 3) (pa_cons (pe_meth0 (pv 1) T.cl_Reader T.me_Reader_take_row (ok_take_row T) hr3 T.b_Reader_take_row .nil pass0N) pa_nil)))))) pss_nil)
      (pss_cons (ps_if (pt_cmpR op_eq (pv 2) (pe_cst T.c_CLAIM) (nomark _))
        (pss_one (ps_ret (pe_meth (pv 0) T.cl_Desk T.me_Desk_set_claim (ok_set_claim T) hr7 T.b_Desk_set_claim .nil pass0 (pa_cons (pe_meth0 (pv 1) T.cl_Reader T.me_Reader_take_row (ok_take_row T) hr3 T.b_Reader_take_row .nil pass0N) pa_nil)))) pss_nil)
      (pss_cons (ps_if (pt_cmpR op_eq (pv 2) (pe_cst T.c_HOLDS) (nomark _))
        (pss_one (ps_ret (pe_meth (pv 0) T.cl_Desk T.me_Desk_tell_holds (ok_tell_holds T) hr5 T.b_Desk_tell_holds .nil pass0 (pa_cons (pe_meth0 (pv 1) T.cl_Reader T.me_Reader_take_row (ok_take_row T) hr3 T.b_Reader_take_row .nil pass0N) pa_nil)))) pss_nil)
      (pss_cons (ps_if (pt_cmpR op_eq (pv 2) (pe_cst T.c_SHOWN) (nomark _))
        (pss_cons (ps_set (i := 4) sc_answer_next.nd rfl (Or.inl rfl) (pe_meth0 (pv 1) T.cl_Reader T.me_Reader_take (ok_take T) hr2 T.b_Reader_take .nil pass0N))
          (pss_one (ps_ret (pe_meth (pv 0) T.cl_Desk T.me_Desk_tell_shown (ok_tell_shown T) hr7 T.b_Desk_tell_shown .nil pass0 (pa_cons (pv 4) (pa_cons (pe_meth0 (pv 1) T.cl_Reader T.me_Reader_take (ok_take T) hr2 T.b_Reader_take .nil pass0N) pa_nil)))))) pss_nil)
      (pss_cons (ps_if (pt_cmpR op_eq (pv 2) (pe_cst T.c_CHECK) (nomark _)) (pss_one (ps_ret (pe_meth0 (pv 0) T.cl_Desk T.me_Desk_tell_check (ok_tell_check T) hr8 T.b_Desk_tell_check .nil pass0))) pss_nil)
      (pss_cons (ps_if (pt_cmpR op_eq (pv 2) (pe_cst T.c_TRIM) (nomark _)) (pss_one (ps_ret (pe_meth0 (pv 0) T.cl_Desk T.me_Desk_tell_trim (ok_tell_trim T) hr T.b_Desk_tell_trim .nil pass0))) pss_nil)
      (pss_cons (ps_if (pt_cmpR op_eq (pv 2) (pe_cst T.c_USE) (nomark _)) (pss_one (ps_ret (pe_meth0 (pv 0) T.cl_Desk T.me_Desk_set_trimmed (ok_set_trimmed T) hr T.b_Desk_set_trimmed .nil pass0))) pss_nil)
      (pss_cons (ps_if (pt_cmpR op_eq (pv 2) (pe_cst T.c_BROKEN) (nomark _))
        (pss_cons (ps_set (i := 5) sc_answer_next.nd rfl (Or.inl rfl) (pe_meth0 (pv 1) T.cl_Reader T.me_Reader_take (ok_take T) hr2 T.b_Reader_take .nil pass0N))
          (pss_one (ps_ret (pe_meth (pv 0) T.cl_Desk T.me_Desk_tell_broken (ok_tell_broken T) hr6 T.b_Desk_tell_broken .nil pass0 (pa_cons (pv 5) (pa_cons (pe_meth0 (pv 1) T.cl_Reader T.me_Reader_take (ok_take T) hr2 T.b_Reader_take .nil pass0N) pa_nil)))))) pss_nil)
      (pss_cons (ps_if (pt_cmpR op_eq (pv 2) (pe_cst T.c_GOAL) (nomark _))
        (pss_one (ps_ret (pe_meth (pv 0) T.cl_Desk T.me_Desk_tell_goal (ok_tell_goal T) hr7 T.b_Desk_tell_goal .nil pass0 (pa_cons (pe_meth0 (pv 1) T.cl_Reader T.me_Reader_take_row (ok_take_row T) hr3 T.b_Reader_take_row .nil pass0N) pa_nil)))) pss_nil)
      (pss_cons (ps_if (pt_cmpR op_eq (pv 2) (pe_cst T.c_AT_END) (nomark _))
        (pss_one (ps_ret (pe_meth (pv 0) T.cl_Desk T.me_Desk_tell_at_end (ok_tell_at_end T) hr7 T.b_Desk_tell_at_end .nil pass0 (pa_cons (pe_meth0 (pv 1) T.cl_Reader T.me_Reader_take_row (ok_take_row T) hr3 T.b_Reader_take_row .nil pass0N) pa_nil)))) pss_nil)
      (pss_cons (ps_if (pt_cmpR op_eq (pv 2) (pe_cst T.c_RUN) (nomark _))
        (pss_cons (ps_set (i := 6) sc_answer_next.nd rfl (Or.inl rfl) (pe_meth0 (pv 1) T.cl_Reader T.me_Reader_take (ok_take T) hr2 T.b_Reader_take .nil pass0N))
          (pss_one (ps_ret (pe_meth (pv 0) T.cl_Desk T.me_Desk_tell_run (ok_tell_run T) hr5 T.b_Desk_tell_run .nil pass0 (pa_cons (pv 6) (pa_cons (pe_meth0 (pv 1) T.cl_Reader T.me_Reader_take_row (ok_take_row T) hr3 T.b_Reader_take_row .nil pass0N) pa_nil)))))) pss_nil)
      (pss_cons (ps_if (pt_cmpR op_eq (pv 2) (pe_cst T.c_AHEAD) (nomark _))
        (pss_cons (ps_set (i := 4) sc_answer_next.nd rfl (Or.inl rfl) (pe_meth0 (pv 1) T.cl_Reader T.me_Reader_take (ok_take T) hr2 T.b_Reader_take .nil pass0N))
          (pss_one (ps_ret (pe_meth (pv 0) T.cl_Desk T.me_Desk_tell_ahead (ok_tell_ahead T) hr4 T.b_Desk_tell_ahead .nil pass0 (pa_cons (pv 4) (pa_cons (pe_meth0 (pv 1) T.cl_Reader T.me_Reader_take (ok_take T) hr2 T.b_Reader_take .nil pass0N) pa_nil)))))) pss_nil)
      (pss_never))))))))))))), ?_⟩
    have dn : d ≠ c.r := fun z => hd.nz (z ▸ hm)
    have desk : ∀ {H1 : Hp}, But c.r H H1 → H1 c.r ≠ none → DeskOf a H1 d zs st ∧ ∃ dx fs, H1 d = some (.ins a.C_Desk dx fs) ∧ (∃ n lb lc, fs = deskFs n lb lc) := fun {H1} b hr => by
      have h1 := hd.but b hm hr
      obtain ⟨dx, lb, lc, e, _⟩ := h1.here.ex
      exact ⟨h1, dx, _, e, _, lb, lc, rfl⟩
    have fin : ∀ {H1 : Hp} {p1 : Nat}, But c.r H H1 → RdAt K a H1 c p1 → c.ns.drop p1 = t → StepPost a d zs st k H1 Q := fun {H1 p1} b rd1 e => by
      intro D H' nD bd dk hD
      obtain ⟨_, dx, fs, ed, _⟩ := desk b rd1.some
      exact q D H' p1 (Dom.but b rd1.some _ nD) (fun x o e1 h1 h2 => bd _ _ (b _ _ e1 h2) h1) (rd1.but ed (fun z => dn z.symm) bd) e dk hD
    have row : ∀ {H1 H2 : Hp} {p1 m : Nat} {rest : List Int}, But c.r H H1 → c.ns.drop p1 = (m : Int) :: rest → t = rest.drop m → But c.r H1 H2 → RdAt K a H2 c (p1 + 1 + m) → DeskOf a H2 d zs st ∧ StepPost a d zs st k H2 Q := fun {H1 H2 p1 m rest} b e1 e3 b2 rd2 => by
      have b12 := b.trans b2
      refine ⟨(desk b12 rd2.some).1, fin b12 rd2 ?_⟩
      have e4 : c.ns.drop (p1 + 1) = rest := by
        rw [← List.drop_drop, e1]
        rfl
      rw [← List.drop_drop, e4, e3]
    obtain ⟨dx0, h0⟩ := rd.ob
    cases k with
    | loop n xs =>
      obtain ⟨r, e, m, rest, em, lm, rfl, et⟩ := hc
      refine ⟨_, rfl, c.r, dx0, _, rfl, h0, rfl, c, p, rfl, rd, take_post e fun H1 p1 b1 rd1 e1 => ?_⟩
      refine ⟨_, rfl, rfl, _, rfl, eqT rfl ?_⟩
      obtain ⟨dx1, h1⟩ := rd1.ob
      refine ⟨_, rfl, c.r, dx1, _, rfl, h1, rfl, c, p1, rfl, rd1, take_post e1 fun H2 p2 b2 rd2 e2 => ?_⟩
      have b12 := b1.trans b2
      obtain ⟨dk2, dxd, fs, ed, n', lb', lc', rfl⟩ := desk b12 rd2.some
      obtain ⟨dx2, h2⟩ := rd2.ob
      refine ⟨_, rfl, d, dxd, _, rfl, ed, rfl, _, rfl, _, rfl, c.r, dx2, _, rfl, h2, rfl, c, p2, m, rest, rfl, rd2, by rw [e2]; exact em, lm, fun l H3 nl b3 rd3 el => ?_⟩
      obtain ⟨dk3, sp3⟩ := row b12 (by rw [e2]; exact em) et b3 rd3
      exact ⟨d, l, zs, st, n, _, rfl, dk3, el, sp3⟩
    | claim xs =>
      obtain ⟨r, e, m, rest, em, lm, rfl, et⟩ := hc
      refine ⟨_, rfl, c.r, dx0, _, rfl, h0, rfl, c, p, rfl, rd, take_post e fun H1 p1 b1 rd1 e1 => ?_⟩
      iterate 1 (refine ⟨_, rfl, rfl, _, rfl, eqF (by decide) ?_⟩)
      refine ⟨_, rfl, rfl, _, rfl, eqT rfl ?_⟩
      obtain ⟨dk1, dxd, fs, ed, n', lb', lc', rfl⟩ := desk b1 rd1.some
      obtain ⟨dx1, h1⟩ := rd1.ob
      refine ⟨_, rfl, d, dxd, _, rfl, ed, rfl, _, rfl, c.r, dx1, _, rfl, h1, rfl, c, p1, m, rest, rfl, rd1, by rw [e1]; exact em, lm, fun l H3 nl b3 rd3 el => ?_⟩
      obtain ⟨dk3, sp3⟩ := row b1 (by rw [e1]; exact em) et b3 rd3
      exact ⟨d, l, zs, st, _, rfl, dk3, el, sp3⟩
    | holds xs =>
      obtain ⟨r, e, m, rest, em, lm, rfl, et⟩ := hc
      refine ⟨_, rfl, c.r, dx0, _, rfl, h0, rfl, c, p, rfl, rd, take_post e fun H1 p1 b1 rd1 e1 => ?_⟩
      iterate 2 (refine ⟨_, rfl, rfl, _, rfl, eqF (by decide) ?_⟩)
      refine ⟨_, rfl, rfl, _, rfl, eqT rfl ?_⟩
      obtain ⟨dk1, dxd, fs, ed, n', lb', lc', rfl⟩ := desk b1 rd1.some
      obtain ⟨dx1, h1⟩ := rd1.ob
      refine ⟨_, rfl, d, dxd, _, rfl, ed, rfl, _, rfl, c.r, dx1, _, rfl, h1, rfl, c, p1, m, rest, rfl, rd1, by rw [e1]; exact em, lm, fun l H3 nl b3 rd3 el => ?_⟩
      obtain ⟨dk3, sp3⟩ := row b1 (by rw [e1]; exact em) et b3 rd3
      exact ⟨d, l, zs, st, _, rfl, dk3, el, sp3⟩
    | shown bb ff =>
      have e : c.ns.drop p = 3 :: bb :: ff :: t := hc
      refine ⟨_, rfl, c.r, dx0, _, rfl, h0, rfl, c, p, rfl, rd, take_post e fun H1 p1 b1 rd1 e1 => ?_⟩
      iterate 3 (refine ⟨_, rfl, rfl, _, rfl, eqF (by decide) ?_⟩)
      refine ⟨_, rfl, rfl, _, rfl, eqT rfl ?_⟩
      obtain ⟨dx1, h1⟩ := rd1.ob
      refine ⟨_, rfl, c.r, dx1, _, rfl, h1, rfl, c, p1, rfl, rd1, take_post e1 fun H2 p2 b2 rd2 e2 => ?_⟩
      have b12 := b1.trans b2
      obtain ⟨dk2, dxd, fs, ed, n', lb', lc', rfl⟩ := desk b12 rd2.some
      obtain ⟨dx2, h2⟩ := rd2.ob
      refine ⟨_, rfl, d, dxd, _, rfl, ed, rfl, _, rfl, _, rfl, c.r, dx2, _, rfl, h2, rfl, c, p2, rfl, rd2, take_post e2 fun H3 p3 b3 rd3 e3 => ?_⟩
      have b13 := b12.trans b3
      exact ⟨d, zs, st, bb, ff, rfl, (desk b13 rd3.some).1, fin b13 rd3 e3⟩
    | check =>
      have e : c.ns.drop p = 4 :: t := hc
      refine ⟨_, rfl, c.r, dx0, _, rfl, h0, rfl, c, p, rfl, rd, take_post e fun H1 p1 b1 rd1 e1 => ?_⟩
      iterate 4 (refine ⟨_, rfl, rfl, _, rfl, eqF (by decide) ?_⟩)
      refine ⟨_, rfl, rfl, _, rfl, eqT rfl ?_⟩
      obtain ⟨dk1, dxd, fs, ed, n', lb', lc', rfl⟩ := desk b1 rd1.some
      exact ⟨_, rfl, d, dxd, _, rfl, ed, rfl, d, zs, st, rfl, dk1, fin b1 rd1 e1⟩
    | trim =>
      have e : c.ns.drop p = 5 :: t := hc
      refine ⟨_, rfl, c.r, dx0, _, rfl, h0, rfl, c, p, rfl, rd, take_post e fun H1 p1 b1 rd1 e1 => ?_⟩
      iterate 5 (refine ⟨_, rfl, rfl, _, rfl, eqF (by decide) ?_⟩)
      refine ⟨_, rfl, rfl, _, rfl, eqT rfl ?_⟩
      obtain ⟨dk1, dxd, fs, ed, n', lb', lc', rfl⟩ := desk b1 rd1.some
      exact ⟨_, rfl, d, dxd, _, rfl, ed, rfl, d, zs, st, rfl, dk1, fin b1 rd1 e1⟩
    | use =>
      have e : c.ns.drop p = 6 :: t := hc
      refine ⟨_, rfl, c.r, dx0, _, rfl, h0, rfl, c, p, rfl, rd, take_post e fun H1 p1 b1 rd1 e1 => ?_⟩
      iterate 6 (refine ⟨_, rfl, rfl, _, rfl, eqF (by decide) ?_⟩)
      refine ⟨_, rfl, rfl, _, rfl, eqT rfl ?_⟩
      obtain ⟨dk1, dxd, fs, ed, n', lb', lc', rfl⟩ := desk b1 rd1.some
      exact ⟨_, rfl, d, dxd, _, rfl, ed, rfl, d, zs, st, rfl, dk1, fin b1 rd1 e1⟩
    | broken bb ff =>
      have e : c.ns.drop p = 7 :: bb :: ff :: t := hc
      refine ⟨_, rfl, c.r, dx0, _, rfl, h0, rfl, c, p, rfl, rd, take_post e fun H1 p1 b1 rd1 e1 => ?_⟩
      iterate 7 (refine ⟨_, rfl, rfl, _, rfl, eqF (by decide) ?_⟩)
      refine ⟨_, rfl, rfl, _, rfl, eqT rfl ?_⟩
      obtain ⟨dx1, h1⟩ := rd1.ob
      refine ⟨_, rfl, c.r, dx1, _, rfl, h1, rfl, c, p1, rfl, rd1, take_post e1 fun H2 p2 b2 rd2 e2 => ?_⟩
      have b12 := b1.trans b2
      obtain ⟨dk2, dxd, fs, ed, n', lb', lc', rfl⟩ := desk b12 rd2.some
      obtain ⟨dx2, h2⟩ := rd2.ob
      refine ⟨_, rfl, d, dxd, _, rfl, ed, rfl, _, rfl, _, rfl, c.r, dx2, _, rfl, h2, rfl, c, p2, rfl, rd2, take_post e2 fun H3 p3 b3 rd3 e3 => ?_⟩
      have b13 := b12.trans b3
      exact ⟨d, zs, st, bb, ff, rfl, (desk b13 rd3.some).1, fin b13 rd3 e3⟩
    | goal xs =>
      obtain ⟨r, e, m, rest, em, lm, rfl, et⟩ := hc
      refine ⟨_, rfl, c.r, dx0, _, rfl, h0, rfl, c, p, rfl, rd, take_post e fun H1 p1 b1 rd1 e1 => ?_⟩
      iterate 8 (refine ⟨_, rfl, rfl, _, rfl, eqF (by decide) ?_⟩)
      refine ⟨_, rfl, rfl, _, rfl, eqT rfl ?_⟩
      obtain ⟨dk1, dxd, fs, ed, n', lb', lc', rfl⟩ := desk b1 rd1.some
      obtain ⟨dx1, h1⟩ := rd1.ob
      refine ⟨_, rfl, d, dxd, _, rfl, ed, rfl, _, rfl, c.r, dx1, _, rfl, h1, rfl, c, p1, m, rest, rfl, rd1, by rw [e1]; exact em, lm, fun l H3 nl b3 rd3 el => ?_⟩
      obtain ⟨dk3, sp3⟩ := row b1 (by rw [e1]; exact em) et b3 rd3
      exact ⟨d, l, zs, st, _, rfl, dk3, el, sp3⟩
    | atEnd xs =>
      obtain ⟨r, e, m, rest, em, lm, rfl, et⟩ := hc
      refine ⟨_, rfl, c.r, dx0, _, rfl, h0, rfl, c, p, rfl, rd, take_post e fun H1 p1 b1 rd1 e1 => ?_⟩
      iterate 9 (refine ⟨_, rfl, rfl, _, rfl, eqF (by decide) ?_⟩)
      refine ⟨_, rfl, rfl, _, rfl, eqT rfl ?_⟩
      obtain ⟨dk1, dxd, fs, ed, n', lb', lc', rfl⟩ := desk b1 rd1.some
      obtain ⟨dx1, h1⟩ := rd1.ob
      refine ⟨_, rfl, d, dxd, _, rfl, ed, rfl, _, rfl, c.r, dx1, _, rfl, h1, rfl, c, p1, m, rest, rfl, rd1, by rw [e1]; exact em, lm, fun l H3 nl b3 rd3 el => ?_⟩
      obtain ⟨dk3, sp3⟩ := row b1 (by rw [e1]; exact em) et b3 rd3
      exact ⟨d, l, zs, st, _, rfl, dk3, el, sp3⟩
    | run n xs =>
      obtain ⟨r, e, m, rest, em, lm, rfl, et⟩ := hc
      refine ⟨_, rfl, c.r, dx0, _, rfl, h0, rfl, c, p, rfl, rd, take_post e fun H1 p1 b1 rd1 e1 => ?_⟩
      iterate 10 (refine ⟨_, rfl, rfl, _, rfl, eqF (by decide) ?_⟩)
      refine ⟨_, rfl, rfl, _, rfl, eqT rfl ?_⟩
      obtain ⟨dx1, h1⟩ := rd1.ob
      refine ⟨_, rfl, c.r, dx1, _, rfl, h1, rfl, c, p1, rfl, rd1, take_post e1 fun H2 p2 b2 rd2 e2 => ?_⟩
      have b12 := b1.trans b2
      obtain ⟨dk2, dxd, fs, ed, n', lb', lc', rfl⟩ := desk b12 rd2.some
      obtain ⟨dx2, h2⟩ := rd2.ob
      refine ⟨_, rfl, d, dxd, _, rfl, ed, rfl, _, rfl, _, rfl, c.r, dx2, _, rfl, h2, rfl, c, p2, m, rest, rfl, rd2, by rw [e2]; exact em, lm, fun l H3 nl b3 rd3 el => ?_⟩
      obtain ⟨dk3, sp3⟩ := row b12 (by rw [e2]; exact em) et b3 rd3
      exact ⟨d, l, zs, st, n, _, rfl, dk3, el, sp3⟩
    | ahead bb ff =>
      have e : c.ns.drop p = 11 :: bb :: ff :: t := hc
      refine ⟨_, rfl, c.r, dx0, _, rfl, h0, rfl, c, p, rfl, rd, take_post e fun H1 p1 b1 rd1 e1 => ?_⟩
      iterate 11 (refine ⟨_, rfl, rfl, _, rfl, eqF (by decide) ?_⟩)
      refine ⟨_, rfl, rfl, _, rfl, eqT rfl ?_⟩
      obtain ⟨dx1, h1⟩ := rd1.ob
      refine ⟨_, rfl, c.r, dx1, _, rfl, h1, rfl, c, p1, rfl, rd1, take_post e1 fun H2 p2 b2 rd2 e2 => ?_⟩
      have b12 := b1.trans b2
      obtain ⟨dk2, dxd, fs, ed, n', lb', lc', rfl⟩ := desk b12 rd2.some
      obtain ⟨dx2, h2⟩ := rd2.ob
      refine ⟨_, rfl, d, dxd, _, rfl, ed, rfl, _, rfl, _, rfl, c.r, dx2, _, rfl, h2, rfl, c, p2, rfl, rd2, take_post e2 fun H3 p3 b3 rd3 e3 => ?_⟩
      have b13 := b12.trans b3
      exact ⟨d, zs, st, bb, ff, rfl, (desk b13 rd3.some).1, fin b13 rd3 e3⟩
def sp_answers (K : PySem.W.Frag) : Sp := fun vs H Q _ => ∃ (l : Addr) (ns : List Int), vs = [.ref l] ∧ SqL K H l (ns.map V.int) ∧ PyVaaclf.answers_asked ns = true ∧ ∀ (D : Addr) (H' : Hp), H' D = some (.lst ((PyVaaclf.answers ns).map V.int)) → Q (.ref D) H'
theorem sc_answers : FnScope ["calls", "desk", "reader", "told", "answer"] ["calls"] (defScope s_answers) := ⟨rfl, rfl, rfl, by decide +kernel, rfl, by decide +kernel, by decide +kernel⟩
theorem ok_answers (T : Txt K mg a) : FnOk P w K mg base CX0 12 a.f_answers a.d_answers ["calls"] (sp_answers K) := by
  refine T.F_answers.ok sc_answers (fun vs H Q E h => ?_) (fun cdv A outer s H vs Q E hr h => ?_)
  · obtain ⟨l, ns, rfl, _⟩ := h
    rfl
  · obtain ⟨l, ns, rfl, hl, hask, q⟩ := h
    obtain ⟨cs0, hcs0, ha, hshort⟩ := asked_due hask
    have hr1 : Room 1 _ := hr.mono (by decide)
    have hr2 : Room 2 _ := hr.mono (by decide)
    have hr5 : Room 5 _ := hr.mono (by decide)
    refine ⟨_, pss_cons (ps_set (i := 1) sc_answers.nd rfl (Or.inl rfl) (pe_newDesk T hr5))
      (pss_cons (ps_set (i := 2) sc_answers.nd rfl (Or.inl rfl) (pe_newReader T hr2 (pa_cons (pv 0) pa_nil)))
      (pss_cons (ps_set (i := 3) sc_answers.nd rfl (Or.inl rfl) (pe_lst pa_nil))
      (pss_cons (ps_while PassesOwn.never (pt_not (pt_val (pe_meth0 (pv 2) T.cl_Reader T.me_Reader_is_over (ok_is_over T) hr1 T.b_Reader_is_over .nil pass0)))
        (pss_cons (ps_set (i := 4) sc_answers.nd rfl (Or.inl rfl) (pe_call (ok_answer_next T) hr rfl T.g_answer_next T.F_answer_next.kp T.b_answer_next .nil pass0 (pa_cons (pv 1) (pa_cons (pv 2) pa_nil))))
        (pss_cons (ps_expr (pe_bm PySem.F.plainAttrs_list PySem.F.slot_list_append PySem.F.type_list_append mt_append (pv 3) (pa_cons (pe_callB call_len_seq rfl T.bl_len PySem.boot_len (pa_cons (pv 4) pa_nil)) pa_nil)))
        (pss_one (ps_expr (pe_bm PySem.F.plainAttrs_list PySem.F.slot_list_extend PySem.F.type_list_extend mt_extend (pv 3) (pa_cons (pv 4) pa_nil)))))))
      (pss_one (ps_ret (pv 3)))))), ?_⟩
    intro d H1 nd s1 hdk
    refine ⟨_, rfl, l, rfl, fun r H2 nr s2 ⟨dxr, er⟩ => ⟨Nat.zero_le _, fun D hD => ?_⟩⟩
    have s12 := s1.trans s2
    have sD := Same.upd hD (o := .lst [])
    obtain ⟨dxd, lb0, lc0, ed, _⟩ := hdk.ex
    have edH1 := fresh_sub _ _ ed
    have rdn : r ≠ d := fun z => by rw [z, edH1] at nr; cases nr
    have rD : r ≠ D := fun z => by rw [z, hD] at er; cases er
    have rd0 : RdAt K a (upd H2 D (.lst [])) ⟨r, l, ns⟩ 0 := ⟨⟨dxr, sD _ _ er⟩, Same.seq (s12.trans sD) hl, Nat.zero_le _⟩
    have dk0 : DeskOf a (upd H2 D (.lst [])) d [r, D] Vaaclf.start := by
      refine ⟨hdk.mono fun b o e => ?_, fun z hz => ?_⟩
      · obtain ⟨f1, f2⟩ := fresh_get e
        have b1 : b ≠ r := fun z => by rw [z, nr] at f2; cases f2
        have b2 : b ≠ D := fun z => by have := s2 _ _ f2; rw [z, hD] at this; cases this
        refine hidL_mk (fun m => ?_) (sD _ _ (s2 _ _ f2))
        rcases List.mem_cons.mp m with z | m
        · exact b1 z
        · exact b2 (List.mem_singleton.mp m)
      · rcases List.mem_cons.mp hz with rfl | m
        · rw [sD _ _ er]
          intro z
          cases z
        · rw [List.mem_singleton.mp m, upd_same]
          intro z
          cases z
    have off : Off K ⟨r, l, ns⟩ D := by
      have rd2 : RdAt K a H2 ⟨r, l, ns⟩ 0 := ⟨⟨dxr, er⟩, Same.seq s12 hl, Nat.zero_le _⟩
      exact (rd2.new hD).2
    have dD : d ≠ D := fun z => by have := s2 _ _ edH1; rw [z, hD] at this; cases this
    refine ⟨fun m σ H' => ∃ (p : Nat) (st : Vaaclf.State) (cs : List (List (List Int))) (f : Nat) (acc : List Int) (v4 : Option V), m = ns.length - p ∧ σ = [some (.ref l), some (.ref d), some (.ref r), some (.ref D), v4] ∧ RdAt K a H' ⟨r, l, ns⟩ p ∧ DeskOf a H' d [r, D] st ∧ H' D = some (.lst (acc.map V.int)) ∧
      PyFlat.calls PyVaaclf.shape f (ns.drop p) = some cs ∧ acc ++ due st cs = PyVaaclf.answers ns, ⟨_, 0, Vaaclf.start, cs0, ns.length, [], none, rfl, rfl, rd0, dk0, upd_same, by rw [List.drop_zero]; exact hcs0, by rw [ha]; rfl⟩, ?_⟩
    rintro m σ H' ⟨p, st, cs, f, acc, v4, rfl, rfl, rd, dk, hT, hcs, hacc⟩
    obtain ⟨dx, h1⟩ := rd.ob
    refine ⟨_, rfl, r, dx, _, rfl, h1, rfl, ⟨r, l, ns⟩, p, rfl, rd, _, rfl, ?_⟩
    show if (!decide (ns.length ≤ p)) = true then _ else _
    by_cases hp : ns.length ≤ p
    · rw [decide_eq_true hp]
      refine iteF ⟨_, rfl, q D H' ?_⟩
      rw [List.drop_eq_nil_of_le hp] at hcs
      rw [calls_nil hcs, due_nil, List.append_nil] at hacc
      rw [← hacc]
      exact hT
    · rw [decide_eq_false hp]
      refine iteT ⟨_, fun σ' H'' h => h, ?_⟩
      have hdrop : ns.drop p = ns[p]'(by omega) :: ns.drop (p + 1) := List.drop_eq_getElem_cons (by omega)
      rw [hdrop] at hcs
      obtain ⟨f', c, t, cs', hcall, hcs', rfl⟩ := calls_cons hcs
      obtain ⟨k, hk, hat⟩ := call_at hcall
      rw [← hdrop] at hat
      rw [due_cons hk] at hacc
      have lt := callAt_lt hat
      have hlen : acc.length + 1 + (Vaaclf.step st k).2.length ≤ 10000000 := by
        rw [← ha, ← hacc, List.length_append, List.length_cons, List.length_append] at hshort
        omega
      refine ⟨_, rfl, _, rfl, d, ⟨r, l, ns⟩, p, [r, D], st, k, t, rfl, dk, List.mem_cons_self .., rd, hat, fun B H2 p' nB bk rd2 e2 dk2 hB => ?_⟩
      have hT2 : H2 D = some (.lst (acc.map V.int)) := bk _ _ hT (fun z => dD z.symm) (fun z => rD z.symm)
      have BD : B ≠ D := fun z => by rw [z, hT] at nB; cases nB
      generalize hans : (Vaaclf.step st k).2 = ans at hacc hlen hB
      refine ⟨_, rfl, .inl ⟨rfl, _, SqL.of hT2⟩, _, rfl, B, _, rfl, .inl (SqL.of hB), D, _, _, rfl, rfl, hT2, ?_, ?_⟩
      · rw [List.length_map, sizeLine_eq]; omega
      refine ⟨_, rfl, .inl ⟨rfl, _, SqL.of upd_same⟩, _, rfl, D, B, _, _, rfl, rfl, upd_same, by rw [upd_ne BD]; exact hB, ?_, ?_⟩
      · rw [List.length_append, List.length_map, List.length_map, sizeLine_eq]; show _ + 1 + _ ≤ _; omega
      rw [upd_upd]
      have e2 : ns.drop p' = t := e2
      have el : acc.map V.int ++ [V.int ((ans.map V.int).length : Nat)] ++ ans.map V.int = (acc ++ ((ans.length : Int) :: ans)).map V.int := by
        rw [List.length_map, List.map_append, List.map_cons, List.append_assoc]
        rfl
      rw [el]
      refine ⟨ns.length - p', ?_, p', (Vaaclf.step st k).1, cs', f', acc ++ ((ans.length : Int) :: ans), _, rfl, rfl, rd2.put rD off, ⟨dk2.mono (hidL_but But.upd (by simp)), fun z hz => ?_⟩, upd_same, by rw [e2]; exact hcs', ?_⟩
      · have l1 := congrArg List.length e2
        have l2 : (ns.drop p).length = ns.length - p := List.length_drop ..
        have lt : t.length < (ns.drop p).length := lt
        rw [List.length_drop] at l1
        omega
      · rcases List.mem_cons.mp hz with rfl | m
        · rw [upd_ne rD]
          exact rd2.some
        · rw [List.mem_singleton.mp m, upd_same]
          intro z
          cases z
      · rw [← hacc, List.append_assoc]
        rfl
end
end Lc
end
section
set_option Elab.async false
set_option linter.all false
set_option maxRecDepth 100000
namespace Lc.Kk
open PySem PySem.W L2
noncomputable section
def s (x : Str) (n : Nat) : Value := .str x n
def r (a : Addr) : Value := .ref a
def i (z : Int) : Value := .int z 0
def b (x : String) : Value := .builtin x
def t (l : List Value) : Obj := { cls := .type "tuple", data := .seq ⟨l⟩ }
def c (x : String) (l : List Value) : Obj := { cls := .type x, data := .fields ⟨l⟩ }
def z (l : List Value) : Obj := { cls := .none, data := .fields ⟨l⟩ }
def e (P : Params) (k : Str) (n : Nat) (v : Value) : DictEntry := { hash := PyData.keyHash P k, key := .str k n, val := v }
def d (l : List DictEntry) (n : Nat) : Obj := { cls := .type "dict", data := .dict ⟨l⟩ n }
def fn (x q : Str) (st : Stmt) (m : Value) (a : Addr) : Obj := { cls := .type "function", data := .func { name := x, qualname := q, params := defArgs st, body := .stmts (defBody st), scope := defScope st, globals := 3, closure := [], defaults := .none, kwdefaults := .none, pyModule := m, code := .ref a } }
def ft (x q : Str) (st : Stmt) : Obj := { cls := .none, data := .func { name := x, qualname := q, params := defArgs st, body := .stmts (defBody st), scope := defScope st, globals := 0, closure := [], defaults := .none, kwdefaults := .none } }
def cl (x : Str) (l m : List Value) (n : Addr) (sl : List (Option Value)) : Obj := { cls := .type "type", data := .cls { name := x, bases := l, mro := m, ns := n, qualname := x }, slots := ⟨sl⟩ }
def fr (l : List (Option Value)) : Obj := { cls := .type "frame", slots := ⟨l⟩ }
def p (n : Nat) : Value := s "/claim/cut.py" n
def m0 : Value := s "loopclaimsdesk.facts" 187
def m1 : Value := s "loopclaimsdesk.rounds" 259
def m2 : Value := s "loopclaimsdesk.breaking" 341
def m3 : Value := s "loopclaimsdesk.loops" 423
def m4 : Value := s "loopclaimsdesk.reading" 535
def m5 : Value := s "loopclaimsdesk.showing" 728
def m6 : Value := s "loopclaimsdesk.desk" 839
def m7 : Value := s "loopclaimsdesk.keeping" 1012
def o0 (P : Params) (g h : Obj) : List Obj := [PySem.W.boot_o_0 P,
 PySem.W.boot_o_1 P,
 PySem.W.boot_o_2 P,
 g,
 PySem.W.boot_o_4 P,
 PySem.W.boot_o_5 P,
 PySem.W.boot_o_6 P,
 PySem.W.boot_o_7 P,
 PySem.W.boot_o_8 P,
 PySem.W.boot_o_9 P,
 PySem.W.boot_o_10 P,
 t [],
 h,
 c "code" [s "<module>" 182, s "<module>" 183, p 184, i 1, i 0, i 0, i 0, i 0, r 11, .bool false, i 181, r 12, .none, .none, .none, .none, i 185, i 1, p 186],
 fr [some (r 13), some (r 3), some (r 3), none, some (s "__main__" 164), none, some (r 0)]]
def o1 (P : Params) : List Obj := [t [],
 c "builtin_function_or_method" [b "type.__prepare__", .type "type"],
 d [e P "__module__" 202 m0, e P "__qualname__" 204 (s "Fact" 203), e P "__firstlineno__" 206 (.int 5 205), e P "__init__" 217 (r 28), e P "__static_attributes__" 222 (r 29)] 5,
 t [],
 z [i 7, i 4, r 27],
 c "code" [s "Fact" 197, s "Fact" 198, p 199, i 5, i 0, i 0, i 0, i 0, r 18, .bool false, i 181, r 19, .none, .none, .none, .none, i 200, i 5, p 201],
 fr [some (r 20), some (r 3), some (r 17), none, some m0, none, some (r 0)],
 t [],
 z [],
 t [s "self" 210, s "times" 211, s "kind" 212, s "divisor" 213, s "number" 214],
 t [],
 ft "__init__" "Fact.__init__" s_Fact_init,
 c "code" [s "__init__" 207, s "Fact.__init__" 208, p 209, i 7, i 5, i 0, i 0, i 3, r 22, .bool true, i 181, r 23, .none, r 24, r 25, r 26, i 215, i 7, p 216],
 fn "__init__" "Fact.__init__" s_Fact_init m0 27,
 t [s "divisor" 218, s "kind" 219, s "number" 220, s "times" 221],
 d [e P "__module__" 202 m0, e P "__firstlineno__" 206 (.int 5 205), e P "__init__" 217 (r 28), e P "__static_attributes__" 222 (r 29), e P "__dict__" 224 (r 32), e P "__weakref__" 226 (r 33), e P "__doc__" 227 (.none)] 4,
 cl "Fact" [.type "object"] [r 31, .type "object"] 30 [none, none, some (s "Fact" 195), some (s "Fact" 203), some (b "object.__new__"), some (.bool true)],
 c "getset_descriptor" [s "__dict__" 223, r 31, b "function.__dict__", b "function.__dict__#set"],
 c "getset_descriptor" [s "__weakref__" 225, r 31, b "ExceptionGroup.__weakref__", .none],
 c "super" [r 31, r 31, r 31],
 c "builtin_function_or_method" [b "object.__init_subclass__", r 31],
 t [],
 z [],
 ft "holds_at" "holds_at" s_holds_at,
 c "code" [s "holds_at" 230, s "holds_at" 231, p 232, i 12, i 2, i 0, i 0, i 3, r 36, .bool true, i 181, r 37, .none, .none, .none, r 38, i 233, i 12, p 234],
 fn "holds_at" "holds_at" s_holds_at m0 39,
 t [],
 z [],
 t [s "facts" 239, s "values" 240, s "place" 241, s "fact" 242],
 t [],
 ft "first_not_holding" "first_not_holding" s_first_not_holding,
 c "code" [s "first_not_holding" 236, s "first_not_holding" 237, p 238, i 19, i 2, i 0, i 0, i 3, r 41, .bool true, i 181, r 42, .none, r 43, r 44, r 45, i 243, i 19, p 244],
 fn "first_not_holding" "first_not_holding" s_first_not_holding m0 46,
 t [],
 z [],
 ft "contrary" "contrary" s_contrary,
 c "code" [s "contrary" 246, s "contrary" 247, p 248, i 24, i 1, i 0, i 0, i 3, r 48, .bool true, i 181, r 49, .none, .none, .none, r 50, i 249, i 24, p 250],
 fn "contrary" "contrary" s_contrary m0 51,
 t [],
 z [],
 t [s "fact" 255],
 t [],
 ft "fact_as_numbers" "fact_as_numbers" s_fact_as_numbers,
 c "code" [s "fact_as_numbers" 252, s "fact_as_numbers" 253, p 254, i 26, i 1, i 0, i 0, i 3, r 53, .bool true, i 181, r 54, .none, r 55, r 56, r 57, i 256, i 26, p 257],
 fn "fact_as_numbers" "fact_as_numbers" s_fact_as_numbers m0 58,
 t [],
 c "builtin_function_or_method" [b "type.__prepare__", .type "type"],
 d [e P "__module__" 276 m1, e P "__qualname__" 278 (s "Ending" 277), e P "__firstlineno__" 280 (.int 35 279), e P "__init__" 290 (r 73), e P "__static_attributes__" 294 (r 74)] 5,
 t [],
 z [i 37, i 4, r 72],
 c "code" [s "Ending" 271, s "Ending" 272, p 273, i 35, i 0, i 0, i 0, i 0, r 63, .bool false, i 181, r 64, .none, .none, .none, .none, i 274, i 35, p 275],
 fr [some (r 65), some (r 3), some (r 62), none, some m1, none, some (r 0)],
 t [],
 z [],
 t [s "self" 284, s "outcome" 285, s "rounds" 286, s "reached" 287],
 t [],
 ft "__init__" "Ending.__init__" s_Ending_init,
 c "code" [s "__init__" 281, s "Ending.__init__" 282, p 283, i 37, i 4, i 0, i 0, i 3, r 67, .bool true, i 181, r 68, .none, r 69, r 70, r 71, i 288, i 37, p 289],
 fn "__init__" "Ending.__init__" s_Ending_init m1 72,
 t [s "outcome" 291, s "reached" 292, s "rounds" 293]]
def o2 (P : Params) : List Obj := [d [e P "__module__" 276 m1, e P "__firstlineno__" 280 (.int 35 279), e P "__init__" 290 (r 73), e P "__static_attributes__" 294 (r 74), e P "__dict__" 296 (r 77), e P "__weakref__" 298 (r 78), e P "__doc__" 299 (.none)] 4,
 cl "Ending" [.type "object"] [r 76, .type "object"] 75 [none, none, some (s "Ending" 269), some (s "Ending" 277), some (b "object.__new__"), some (.bool true)],
 c "getset_descriptor" [s "__dict__" 295, r 76, b "function.__dict__", b "function.__dict__#set"],
 c "getset_descriptor" [s "__weakref__" 297, r 76, b "ExceptionGroup.__weakref__", .none],
 c "super" [r 76, r 76, r 76],
 c "builtin_function_or_method" [b "object.__init_subclass__", r 76],
 t [],
 z [],
 t [s "branches" 305, s "values" 306, s "place" 307, s "branch" 308],
 t [],
 ft "chosen_place" "chosen_place" s_chosen_place,
 c "code" [s "chosen_place" 302, s "chosen_place" 303, p 304, i 41, i 2, i 0, i 0, i 3, r 81, .bool true, i 181, r 82, .none, r 83, r 84, r 85, i 309, i 41, p 310],
 fn "chosen_place" "chosen_place" s_chosen_place m1 86,
 t [],
 z [],
 t [s "move" 315, s "values" 316, s "behind" 317, s "given" 318, s "old" 319],
 t [],
 ft "moved" "moved" s_moved,
 c "code" [s "moved" 312, s "moved" 313, p 314, i 46, i 2, i 0, i 0, i 3, r 88, .bool true, i 181, r 89, .none, r 90, r 91, r 92, i 320, i 46, p 321],
 fn "moved" "moved" s_moved m1 93,
 t [],
 z [],
 ft "some_beyond" "some_beyond" s_some_beyond,
 c "code" [s "some_beyond" 323, s "some_beyond" 324, p 325, i 52, i 1, i 0, i 0, i 3, r 95, .bool true, i 181, r 96, .none, .none, .none, r 97, i 326, i 52, p 327],
 fn "some_beyond" "some_beyond" s_some_beyond m1 98,
 t [],
 z [],
 t [s "branches" 332, s "values" 333, s "most" 334, s "reached" 335, s "rounds" 336, s "place" 337],
 t [],
 ft "run_from" "run_from" s_run_from,
 c "code" [s "run_from" 329, s "run_from" 330, p 331, i 54, i 3, i 0, i 0, i 3, r 100, .bool true, i 181, r 101, .none, r 102, r 103, r 104, i 338, i 54, p 339],
 fn "run_from" "run_from" s_run_from m1 105,
 t [],
 c "builtin_function_or_method" [b "type.__prepare__", .type "type"],
 d [e P "__module__" 350 m2, e P "__qualname__" 352 (s "Break" 351), e P "__firstlineno__" 354 (.int 68 353), e P "__init__" 364 (r 120), e P "__static_attributes__" 368 (r 121)] 5,
 t [],
 z [i 70, i 4, r 119],
 c "code" [s "Break" 345, s "Break" 346, p 347, i 68, i 0, i 0, i 0, i 0, r 110, .bool false, i 181, r 111, .none, .none, .none, .none, i 348, i 68, p 349],
 fr [some (r 112), some (r 3), some (r 109), none, some m2, none, some (r 0)],
 t [],
 z [],
 t [s "self" 358, s "branch" 359, s "broken" 360, s "origin" 361],
 t [],
 ft "__init__" "Break.__init__" s_Break_init,
 c "code" [s "__init__" 355, s "Break.__init__" 356, p 357, i 70, i 4, i 0, i 0, i 3, r 114, .bool true, i 181, r 115, .none, r 116, r 117, r 118, i 362, i 70, p 363],
 fn "__init__" "Break.__init__" s_Break_init m2 119,
 t [s "branch" 365, s "broken" 366, s "origin" 367],
 d [e P "__module__" 350 m2, e P "__firstlineno__" 354 (.int 68 353), e P "__init__" 364 (r 120), e P "__static_attributes__" 368 (r 121), e P "__dict__" 370 (r 124), e P "__weakref__" 372 (r 125), e P "__doc__" 373 (.none)] 4,
 cl "Break" [.type "object"] [r 123, .type "object"] 122 [none, none, some (s "Break" 343), some (s "Break" 351), some (b "object.__new__"), some (.bool true)],
 c "getset_descriptor" [s "__dict__" 369, r 123, b "function.__dict__", b "function.__dict__#set"],
 c "getset_descriptor" [s "__weakref__" 371, r 123, b "ExceptionGroup.__weakref__", .none],
 c "super" [r 123, r 123, r 123],
 c "builtin_function_or_method" [b "object.__init_subclass__", r 123],
 t [],
 z [],
 t [s "low" 379, s "high" 380, s "counters" 381, s "size" 382, s "counter" 383],
 t [],
 ft "how_many_rows" "how_many_rows" s_how_many_rows,
 c "code" [s "how_many_rows" 376, s "how_many_rows" 377, p 378, i 74, i 3, i 0, i 0, i 3, r 128, .bool true, i 181, r 129, .none, r 130, r 131, r 132, i 384, i 74, p 385],
 fn "how_many_rows" "how_many_rows" s_how_many_rows m2 133]
def o3 (P : Params) : List Obj := [t [],
 z [],
 t [s "low" 390, s "high" 391, s "counters" 392, s "rows" 393, s "counter" 394, s "longer" 395, s "row" 396, s "value" 397],
 t [],
 ft "rows_of_values" "rows_of_values" s_rows_of_values,
 c "code" [s "rows_of_values" 387, s "rows_of_values" 388, p 389, i 79, i 3, i 0, i 0, i 3, r 135, .bool true, i 181, r 136, .none, r 137, r 138, r 139, i 398, i 79, p 399],
 fn "rows_of_values" "rows_of_values" s_rows_of_values m2 140,
 t [],
 z [],
 t [s "branches" 404, s "claim" 405, s "values" 406, s "branch" 407, s "broken" 408],
 t [],
 ft "break_at" "break_at" s_break_at,
 c "code" [s "break_at" 401, s "break_at" 402, p 403, i 88, i 3, i 0, i 0, i 3, r 142, .bool true, i 181, r 143, .none, r 144, r 145, r 146, i 409, i 88, p 410],
 fn "break_at" "break_at" s_break_at m2 147,
 t [],
 z [],
 t [s "branches" 415, s "claim" 416, s "rows" 417, s "row" 418, s "found" 419],
 t [],
 ft "first_break" "first_break" s_first_break,
 c "code" [s "first_break" 412, s "first_break" 413, p 414, i 98, i 3, i 0, i 0, i 3, r 149, .bool true, i 181, r 150, .none, r 151, r 152, r 153, i 420, i 98, p 421],
 fn "first_break" "first_break" s_first_break m2 154,
 t [],
 c "builtin_function_or_method" [b "type.__prepare__", .type "type"],
 d [e P "__module__" 432 m3, e P "__qualname__" 434 (s "Given" 433), e P "__firstlineno__" 436 (.int 105 435), e P "__init__" 445 (r 169), e P "__static_attributes__" 448 (r 170)] 5,
 t [],
 z [i 107, i 4, r 168],
 c "code" [s "Given" 427, s "Given" 428, p 429, i 105, i 0, i 0, i 0, i 0, r 159, .bool false, i 181, r 160, .none, .none, .none, .none, i 430, i 105, p 431],
 fr [some (r 161), some (r 3), some (r 158), none, some m3, none, some (r 0)],
 t [],
 z [],
 t [s "self" 440, s "source" 441, s "added" 442],
 t [],
 ft "__init__" "Given.__init__" s_Given_init,
 c "code" [s "__init__" 437, s "Given.__init__" 438, p 439, i 107, i 3, i 0, i 0, i 3, r 163, .bool true, i 181, r 164, .none, r 165, r 166, r 167, i 443, i 107, p 444],
 fn "__init__" "Given.__init__" s_Given_init m3 168,
 t [s "added" 446, s "source" 447],
 d [e P "__module__" 432 m3, e P "__firstlineno__" 436 (.int 105 435), e P "__init__" 445 (r 169), e P "__static_attributes__" 448 (r 170), e P "__dict__" 450 (r 173), e P "__weakref__" 452 (r 174), e P "__doc__" 453 (.none)] 4,
 cl "Given" [.type "object"] [r 172, .type "object"] 171 [none, none, some (s "Given" 425), some (s "Given" 433), some (b "object.__new__"), some (.bool true)],
 c "getset_descriptor" [s "__dict__" 449, r 172, b "function.__dict__", b "function.__dict__#set"],
 c "getset_descriptor" [s "__weakref__" 451, r 172, b "ExceptionGroup.__weakref__", .none],
 c "super" [r 172, r 172, r 172],
 c "builtin_function_or_method" [b "object.__init_subclass__", r 172],
 t [],
 c "builtin_function_or_method" [b "type.__prepare__", .type "type"],
 d [e P "__module__" 463 m3, e P "__qualname__" 465 (s "Branch" 464), e P "__firstlineno__" 467 (.int 110 466), e P "__init__" 476 (r 190), e P "__static_attributes__" 479 (r 191)] 5,
 t [],
 z [i 112, i 4, r 189],
 c "code" [s "Branch" 458, s "Branch" 459, p 460, i 110, i 0, i 0, i 0, i 0, r 180, .bool false, i 181, r 181, .none, .none, .none, .none, i 461, i 110, p 462],
 fr [some (r 182), some (r 3), some (r 179), none, some m3, none, some (r 0)],
 t [],
 z [],
 t [s "self" 471, s "tests" 472, s "move" 473],
 t [],
 ft "__init__" "Branch.__init__" s_Branch_init,
 c "code" [s "__init__" 468, s "Branch.__init__" 469, p 470, i 112, i 3, i 0, i 0, i 3, r 184, .bool true, i 181, r 185, .none, r 186, r 187, r 188, i 474, i 112, p 475],
 fn "__init__" "Branch.__init__" s_Branch_init m3 189,
 t [s "move" 477, s "tests" 478],
 d [e P "__module__" 463 m3, e P "__firstlineno__" 467 (.int 110 466), e P "__init__" 476 (r 190), e P "__static_attributes__" 479 (r 191), e P "__dict__" 481 (r 194), e P "__weakref__" 483 (r 195), e P "__doc__" 484 (.none)] 4,
 cl "Branch" [.type "object"] [r 193, .type "object"] 192 [none, none, some (s "Branch" 456), some (s "Branch" 464), some (b "object.__new__"), some (.bool true)],
 c "getset_descriptor" [s "__dict__" 480, r 193, b "function.__dict__", b "function.__dict__#set"]]
def o4 (P : Params) : List Obj := [c "getset_descriptor" [s "__weakref__" 482, r 193, b "ExceptionGroup.__weakref__", .none],
 c "super" [r 193, r 193, r 193],
 c "builtin_function_or_method" [b "object.__init_subclass__", r 193],
 t [],
 z [],
 t [s "tests" 490],
 t [],
 ft "never_chosen" "never_chosen" s_never_chosen,
 c "code" [s "never_chosen" 487, s "never_chosen" 488, p 489, i 115, i 0, i 0, i 0, i 3, r 198, .bool true, i 181, r 199, .none, r 200, r 201, r 202, i 491, i 115, p 492],
 fn "never_chosen" "never_chosen" s_never_chosen m3 203,
 t [],
 z [],
 t [s "move" 497, s "fact" 498, s "together" 499, s "number" 500, s "each" 501, s "given" 502],
 t [],
 ft "ahead_of" "ahead_of" s_ahead_of,
 c "code" [s "ahead_of" 494, s "ahead_of" 495, p 496, i 118, i 2, i 0, i 0, i 3, r 205, .bool true, i 181, r 206, .none, r 207, r 208, r 209, i 503, i 118, p 504],
 fn "ahead_of" "ahead_of" s_ahead_of m3 210,
 t [],
 z [],
 t [s "branch" 509],
 t [],
 ft "where_not_chosen" "where_not_chosen" s_where_not_chosen,
 c "code" [s "where_not_chosen" 506, s "where_not_chosen" 507, p 508, i 128, i 1, i 0, i 0, i 3, r 212, .bool true, i 181, r 213, .none, r 214, r 215, r 216, i 510, i 128, p 511],
 fn "where_not_chosen" "where_not_chosen" s_where_not_chosen m3 217,
 t [],
 z [],
 t [s "branches" 516, s "place" 517, s "claim" 518, s "usable" 519, s "branch" 520],
 t [],
 ft "usable_for" "usable_for" s_usable_for,
 c "code" [s "usable_for" 513, s "usable_for" 514, p 515, i 132, i 3, i 0, i 0, i 3, r 219, .bool true, i 181, r 220, .none, r 221, r 222, r 223, i 521, i 132, p 522],
 fn "usable_for" "usable_for" s_usable_for m3 224,
 t [],
 z [],
 t [s "branches" 527, s "claim" 528, s "usable" 529, s "branch" 530, s "known" 531],
 t [],
 ft "usable_at_end" "usable_at_end" s_usable_at_end,
 c "code" [s "usable_at_end" 524, s "usable_at_end" 525, p 526, i 137, i 2, i 0, i 0, i 3, r 226, .bool true, i 181, r 227, .none, r 228, r 229, r 230, i 532, i 137, p 533],
 fn "usable_at_end" "usable_at_end" s_usable_at_end m3 231,
 t [.int 2 551, .int 3 552, .int 4 553, .int 6 554],
 t [.type "ValueError"],
 c "builtin_function_or_method" [b "type.__prepare__", .type "type"],
 d [e P "__module__" 569 m4, e P "__qualname__" 571 (s "NotWhole" 570), e P "__firstlineno__" 573 (.int 157 572), e P "__static_attributes__" 574 (r 241)] 4,
 t [],
 z [],
 c "code" [s "NotWhole" 564, s "NotWhole" 565, p 566, i 157, i 0, i 0, i 0, i 0, r 237, .bool false, i 181, r 238, .none, .none, .none, .none, i 567, i 157, p 568],
 fr [some (r 239), some (r 3), some (r 236), none, some m4, none, some (r 0)],
 t [],
 d [e P "__module__" 569 m4, e P "__firstlineno__" 573 (.int 157 572), e P "__static_attributes__" 574 (r 241), e P "__weakref__" 576 (r 244), e P "__doc__" 577 (.none)] 3,
 cl "NotWhole" [.type "ValueError"] [r 243, .type "ValueError", .type "Exception", .type "BaseException", .type "object"] 242 [some (r 234), none, some (s "NotWhole" 562), some (s "NotWhole" 570), some (b "ValueError.__new__"), some (.bool true)],
 c "getset_descriptor" [s "__weakref__" 575, r 243, b "ExceptionGroup.__weakref__", .none],
 c "super" [r 243, r 243, r 243],
 c "builtin_function_or_method" [b "object.__init_subclass__", r 243],
 t [],
 c "builtin_function_or_method" [b "type.__prepare__", .type "type"],
 d [e P "__module__" 587 m4, e P "__qualname__" 589 (s "Reader" 588), e P "__firstlineno__" 591 (.int 159 590), e P "__init__" 599 (r 260), e P "is_over" 606 (r 267), e P "take" 614 (r 274), e P "take_from" 624 (r 281), e P "take_row" 633 (r 288), e P "must_be_over" 640 (r 295), e P "__static_attributes__" 643 (r 296)] 10,
 t [],
 z [i 161, i 4, r 259, i 165, i 4, r 266, i 168, i 4, r 273, i 175, i 4, r 280, i 181, i 4, r 287, i 187, i 4, r 294],
 c "code" [s "Reader" 582, s "Reader" 583, p 584, i 159, i 0, i 0, i 0, i 0, r 250, .bool false, i 181, r 251, .none, .none, .none, .none, i 585, i 159, p 586],
 fr [some (r 252), some (r 3), some (r 249), none, some m4, none, some (r 0)],
 t []]
def o5 (P : Params) : List Obj := [z [],
 t [s "self" 595, s "numbers" 596],
 t [],
 ft "__init__" "Reader.__init__" s_Reader_init,
 c "code" [s "__init__" 592, s "Reader.__init__" 593, p 594, i 161, i 2, i 0, i 0, i 3, r 254, .bool true, i 181, r 255, .none, r 256, r 257, r 258, i 597, i 161, p 598],
 fn "__init__" "Reader.__init__" s_Reader_init m4 259,
 t [],
 z [],
 t [s "self" 603],
 t [],
 ft "is_over" "Reader.is_over" s_Reader_is_over,
 c "code" [s "is_over" 600, s "Reader.is_over" 601, p 602, i 165, i 1, i 0, i 0, i 3, r 261, .bool true, i 181, r 262, .none, r 263, r 264, r 265, i 604, i 165, p 605],
 fn "is_over" "Reader.is_over" s_Reader_is_over m4 266,
 t [],
 z [],
 t [s "self" 610, s "number" 611],
 t [],
 ft "take" "Reader.take" s_Reader_take,
 c "code" [s "take" 607, s "Reader.take" 608, p 609, i 168, i 1, i 0, i 0, i 3, r 268, .bool true, i 181, r 269, .none, r 270, r 271, r 272, i 612, i 168, p 613],
 fn "take" "Reader.take" s_Reader_take m4 273,
 t [],
 z [],
 t [s "self" 618, s "low" 619, s "high" 620, s "number" 621],
 t [],
 ft "take_from" "Reader.take_from" s_Reader_take_from,
 c "code" [s "take_from" 615, s "Reader.take_from" 616, p 617, i 175, i 3, i 0, i 0, i 3, r 275, .bool true, i 181, r 276, .none, r 277, r 278, r 279, i 622, i 175, p 623],
 fn "take_from" "Reader.take_from" s_Reader_take_from m4 280,
 t [],
 z [],
 t [s "self" 628, s "size" 629, s "row" 630],
 t [],
 ft "take_row" "Reader.take_row" s_Reader_take_row,
 c "code" [s "take_row" 625, s "Reader.take_row" 626, p 627, i 181, i 1, i 0, i 0, i 3, r 282, .bool true, i 181, r 283, .none, r 284, r 285, r 286, i 631, i 181, p 632],
 fn "take_row" "Reader.take_row" s_Reader_take_row m4 287,
 t [],
 z [],
 t [s "self" 637],
 t [],
 ft "must_be_over" "Reader.must_be_over" s_Reader_must_be_over,
 c "code" [s "must_be_over" 634, s "Reader.must_be_over" 635, p 636, i 187, i 1, i 0, i 0, i 3, r 289, .bool true, i 181, r 290, .none, r 291, r 292, r 293, i 638, i 187, p 639],
 fn "must_be_over" "Reader.must_be_over" s_Reader_must_be_over m4 294,
 t [s "numbers" 641, s "place" 642],
 d [e P "__module__" 587 m4, e P "__firstlineno__" 591 (.int 159 590), e P "__init__" 599 (r 260), e P "is_over" 606 (r 267), e P "take" 614 (r 274), e P "take_from" 624 (r 281), e P "take_row" 633 (r 288), e P "must_be_over" 640 (r 295), e P "__static_attributes__" 643 (r 296), e P "__dict__" 645 (r 299), e P "__weakref__" 647 (r 300), e P "__doc__" 648 (.none)] 4,
 cl "Reader" [.type "object"] [r 298, .type "object"] 297 [none, none, some (s "Reader" 580), some (s "Reader" 588), some (b "object.__new__"), some (.bool true)],
 c "getset_descriptor" [s "__dict__" 644, r 298, b "function.__dict__", b "function.__dict__#set"],
 c "getset_descriptor" [s "__weakref__" 646, r 298, b "ExceptionGroup.__weakref__", .none],
 c "super" [r 298, r 298, r 298],
 c "builtin_function_or_method" [b "object.__init_subclass__", r 298]]
def o6 (P : Params) : List Obj := [t [],
 z [],
 t [s "reader" 654],
 t [],
 ft "read_number" "read_number" s_read_number,
 c "code" [s "read_number" 651, s "read_number" 652, p 653, i 190, i 1, i 0, i 0, i 3, r 303, .bool true, i 181, r 304, .none, r 305, r 306, r 307, i 655, i 190, p 656],
 fn "read_number" "read_number" s_read_number m4 308,
 t [],
 z [],
 t [s "reader" 661, s "times" 662, s "divisor" 663],
 t [],
 ft "read_remainder" "read_remainder" s_read_remainder,
 c "code" [s "read_remainder" 658, s "read_remainder" 659, p 660, i 192, i 2, i 0, i 0, i 3, r 310, .bool true, i 181, r 311, .none, r 312, r 313, r 314, i 664, i 192, p 665],
 fn "read_remainder" "read_remainder" s_read_remainder m4 315,
 t [],
 z [],
 t [s "reader" 670, s "counters" 671, s "kind" 672, s "counter" 673, s "times" 674, s "other" 675],
 t [],
 ft "read_test" "read_test" s_read_test,
 c "code" [s "read_test" 667, s "read_test" 668, p 669, i 197, i 2, i 0, i 0, i 3, r 317, .bool true, i 181, r 318, .none, r 319, r 320, r 321, i 676, i 197, p 677],
 fn "read_test" "read_test" s_read_test m4 322,
 t [],
 z [],
 t [s "reader" 682, s "counters" 683, s "source" 684],
 t [],
 ft "read_given" "read_given" s_read_given,
 c "code" [s "read_given" 679, s "read_given" 680, p 681, i 211, i 2, i 0, i 0, i 3, r 324, .bool true, i 181, r 325, .none, r 326, r 327, r 328, i 685, i 211, p 686],
 fn "read_given" "read_given" s_read_given m4 329,
 t [],
 z [],
 ft "read_branch" "read_branch" s_read_branch,
 c "code" [s "read_branch" 688, s "read_branch" 689, p 690, i 216, i 2, i 0, i 0, i 3, r 331, .bool true, i 181, r 332, .none, .none, .none, r 333, i 691, i 216, p 692],
 fn "read_branch" "read_branch" s_read_branch m4 334,
 t [],
 z [],
 ft "read_fact" "read_fact" s_read_fact,
 c "code" [s "read_fact" 694, s "read_fact" 695, p 696, i 221, i 2, i 0, i 0, i 3, r 336, .bool true, i 181, r 337, .none, .none, .none, r 338, i 697, i 221, p 698],
 fn "read_fact" "read_fact" s_read_fact m4 339,
 t [],
 z [],
 ft "whole_loop" "whole_loop" s_whole_loop,
 c "code" [s "whole_loop" 700, s "whole_loop" 701, p 702, i 227, i 2, i 0, i 0, i 3, r 341, .bool true, i 181, r 342, .none, .none, .none, r 343, i 703, i 227, p 704],
 fn "whole_loop" "whole_loop" s_whole_loop m4 344,
 t [],
 z [],
 ft "whole_claim" "whole_claim" s_whole_claim,
 c "code" [s "whole_claim" 706, s "whole_claim" 707, p 708, i 233, i 2, i 0, i 0, i 3, r 346, .bool true, i 181, r 347, .none, .none, .none, r 348, i 709, i 233, p 710],
 fn "whole_claim" "whole_claim" s_whole_claim m4 349,
 t [],
 z [],
 t [s "numbers" 715, s "counters" 716, s "reader" 717, s "fact" 718],
 t [],
 ft "whole_fact" "whole_fact" s_whole_fact,
 c "code" [s "whole_fact" 712, s "whole_fact" 713, p 714, i 239, i 2, i 0, i 0, i 3, r 351, .bool true, i 181, r 352, .none, r 353, r 354, r 355, i 719, i 239, p 720],
 fn "whole_fact" "whole_fact" s_whole_fact m4 356,
 t [],
 z [],
 ft "whole_values" "whole_values" s_whole_values,
 c "code" [s "whole_values" 722, s "whole_values" 723, p 724, i 244, i 2, i 0, i 0, i 3, r 358, .bool true, i 181, r 359, .none, .none, .none, r 360, i 725, i 244, p 726],
 fn "whole_values" "whole_values" s_whole_values m4 361]
def o7 (P : Params) : List Obj := [t [],
 c "builtin_function_or_method" [b "type.__prepare__", .type "type"],
 d [e P "__module__" 737 m5, e P "__qualname__" 739 (s "Use" 738), e P "__firstlineno__" 741 (.int 250 740), e P "__init__" 747 (r 374), e P "__static_attributes__" 752 (r 375)] 5,
 t [],
 z [i 252, i 4, r 373],
 c "code" [s "Use" 732, s "Use" 733, p 734, i 250, i 0, i 0, i 0, i 0, r 366, .bool false, i 181, r 367, .none, .none, .none, .none, i 735, i 250, p 736],
 fr [some (r 368), some (r 3), some (r 365), none, some m5, none, some (r 0)],
 t [],
 z [],
 ft "__init__" "Use.__init__" s_Use_init,
 c "code" [s "__init__" 742, s "Use.__init__" 743, p 744, i 252, i 4, i 0, i 0, i 3, r 370, .bool true, i 181, r 371, .none, .none, .none, r 372, i 745, i 252, p 746],
 fn "__init__" "Use.__init__" s_Use_init m5 373,
 t [s "number" 748, s "often" 749, s "place" 750, s "times" 751],
 d [e P "__module__" 737 m5, e P "__firstlineno__" 741 (.int 250 740), e P "__init__" 747 (r 374), e P "__static_attributes__" 752 (r 375), e P "__dict__" 754 (r 378), e P "__weakref__" 756 (r 379), e P "__doc__" 757 (.none)] 4,
 cl "Use" [.type "object"] [r 377, .type "object"] 376 [none, none, some (s "Use" 730), some (s "Use" 738), some (b "object.__new__"), some (.bool true)],
 c "getset_descriptor" [s "__dict__" 753, r 377, b "function.__dict__", b "function.__dict__#set"],
 c "getset_descriptor" [s "__weakref__" 755, r 377, b "ExceptionGroup.__weakref__", .none],
 c "super" [r 377, r 377, r 377],
 c "builtin_function_or_method" [b "object.__init_subclass__", r 377],
 t [],
 z [],
 t [s "fact" 763, s "target" 764],
 t [],
 ft "allowed_often" "allowed_often" s_allowed_often,
 c "code" [s "allowed_often" 760, s "allowed_often" 761, p 762, i 257, i 2, i 0, i 0, i 3, r 382, .bool true, i 181, r 383, .none, r 384, r 385, r 386, i 765, i 257, p 766],
 fn "allowed_often" "allowed_often" s_allowed_often m5 387,
 t [],
 z [],
 t [s "usable" 771, s "target" 772, s "uses" 773, s "place" 774, s "fact" 775, s "often" 776],
 t [],
 ft "allowed_uses" "allowed_uses" s_allowed_uses,
 c "code" [s "allowed_uses" 768, s "allowed_uses" 769, p 770, i 267, i 2, i 0, i 0, i 3, r 389, .bool true, i 181, r 390, .none, r 391, r 392, r 393, i 777, i 267, p 778],
 fn "allowed_uses" "allowed_uses" s_allowed_uses m5 394,
 t [],
 z [],
 ft "less" "less" s_less,
 c "code" [s "less" 780, s "less" 781, p 782, i 273, i 2, i 0, i 0, i 3, r 396, .bool true, i 181, r 397, .none, .none, .none, r 398, i 783, i 273, p 784],
 fn "less" "less" s_less m5 399,
 t [],
 z [],
 ft "shown_by_none" "shown_by_none" s_shown_by_none,
 c "code" [s "shown_by_none" 786, s "shown_by_none" 787, p 788, i 276, i 1, i 0, i 0, i 3, r 401, .bool true, i 181, r 402, .none, .none, .none, r 403, i 789, i 276, p 790],
 fn "shown_by_none" "shown_by_none" s_shown_by_none m5 404,
 t [],
 z [],
 t [s "target" 795, s "uses" 796, s "use" 797],
 t [],
 ft "first_single_use" "first_single_use" s_first_single_use,
 c "code" [s "first_single_use" 792, s "first_single_use" 793, p 794, i 283, i 2, i 0, i 0, i 3, r 406, .bool true, i 181, r 407, .none, r 408, r 409, r 410, i 798, i 283, p 799],
 fn "first_single_use" "first_single_use" s_first_single_use m5 411,
 t [],
 z [],
 ft "first_uses" "first_uses" s_first_uses,
 c "code" [s "first_uses" 801, s "first_uses" 802, p 803, i 288, i 2, i 0, i 0, i 3, r 413, .bool true, i 181, r 414, .none, .none, .none, r 415, i 804, i 288, p 805],
 fn "first_uses" "first_uses" s_first_uses m5 416,
 t [],
 z [],
 t [s "branches" 810, s "place" 811, s "claim" 812, s "fact" 813],
 t [],
 ft "uses_that_keep" "uses_that_keep" s_uses_that_keep]
def o8 (P : Params) : List Obj := [c "code" [s "uses_that_keep" 807, s "uses_that_keep" 808, p 809, i 301, i 4, i 0, i 0, i 3, r 418, .bool true, i 181, r 419, .none, r 420, r 421, r 422, i 814, i 301, p 815],
 fn "uses_that_keep" "uses_that_keep" s_uses_that_keep m5 423,
 t [],
 z [],
 t [s "branches" 820, s "place" 821, s "claim" 822, s "fact" 823],
 t [],
 ft "keeps" "keeps" s_keeps,
 c "code" [s "keeps" 817, s "keeps" 818, p 819, i 303, i 4, i 0, i 0, i 3, r 425, .bool true, i 181, r 426, .none, r 427, r 428, r 429, i 824, i 303, p 825],
 fn "keeps" "keeps" s_keeps m5 430,
 t [],
 z [],
 ft "kept_by_all" "kept_by_all" s_kept_by_all,
 c "code" [s "kept_by_all" 827, s "kept_by_all" 828, p 829, i 305, i 3, i 0, i 0, i 3, r 432, .bool true, i 181, r 433, .none, .none, .none, r 434, i 830, i 305, p 831],
 fn "kept_by_all" "kept_by_all" s_kept_by_all m5 435,
 t [],
 z [],
 ft "trimmed" "trimmed" s_trimmed,
 c "code" [s "trimmed" 833, s "trimmed" 834, p 835, i 307, i 2, i 0, i 0, i 3, r 437, .bool true, i 181, r 438, .none, .none, .none, r 439, i 836, i 307, p 837],
 fn "trimmed" "trimmed" s_trimmed m5 440,
 t [],
 z [],
 t [s "uses" 850, s "numbers" 851, s "use" 852],
 t [],
 ft "uses_as_numbers" "uses_as_numbers" s_uses_as_numbers,
 c "code" [s "uses_as_numbers" 847, s "uses_as_numbers" 848, p 849, i 319, i 1, i 0, i 0, i 3, r 442, .bool true, i 181, r 443, .none, r 444, r 445, r 446, i 853, i 319, p 854],
 fn "uses_as_numbers" "uses_as_numbers" s_uses_as_numbers m6 447,
 t [],
 z [],
 t [s "claim" 859, s "numbers" 860, s "fact" 861],
 t [],
 ft "claim_as_numbers" "claim_as_numbers" s_claim_as_numbers,
 c "code" [s "claim_as_numbers" 856, s "claim_as_numbers" 857, p 858, i 327, i 1, i 0, i 0, i 3, r 449, .bool true, i 181, r 450, .none, r 451, r 452, r 453, i 862, i 327, p 863],
 fn "claim_as_numbers" "claim_as_numbers" s_claim_as_numbers m6 454,
 t [],
 c "builtin_function_or_method" [b "type.__prepare__", .type "type"],
 d [e P "__module__" 872 m6, e P "__qualname__" 874 (s "Desk" 873), e P "__firstlineno__" 876 (.int 332 875), e P "__init__" 883 (r 469), e P "set_loop" 893 (r 476), e P "set_claim" 902 (r 483), e P "tell_holds" 912 (r 490), e P "refusal_of" 921 (r 497), e P "tell_shown" 931 (r 504), e P "tell_check" 941 (r 511), e P "tell_trim" 949 (r 518), e P "set_trimmed" 955 (r 523), e P "tell_broken" 965 (r 530), e P "tell_goal" 974 (r 537), e P "tell_at_end" 984 (r 544), e P "tell_run" 990 (r 549), e P "tell_ahead" 1000 (r 556), e P "__static_attributes__" 1004 (r 557)] 18,
 t [],
 z [i 334, i 4, r 468, i 339, i 4, r 475, i 351, i 4, r 482, i 359, i 4, r 489, i 369, i 4, r 496, i 376, i 4, r 503, i 382, i 4, r 510, i 389, i 4, r 517, i 393, i 4, r 522, i 397, i 4, r 529, i 407, i 4, r 536, i 414, i 4, r 543, i 424, i 4, r 548, i 435, i 4, r 555],
 c "code" [s "Desk" 867, s "Desk" 868, p 869, i 332, i 0, i 0, i 0, i 0, r 459, .bool false, i 181, r 460, .none, .none, .none, .none, i 870, i 332, p 871],
 fr [some (r 461), some (r 3), some (r 458), none, some m6, none, some (r 0)],
 t [],
 z [],
 t [s "self" 880],
 t [],
 ft "__init__" "Desk.__init__" s_Desk_init,
 c "code" [s "__init__" 877, s "Desk.__init__" 878, p 879, i 334, i 1, i 0, i 0, i 3, r 463, .bool true, i 181, r 464, .none, r 465, r 466, r 467, i 881, i 334, p 882],
 fn "__init__" "Desk.__init__" s_Desk_init m6 468,
 t [],
 z [],
 t [s "self" 887, s "counters" 888, s "numbers" 889, s "branches" 890],
 t [],
 ft "set_loop" "Desk.set_loop" s_Desk_set_loop,
 c "code" [s "set_loop" 884, s "Desk.set_loop" 885, p 886, i 339, i 3, i 0, i 0, i 3, r 470, .bool true, i 181, r 471, .none, r 472, r 473, r 474, i 891, i 339, p 892],
 fn "set_loop" "Desk.set_loop" s_Desk_set_loop m6 475,
 t [],
 z [],
 t [s "self" 897, s "numbers" 898, s "claim" 899],
 t [],
 ft "set_claim" "Desk.set_claim" s_Desk_set_claim,
 c "code" [s "set_claim" 894, s "Desk.set_claim" 895, p 896, i 351, i 2, i 0, i 0, i 3, r 477, .bool true, i 181, r 478, .none, r 479, r 480, r 481, i 900, i 351, p 901]]
def o9 (P : Params) : List Obj := [fn "set_claim" "Desk.set_claim" s_Desk_set_claim m6 482,
 t [],
 z [],
 t [s "self" 906, s "numbers" 907, s "values" 908, s "place" 909],
 t [],
 ft "tell_holds" "Desk.tell_holds" s_Desk_tell_holds,
 c "code" [s "tell_holds" 903, s "Desk.tell_holds" 904, p 905, i 359, i 2, i 0, i 0, i 3, r 484, .bool true, i 181, r 485, .none, r 486, r 487, r 488, i 910, i 359, p 911],
 fn "tell_holds" "Desk.tell_holds" s_Desk_tell_holds m6 489,
 t [],
 z [],
 t [s "self" 916, s "branch" 917, s "fact" 918],
 t [],
 ft "refusal_of" "Desk.refusal_of" s_Desk_refusal_of,
 c "code" [s "refusal_of" 913, s "Desk.refusal_of" 914, p 915, i 369, i 3, i 0, i 0, i 3, r 491, .bool true, i 181, r 492, .none, r 493, r 494, r 495, i 919, i 369, p 920],
 fn "refusal_of" "Desk.refusal_of" s_Desk_refusal_of m6 496,
 t [],
 z [],
 t [s "self" 925, s "branch" 926, s "fact" 927, s "refusal" 928],
 t [],
 ft "tell_shown" "Desk.tell_shown" s_Desk_tell_shown,
 c "code" [s "tell_shown" 922, s "Desk.tell_shown" 923, p 924, i 376, i 3, i 0, i 0, i 3, r 498, .bool true, i 181, r 499, .none, r 500, r 501, r 502, i 929, i 376, p 930],
 fn "tell_shown" "Desk.tell_shown" s_Desk_tell_shown m6 503,
 t [],
 z [],
 t [s "self" 935, s "branch" 936, s "place" 937, s "fact" 938],
 t [],
 ft "tell_check" "Desk.tell_check" s_Desk_tell_check,
 c "code" [s "tell_check" 932, s "Desk.tell_check" 933, p 934, i 382, i 1, i 0, i 0, i 3, r 505, .bool true, i 181, r 506, .none, r 507, r 508, r 509, i 939, i 382, p 940],
 fn "tell_check" "Desk.tell_check" s_Desk_tell_check m6 510,
 t [],
 z [],
 t [s "self" 945, s "places" 946],
 t [],
 ft "tell_trim" "Desk.tell_trim" s_Desk_tell_trim,
 c "code" [s "tell_trim" 942, s "Desk.tell_trim" 943, p 944, i 389, i 1, i 0, i 0, i 3, r 512, .bool true, i 181, r 513, .none, r 514, r 515, r 516, i 947, i 389, p 948],
 fn "tell_trim" "Desk.tell_trim" s_Desk_tell_trim m6 517,
 t [],
 z [],
 ft "set_trimmed" "Desk.set_trimmed" s_Desk_set_trimmed,
 c "code" [s "set_trimmed" 950, s "Desk.set_trimmed" 951, p 952, i 393, i 1, i 0, i 0, i 3, r 519, .bool true, i 181, r 520, .none, .none, .none, r 521, i 953, i 393, p 954],
 fn "set_trimmed" "Desk.set_trimmed" s_Desk_set_trimmed m6 522,
 t [],
 z [],
 t [s "self" 959, s "low" 960, s "high" 961, s "found" 962],
 t [],
 ft "tell_broken" "Desk.tell_broken" s_Desk_tell_broken,
 c "code" [s "tell_broken" 956, s "Desk.tell_broken" 957, p 958, i 397, i 3, i 0, i 0, i 3, r 524, .bool true, i 181, r 525, .none, r 526, r 527, r 528, i 963, i 397, p 964],
 fn "tell_broken" "Desk.tell_broken" s_Desk_tell_broken m6 529,
 t [],
 z [],
 t [s "self" 969, s "numbers" 970, s "fact" 971],
 t [],
 ft "tell_goal" "Desk.tell_goal" s_Desk_tell_goal,
 c "code" [s "tell_goal" 966, s "Desk.tell_goal" 967, p 968, i 407, i 2, i 0, i 0, i 3, r 531, .bool true, i 181, r 532, .none, r 533, r 534, r 535, i 972, i 407, p 973],
 fn "tell_goal" "Desk.tell_goal" s_Desk_tell_goal m6 536,
 t [],
 z [],
 t [s "self" 978, s "numbers" 979, s "fact" 980, s "usable" 981],
 t [],
 ft "tell_at_end" "Desk.tell_at_end" s_Desk_tell_at_end]
def o10 (P : Params) : List Obj := [c "code" [s "tell_at_end" 975, s "Desk.tell_at_end" 976, p 977, i 414, i 2, i 0, i 0, i 3, r 538, .bool true, i 181, r 539, .none, r 540, r 541, r 542, i 982, i 414, p 983],
 fn "tell_at_end" "Desk.tell_at_end" s_Desk_tell_at_end m6 543,
 t [],
 z [],
 ft "tell_run" "Desk.tell_run" s_Desk_tell_run,
 c "code" [s "tell_run" 985, s "Desk.tell_run" 986, p 987, i 424, i 3, i 0, i 0, i 3, r 545, .bool true, i 181, r 546, .none, .none, .none, r 547, i 988, i 424, p 989],
 fn "tell_run" "Desk.tell_run" s_Desk_tell_run m6 548,
 t [],
 z [],
 t [s "self" 994, s "branch" 995, s "fact" 996, s "refusal" 997],
 t [],
 ft "tell_ahead" "Desk.tell_ahead" s_Desk_tell_ahead,
 c "code" [s "tell_ahead" 991, s "Desk.tell_ahead" 992, p 993, i 435, i 3, i 0, i 0, i 3, r 550, .bool true, i 181, r 551, .none, r 552, r 553, r 554, i 998, i 435, p 999],
 fn "tell_ahead" "Desk.tell_ahead" s_Desk_tell_ahead m6 555,
 t [s "branches" 1001, s "claim" 1002, s "counters" 1003],
 d [e P "__module__" 872 m6, e P "__firstlineno__" 876 (.int 332 875), e P "__init__" 883 (r 469), e P "set_loop" 893 (r 476), e P "set_claim" 902 (r 483), e P "tell_holds" 912 (r 490), e P "refusal_of" 921 (r 497), e P "tell_shown" 931 (r 504), e P "tell_check" 941 (r 511), e P "tell_trim" 949 (r 518), e P "set_trimmed" 955 (r 523), e P "tell_broken" 965 (r 530), e P "tell_goal" 974 (r 537), e P "tell_at_end" 984 (r 544), e P "tell_run" 990 (r 549), e P "tell_ahead" 1000 (r 556), e P "__static_attributes__" 1004 (r 557), e P "__dict__" 1006 (r 560), e P "__weakref__" 1008 (r 561), e P "__doc__" 1009 (.none)] 4,
 cl "Desk" [.type "object"] [r 559, .type "object"] 558 [none, none, some (s "Desk" 865), some (s "Desk" 873), some (b "object.__new__"), some (.bool true)],
 c "getset_descriptor" [s "__dict__" 1005, r 559, b "function.__dict__", b "function.__dict__#set"],
 c "getset_descriptor" [s "__weakref__" 1007, r 559, b "ExceptionGroup.__weakref__", .none],
 c "super" [r 559, r 559, r 559],
 c "builtin_function_or_method" [b "object.__init_subclass__", r 559],
 t [.type "ValueError"],
 c "builtin_function_or_method" [b "type.__prepare__", .type "type"],
 d [e P "__module__" 1045 m7, e P "__qualname__" 1047 (s "UnknownCall" 1046), e P "__firstlineno__" 1049 (.int 453 1048), e P "__static_attributes__" 1050 (r 571)] 4,
 t [],
 z [],
 c "code" [s "UnknownCall" 1040, s "UnknownCall" 1041, p 1042, i 453, i 0, i 0, i 0, i 0, r 567, .bool false, i 181, r 568, .none, .none, .none, .none, i 1043, i 453, p 1044],
 fr [some (r 569), some (r 3), some (r 566), none, some m7, none, some (r 0)],
 t [],
 d [e P "__module__" 1045 m7, e P "__firstlineno__" 1049 (.int 453 1048), e P "__static_attributes__" 1050 (r 571), e P "__weakref__" 1052 (r 574), e P "__doc__" 1053 (.none)] 3,
 cl "UnknownCall" [.type "ValueError"] [r 573, .type "ValueError", .type "Exception", .type "BaseException", .type "object"] 572 [some (r 564), none, some (s "UnknownCall" 1038), some (s "UnknownCall" 1046), some (b "ValueError.__new__"), some (.bool true)],
 c "getset_descriptor" [s "__weakref__" 1051, r 573, b "ExceptionGroup.__weakref__", .none],
 c "super" [r 573, r 573, r 573],
 c "builtin_function_or_method" [b "object.__init_subclass__", r 573],
 t [],
 z [],
 t [s "desk" 1059, s "reader" 1060, s "call" 1061, s "counters" 1062, s "branch" 1063, s "low" 1064, s "most" 1065],
 t [],
 ft "answer_next" "answer_next" s_answer_next,
 c "code" [s "answer_next" 1056, s "answer_next" 1057, p 1058, i 455, i 2, i 0, i 0, i 3, r 577, .bool true, i 181, r 578, .none, r 579, r 580, r 581, i 1066, i 455, p 1067],
 fn "answer_next" "answer_next" s_answer_next m7 582,
 t [],
 z [],
 t [s "calls" 1072, s "desk" 1073, s "reader" 1074, s "told" 1075, s "answer" 1076],
 t [],
 ft "answers" "answers" s_answers,
 c "code" [s "answers" 1069, s "answers" 1070, p 1071, i 487, i 1, i 0, i 0, i 3, r 584, .bool true, i 181, r 585, .none, r 586, r 587, r 588, i 1077, i 487, p 1078],
 fn "answers" "answers" s_answers m7 589]
def rest (P : Params) : List Obj := o6 P ++ (o7 P ++ (o8 P ++ (o9 P ++ (o10 P))))
def some_ (P : Params) (l : List Obj) : List Obj := o1 P ++ (o2 P ++ (o3 P ++ (o4 P ++ (o5 P ++ (l)))))
def obs (P : Params) : List Obj := o0 P (d [e P "__name__" 165 m7, e P "__doc__" 166 (.none), e P "__package__" 167 (.none), e P "__loader__" 168 (b "__main__.__loader__#opaque"), e P "__spec__" 169 (.none), e P "__annotations__" 170 (r 6), e P "__builtins__" 171 (r 4), e P "__file__" 173 (p 172), e P "__cached__" 174 (.none), e P "AT_MOST" 190 (.int 0 189), e P "JUST" 192 (.int 1 191), e P "REMAINDER" 194 (.int 2 193), e P "Fact" 229 (r 31), e P "holds_at" 235 (r 40), e P "first_not_holding" 245 (r 47), e P "contrary" 251 (r 52), e P "fact_as_numbers" 258 (r 59), e P "OVER" 262 (.int 0 261), e P "BEYOND" 264 (.int 1 263), e P "CHOSEN_STILL" 266 (.int 2 265), e P "FARTHEST" 268 (.int 1000000000000 267), e P "Ending" 301 (r 76), e P "chosen_place" 311 (r 87), e P "moved" 322 (r 94), e P "some_beyond" 328 (r 99), e P "run_from" 340 (r 106), e P "Break" 375 (r 123), e P "how_many_rows" 386 (r 134), e P "rows_of_values" 400 (r 141), e P "break_at" 411 (r 148), e P "first_break" 422 (r 155), e P "Given" 455 (r 172), e P "Branch" 486 (r 193), e P "never_chosen" 493 (r 204), e P "ahead_of" 505 (r 211), e P "where_not_chosen" 512 (r 218), e P "usable_for" 523 (r 225), e P "usable_at_end" 534 (r 232), e P "MOST_BRANCHES" 538 (.int 3 537), e P "MOST_TESTS" 540 (.int 3 539), e P "MOST_FACTS" 542 (.int 6 541), e P "MOST_TIMES" 544 (.int 5 543), e P "MOST_ADDED" 546 (.int 99 545), e P "MOST_NUMBER" 548 (.int 999999 547), e P "MOST_VALUE" 550 (.int 1000000 549), e P "DIVISORS" 555 (r 233), e P "TEST_AT_LEAST" 557 (.int 1 556), e P "TEST_BELOW" 559 (.int 2 558), e P "TEST_REMAINDER" 561 (.int 3 560), e P "NotWhole" 579 (r 243), e P "Reader" 650 (r 298), e P "read_number" 657 (r 309), e P "read_remainder" 666 (r 316), e P "read_test" 678 (r 323), e P "read_given" 687 (r 330), e P "read_branch" 693 (r 335), e P "read_fact" 699 (r 340), e P "whole_loop" 705 (r 345), e P "whole_claim" 711 (r 350), e P "whole_fact" 721 (r 357), e P "whole_values" 727 (r 362), e P "Use" 759 (r 377), e P "allowed_often" 767 (r 388), e P "allowed_uses" 779 (r 395), e P "less" 785 (r 400), e P "shown_by_none" 791 (r 405), e P "first_single_use" 800 (r 412), e P "first_uses" 806 (r 417), e P "uses_that_keep" 816 (r 424), e P "keeps" 826 (r 431), e P "kept_by_all" 832 (r 436), e P "trimmed" 838 (r 441), e P "MOST_COUNTERS" 842 (.int 4 841), e P "MOST_ROUNDS" 844 (.int 200 843), e P "MOST_ROWS" 846 (.int 125 845), e P "uses_as_numbers" 855 (r 448), e P "claim_as_numbers" 864 (r 455), e P "Desk" 1011 (r 559), e P "LOOP" 1015 (.int 0 1014), e P "CLAIM" 1017 (.int 1 1016), e P "HOLDS" 1019 (.int 2 1018), e P "SHOWN" 1021 (.int 3 1020), e P "CHECK" 1023 (.int 4 1022), e P "TRIM" 1025 (.int 5 1024), e P "USE" 1027 (.int 6 1026), e P "BROKEN" 1029 (.int 7 1028), e P "GOAL" 1031 (.int 8 1030), e P "AT_END" 1033 (.int 9 1032), e P "RUN" 1035 (.int 10 1034), e P "AHEAD" 1037 (.int 11 1036), e P "UnknownCall" 1055 (r 573), e P "answer_next" 1068 (r 583), e P "answers" 1079 (r 590)] 93) (z [i 5, i 0, r 20, i 12, i 0, r 39, i 19, i 0, r 46, i 24, i 0, r 51, i 26, i 0, r 58, i 35, i 0, r 65, i 41, i 0, r 86, i 46, i 0, r 93, i 52, i 0, r 98, i 54, i 0, r 105, i 68, i 0, r 112, i 74, i 0, r 133, i 79, i 0, r 140, i 88, i 0, r 147, i 98, i 0, r 154, i 105, i 0, r 161, i 110, i 0, r 182, i 115, i 0, r 203, i 118, i 0, r 210, i 128, i 0, r 217, i 132, i 0, r 224, i 137, i 0, r 231, i 157, i 0, r 239, i 159, i 0, r 252, i 190, i 0, r 308, i 192, i 0, r 315, i 197, i 0, r 322, i 211, i 0, r 329, i 216, i 0, r 334, i 221, i 0, r 339, i 227, i 0, r 344, i 233, i 0, r 349, i 239, i 0, r 356, i 244, i 0, r 361, i 250, i 0, r 368, i 257, i 0, r 387, i 267, i 0, r 394, i 273, i 0, r 399, i 276, i 0, r 404, i 283, i 0, r 411, i 288, i 0, r 416, i 301, i 0, r 423, i 303, i 0, r 430, i 305, i 0, r 435, i 307, i 0, r 440, i 319, i 0, r 447, i 327, i 0, r 454, i 332, i 0, r 461, i 453, i 0, r 569, i 455, i 0, r 582, i 487, i 0, r 589]) ++ some_ P (rest P)
def mid (P : Params) : List Obj := o0 P (d [e P "__name__" 165 m4, e P "__doc__" 166 (.none), e P "__package__" 167 (.none), e P "__loader__" 168 (b "__main__.__loader__#opaque"), e P "__spec__" 169 (.none), e P "__annotations__" 170 (r 6), e P "__builtins__" 171 (r 4), e P "__file__" 173 (p 172), e P "__cached__" 174 (.none), e P "AT_MOST" 190 (.int 0 189), e P "JUST" 192 (.int 1 191), e P "REMAINDER" 194 (.int 2 193), e P "Fact" 229 (r 31), e P "holds_at" 235 (r 40), e P "first_not_holding" 245 (r 47), e P "contrary" 251 (r 52), e P "fact_as_numbers" 258 (r 59), e P "OVER" 262 (.int 0 261), e P "BEYOND" 264 (.int 1 263), e P "CHOSEN_STILL" 266 (.int 2 265), e P "FARTHEST" 268 (.int 1000000000000 267), e P "Ending" 301 (r 76), e P "chosen_place" 311 (r 87), e P "moved" 322 (r 94), e P "some_beyond" 328 (r 99), e P "run_from" 340 (r 106), e P "Break" 375 (r 123), e P "how_many_rows" 386 (r 134), e P "rows_of_values" 400 (r 141), e P "break_at" 411 (r 148), e P "first_break" 422 (r 155), e P "Given" 455 (r 172), e P "Branch" 486 (r 193), e P "never_chosen" 493 (r 204), e P "ahead_of" 505 (r 211), e P "where_not_chosen" 512 (r 218), e P "usable_for" 523 (r 225), e P "usable_at_end" 534 (r 232), e P "MOST_BRANCHES" 538 (.int 3 537), e P "MOST_TESTS" 540 (.int 3 539), e P "MOST_FACTS" 542 (.int 6 541), e P "MOST_TIMES" 544 (.int 5 543), e P "MOST_ADDED" 546 (.int 99 545), e P "MOST_NUMBER" 548 (.int 999999 547), e P "MOST_VALUE" 550 (.int 1000000 549), e P "DIVISORS" 555 (r 233), e P "TEST_AT_LEAST" 557 (.int 1 556), e P "TEST_BELOW" 559 (.int 2 558), e P "TEST_REMAINDER" 561 (.int 3 560), e P "NotWhole" 579 (r 243), e P "Reader" 650 (r 298)] 51) (z [i 5, i 0, r 20, i 12, i 0, r 39, i 19, i 0, r 46, i 24, i 0, r 51, i 26, i 0, r 58, i 35, i 0, r 65, i 41, i 0, r 86, i 46, i 0, r 93, i 52, i 0, r 98, i 54, i 0, r 105, i 68, i 0, r 112, i 74, i 0, r 133, i 79, i 0, r 140, i 88, i 0, r 147, i 98, i 0, r 154, i 105, i 0, r 161, i 110, i 0, r 182, i 115, i 0, r 203, i 118, i 0, r 210, i 128, i 0, r 217, i 132, i 0, r 224, i 137, i 0, r 231, i 157, i 0, r 239, i 159, i 0, r 252]) ++ some_ P []
def ini (P : Params) : List Obj := o0 P (PySem.W.boot_o_3 P) (z [])
def ev : List Obj → List Obj
  | [] => []
  | [x] => [x]
  | x :: _ :: l => x :: ev l
def bt : Nat → List Obj → BT
  | 0, _ => .nil
  | _, [] => .nil
  | k + 1, x :: l => .node x (bt k (ev l)) (bt k (ev l.tail))
def as : List Addr := [2, 3, 22, 24, 25, 27, 28, 29, 30, 31, 32, 33, 36, 39, 40, 41, 43, 44, 46, 47, 48, 51, 52, 53, 55, 56, 58, 59, 67, 69, 70, 72, 73, 74, 75, 76, 77, 78, 81, 83, 84, 86, 87, 88, 90, 91, 93, 94, 95, 98, 99, 100, 102, 103, 105, 106, 114, 116, 117, 119, 120, 121, 122, 123, 124, 125, 128, 130, 131, 133, 134, 135, 137, 138, 140, 141, 142, 144, 145, 147, 148, 149, 151, 152, 154, 155, 163, 165, 166, 168, 169, 170, 171, 172, 173, 174, 184, 186, 187, 189, 190, 191, 192, 193, 194, 195, 198, 200, 201, 203, 204, 205, 207, 208, 210, 211, 212, 214, 215, 217, 218, 219, 221, 222, 224, 225, 226, 228, 229, 231, 232, 233, 234, 241, 242, 243, 244, 254, 256, 257, 259, 260, 261, 263, 264, 266, 267, 268, 270, 271, 273, 274, 275, 277, 278, 280, 281, 282, 284, 285, 287, 288, 289, 291, 292, 294, 295, 296, 297, 298, 299, 300, 303, 305, 306, 308, 309, 310, 312, 313, 315, 316, 317, 319, 320, 322, 323, 324, 326, 327, 329, 330, 331, 334, 335, 336, 339, 340, 341, 344, 345, 346, 349, 350, 351, 353, 354, 356, 357, 358, 361, 362, 370, 373, 374, 375, 376, 377, 378, 379, 382, 384, 385, 387, 388, 389, 391, 392, 394, 395, 396, 399, 400, 401, 404, 405, 406, 408, 409, 411, 412, 413, 416, 417, 418, 420, 421, 423, 424, 425, 427, 428, 430, 431, 432, 435, 436, 437, 440, 441, 442, 444, 445, 447, 448, 449, 451, 452, 454, 455, 463, 465, 466, 468, 469, 470, 472, 473, 475, 476, 477, 479, 480, 482, 483, 484, 486, 487, 489, 490, 491, 493, 494, 496, 497, 498, 500, 501, 503, 504, 505, 507, 508, 510, 511, 512, 514, 515, 517, 518, 519, 522, 523, 524, 526, 527, 529, 530, 531, 533, 534, 536, 537, 538, 540, 541, 543, 544, 545, 548, 549, 550, 552, 553, 555, 556, 557, 558, 559, 560, 561, 564, 571, 572, 573, 574, 577, 579, 580, 582, 583, 584, 586, 587, 589, 590]
def K (P : Params) : Frag := as.map fun a => (a, ((obs P)[a]?).getD default)
end
end Lc.Kk
end
section
set_option Elab.async false
set_option linter.all false
set_option maxRecDepth 100000
namespace Lc.Kk
open PySem PySem.W L2
noncomputable section
abbrev pw : Program := PySem.Challenge.pw_loopclaimsdesk_s01_answers
def E : Env := { scope := pw.main.scope, locals := mainNs, globals := mainNs, cells := [], code := .ref 13, frame := some 14 }
def B : List Stmt := behindTheImports pw
def C : Code := .body B E
abbrev p0 : Pos := ⟨0, 0, 0, 0⟩
abbrev p1 : Pos := ⟨159, 0, 189, 28⟩
abbrev p2 : Pos := ⟨487, 0, 495, 15⟩
def ST (l : List Obj) (n k : Nat) (o : OsState) : SharedT := ⟨bt 11 l, n, {}, ⟨[]⟩, {}, k, o⟩
def H1 (P : Params) : Heap := absHeap (bt 11 (obs P)) 591 {}
theorem pre (w : World) (o : OsState) : topGo treeTable pw w 11 (some (.ref 6)) 12 ⟨boot_heap w.params, ⟨[]⟩, boot_drawn, boot_toks, o⟩ (topStub pw) = some (⟨⟨⟨ini w.params⟩, {}⟩, ⟨[]⟩, {}, 187, o⟩, ⟨denote treeTable C, C, p0, [topFrame p0]⟩) := by kernel_rfl
theorem blk (w : World) (o : OsState) : segRun treeTable pw w 11 (some (.ref 6)) 1 1 ⟨⟨⟨ini w.params⟩, {}⟩, ⟨[]⟩, {}, 187, o⟩ (blockOf B E C p0 [topFrame p0]) = some (.next, (ST (ini w.params) 15 187 o).abs, C, p0) := by kernel_rfl
theorem runA (w : World) (o : OsState) : segRunT treeTable pw w 11 (some (.ref 6)) 1 2600 (ST (ini w.params) 15 187 o) (piecesOf (B.take 47) E C p0 [topFrame p0]) = some (.next, ST (mid w.params) 303 651 o, C, p1) := by kernel_rfl
theorem runB (w : World) (o : OsState) : segRunT treeTable pw w 11 (some (.ref 6)) 1 2100 (ST (mid w.params) 303 651 o) (piecesOf (B.drop 47) E C p1 [topFrame p0]) = some (.next, ST (obs w.params) 591 1080 o, C, p2) := by kernel_rfl
theorem fin (w : World) (o : OsState) : topRun treeTable pw w 11 (some (.ref 6)) 2 (ST (obs w.params) 591 1080 o).abs (restOf [] E C p2 [topFrame p0]) = some ⟨H1 w.params, ⟨[]⟩, {}, 1080, o⟩ := by kernel_rfl
theorem run (w : World) (o : OsState) : topRun treeTable pw w 11 (some (.ref 6)) (12 + (1 + (2600 + (2100 + 2)))) ⟨boot_heap w.params, ⟨[]⟩, boot_drawn, boot_toks, o⟩ (topStub pw) = some ⟨H1 w.params, ⟨[]⟩, {}, 1080, o⟩ := by
  refine go_top (pre w o) (piece_block (blk w o) ?_)
  have h : topRun treeTable pw w 11 (some (.ref 6)) (2600 + (2100 + 2)) (ST (ini w.params) 15 187 o).abs (restOf (B.take 47 ++ B.drop 47) E C p0 [topFrame p0]) = some ⟨H1 w.params, ⟨[]⟩, {}, 1080, o⟩ := by
    refine piece_app (segRun_of (runA w o)) ?_
    have h2 : topRun treeTable pw w 11 (some (.ref 6)) (2100 + 2) (ST (mid w.params) 303 651 o).abs (restOf (B.drop 47 ++ []) E C p1 [topFrame p0]) = some ⟨H1 w.params, ⟨[]⟩, {}, 1080, o⟩ := piece_app (segRun_of (runB w o)) (fin w o)
    rw [List.append_nil] at h2
    exact h2
  rw [List.take_append_drop] at h
  exact h
end
end Lc.Kk
end
section
set_option Elab.async false
set_option linter.all false
set_option maxRecDepth 100000
namespace Lc.Kk
open PySem PySem.W L2
noncomputable section
def vw : Program := { pw with main := { pw.main with body := [top 1, top 2, top 3, top 4, top 5, top 6, top 7, top 8, top 10, top 11, top 12, top 13, top 14, top 15, top 16, top 17, top 18, top 20, top 21, top 22, top 23, top 24, top 26, top 27, top 28, top 29, top 30, top 31, top 32, top 34, top 35, top 36, top 37, top 38, top 39, top 40, top 41, top 42, top 43, top 44, top 45, top 46, top 47, top 48, top 49, top 50, top 51, top 52, top 53, top 54, top 55, top 56, top 58, top 59, top 60, top 61, top 62, top 63, top 64, top 65, top 66, top 67, top 68, top 70, top 71, top 72, top 73, top 74, top 75, top 77, top 78, top 79, top 80, top 81, top 82, top 83, top 84, top 85, top 86, top 87, top 88, top 89, top 90, top 91] } }
def Hk : Hook := kHook K as (fun P => by kernel_rfl)
theorem opn (w : World) : (fencedOpening treeTable pw w 8854).map (fun s => (s.heap, s.gens, s.drawn, s.toks)) = some (boot_heap w.params, ⟨[]⟩, boot_drawn, boot_toks) := boot_open (by kernel_rfl) (by decide) (fun s => by kernel_rfl) w
theorem siz (w : World) : ((boot_heap w.params).isNs mainGlobals && (⟨[]⟩ : Array GenState).size == 0, (boot_heap w.params).objs.size, (boot_heap w.params).nsMap mainGlobals "__annotations__") = (true, 11, some (.ref 6)) := by kernel_rfl
theorem lk1 (w : World) : (fun os => staticsOk (importedModules pw.main.body) (boot_heap w.params) (H1 w.params) && namesBound pw (H1 w.params) && gensDone ⟨H1 w.params, ⟨[]⟩, {}, 1080, os⟩ && laidKept (boot_heap w.params) (H1 w.params)) = fun _ : OsState => true := by kernel_rfl
theorem lk2 (w : World) : (fun os => openSeen vw [] (importedModules pw.main.body) (fun s => xlAt vw [] s && recOk [] s) true ⟨H1 w.params, ⟨[]⟩, {}, 1080, os⟩) = fun _ : OsState => openGood vw [] := by kernel_rfl
theorem lk3 (w : World) : (fun os => Hook.obs Hk ⟨H1 w.params, ⟨[]⟩, {}, 1080, os⟩) = fun _ : OsState => Hook.val Hk w := by kernel_rfl
theorem left : LeftO pw vw [] (fun s => xlAt vw [] s && recOk [] s) (Hook.obs Hk) (Hook.val Hk) 8854 true :=
  LeftO.of_pieces opn siz run (by decide) fun w => funext fun os => Prod.ext (congrFun (lk1 w) os) (Prod.ext (congrFun (lk2 w) os) (congrFun (lk3 w) os))
end
end Lc.Kk
end
section
set_option Elab.async false
set_option linter.all false
set_option maxRecDepth 100000
set_option maxHeartbeats 0
namespace Lc.Kk
open PySem PySem.W L2
noncomputable section
def fd (x q : Str) (st : Stmt) (m : Value) (a : Addr) : FuncData := { name := x, qualname := q, params := defArgs st, body := .stmts (defBody st), scope := defScope st, globals := 3, closure := [], defaults := .none, kwdefaults := .none, pyModule := m, code := .ref a }
theorem mF {P : Params} {x q : Str} {st : Stmt} {f : Addr} {m : Value} {a : Addr} (h : ((K P).lookup f, codeIn (K P) (.ref a) q, keepIn (K P) (.ref f)) = (some (fn x q st m a), true, true)) : Fun (K P) x q st f (fd x q st m a) :=
  fun_mk (kV := .none) (doc := .none) (an := none) (ct := .none) (oc := .type "function") (od := none) (osl := #[]) (Prod.mk.inj h).1 (Prod.mk.inj (Prod.mk.inj h).2).1 (Prod.mk.inj (Prod.mk.inj h).2).2
theorem mC {K : Frag} {C : Addr} (h : (plainGet K C Str.empty, hasDictIn K C, plainOver K C, findIn K (.ref C) "__setattr__") = (true, true, true, some (some (.builtin "object.__setattr__")))) : Cls K C :=
  ⟨(Prod.mk.inj h).1, (Prod.mk.inj (Prod.mk.inj h).2).1, (Prod.mk.inj (Prod.mk.inj (Prod.mk.inj h).2).2).1, (Prod.mk.inj (Prod.mk.inj (Prod.mk.inj h).2).2).2⟩
theorem mK {K : Frag} {C f : Addr} (h : (makesIn K C, findIn K (.ref C) "__init__", isFn K (.ref f), keepIn K (.ref C)) = (true, some (some (.ref f)), true, true)) : Mk K C f :=
  ⟨(Prod.mk.inj h).1, (Prod.mk.inj (Prod.mk.inj h).2).1, (Prod.mk.inj (Prod.mk.inj (Prod.mk.inj h).2).2).1, (Prod.mk.inj (Prod.mk.inj (Prod.mk.inj h).2).2).2⟩
theorem mM {K : Frag} {C f : Addr} {m : Str} (h : (findIn K (.ref C) m, isFn K (.ref f), keepIn K (.ref f)) = (some (some (.ref f)), true, true)) : Meth K C m f :=
  ⟨(Prod.mk.inj h).1, (Prod.mk.inj (Prod.mk.inj h).2).1, (Prod.mk.inj (Prod.mk.inj h).2).2⟩
theorem cI {K : Frag} {h : Heap} {mg : Str → Option Value} (X : K.In h) (G : h.Ns mainGlobals mg) {x : Str} {n : Int} (t : Tok) (a : nsIn K mainGlobals x = some (some (.int n t))) : Cst mg x (.int n) := ⟨_, mg_of X G a, t, rfl⟩
theorem F_Fact_init (P : Params) : Fun (K P) "__init__" "Fact.__init__" s_Fact_init 28 (fd "__init__" "Fact.__init__" s_Fact_init m0 27) := mF (by kernel_rfl)
theorem F_holds_at (P : Params) : Fun (K P) "holds_at" "holds_at" s_holds_at 40 (fd "holds_at" "holds_at" s_holds_at m0 39) := mF (by kernel_rfl)
theorem F_first_not_holding (P : Params) : Fun (K P) "first_not_holding" "first_not_holding" s_first_not_holding 47 (fd "first_not_holding" "first_not_holding" s_first_not_holding m0 46) := mF (by kernel_rfl)
theorem F_contrary (P : Params) : Fun (K P) "contrary" "contrary" s_contrary 52 (fd "contrary" "contrary" s_contrary m0 51) := mF (by kernel_rfl)
theorem F_fact_as_numbers (P : Params) : Fun (K P) "fact_as_numbers" "fact_as_numbers" s_fact_as_numbers 59 (fd "fact_as_numbers" "fact_as_numbers" s_fact_as_numbers m0 58) := mF (by kernel_rfl)
theorem F_Ending_init (P : Params) : Fun (K P) "__init__" "Ending.__init__" s_Ending_init 73 (fd "__init__" "Ending.__init__" s_Ending_init m1 72) := mF (by kernel_rfl)
theorem F_chosen_place (P : Params) : Fun (K P) "chosen_place" "chosen_place" s_chosen_place 87 (fd "chosen_place" "chosen_place" s_chosen_place m1 86) := mF (by kernel_rfl)
theorem F_moved (P : Params) : Fun (K P) "moved" "moved" s_moved 94 (fd "moved" "moved" s_moved m1 93) := mF (by kernel_rfl)
theorem F_some_beyond (P : Params) : Fun (K P) "some_beyond" "some_beyond" s_some_beyond 99 (fd "some_beyond" "some_beyond" s_some_beyond m1 98) := mF (by kernel_rfl)
theorem F_run_from (P : Params) : Fun (K P) "run_from" "run_from" s_run_from 106 (fd "run_from" "run_from" s_run_from m1 105) := mF (by kernel_rfl)
theorem F_Break_init (P : Params) : Fun (K P) "__init__" "Break.__init__" s_Break_init 120 (fd "__init__" "Break.__init__" s_Break_init m2 119) := mF (by kernel_rfl)
theorem F_how_many_rows (P : Params) : Fun (K P) "how_many_rows" "how_many_rows" s_how_many_rows 134 (fd "how_many_rows" "how_many_rows" s_how_many_rows m2 133) := mF (by kernel_rfl)
theorem F_rows_of_values (P : Params) : Fun (K P) "rows_of_values" "rows_of_values" s_rows_of_values 141 (fd "rows_of_values" "rows_of_values" s_rows_of_values m2 140) := mF (by kernel_rfl)
theorem F_break_at (P : Params) : Fun (K P) "break_at" "break_at" s_break_at 148 (fd "break_at" "break_at" s_break_at m2 147) := mF (by kernel_rfl)
theorem F_first_break (P : Params) : Fun (K P) "first_break" "first_break" s_first_break 155 (fd "first_break" "first_break" s_first_break m2 154) := mF (by kernel_rfl)
theorem F_Given_init (P : Params) : Fun (K P) "__init__" "Given.__init__" s_Given_init 169 (fd "__init__" "Given.__init__" s_Given_init m3 168) := mF (by kernel_rfl)
theorem F_Branch_init (P : Params) : Fun (K P) "__init__" "Branch.__init__" s_Branch_init 190 (fd "__init__" "Branch.__init__" s_Branch_init m3 189) := mF (by kernel_rfl)
theorem F_never_chosen (P : Params) : Fun (K P) "never_chosen" "never_chosen" s_never_chosen 204 (fd "never_chosen" "never_chosen" s_never_chosen m3 203) := mF (by kernel_rfl)
theorem F_ahead_of (P : Params) : Fun (K P) "ahead_of" "ahead_of" s_ahead_of 211 (fd "ahead_of" "ahead_of" s_ahead_of m3 210) := mF (by kernel_rfl)
theorem F_where_not_chosen (P : Params) : Fun (K P) "where_not_chosen" "where_not_chosen" s_where_not_chosen 218 (fd "where_not_chosen" "where_not_chosen" s_where_not_chosen m3 217) := mF (by kernel_rfl)
theorem F_usable_for (P : Params) : Fun (K P) "usable_for" "usable_for" s_usable_for 225 (fd "usable_for" "usable_for" s_usable_for m3 224) := mF (by kernel_rfl)
theorem F_usable_at_end (P : Params) : Fun (K P) "usable_at_end" "usable_at_end" s_usable_at_end 232 (fd "usable_at_end" "usable_at_end" s_usable_at_end m3 231) := mF (by kernel_rfl)
theorem F_Reader_init (P : Params) : Fun (K P) "__init__" "Reader.__init__" s_Reader_init 260 (fd "__init__" "Reader.__init__" s_Reader_init m4 259) := mF (by kernel_rfl)
theorem F_Reader_is_over (P : Params) : Fun (K P) "is_over" "Reader.is_over" s_Reader_is_over 267 (fd "is_over" "Reader.is_over" s_Reader_is_over m4 266) := mF (by kernel_rfl)
theorem F_Reader_take (P : Params) : Fun (K P) "take" "Reader.take" s_Reader_take 274 (fd "take" "Reader.take" s_Reader_take m4 273) := mF (by kernel_rfl)
theorem F_Reader_take_from (P : Params) : Fun (K P) "take_from" "Reader.take_from" s_Reader_take_from 281 (fd "take_from" "Reader.take_from" s_Reader_take_from m4 280) := mF (by kernel_rfl)
theorem F_Reader_take_row (P : Params) : Fun (K P) "take_row" "Reader.take_row" s_Reader_take_row 288 (fd "take_row" "Reader.take_row" s_Reader_take_row m4 287) := mF (by kernel_rfl)
theorem F_Reader_must_be_over (P : Params) : Fun (K P) "must_be_over" "Reader.must_be_over" s_Reader_must_be_over 295 (fd "must_be_over" "Reader.must_be_over" s_Reader_must_be_over m4 294) := mF (by kernel_rfl)
theorem F_read_number (P : Params) : Fun (K P) "read_number" "read_number" s_read_number 309 (fd "read_number" "read_number" s_read_number m4 308) := mF (by kernel_rfl)
theorem F_read_remainder (P : Params) : Fun (K P) "read_remainder" "read_remainder" s_read_remainder 316 (fd "read_remainder" "read_remainder" s_read_remainder m4 315) := mF (by kernel_rfl)
theorem F_read_test (P : Params) : Fun (K P) "read_test" "read_test" s_read_test 323 (fd "read_test" "read_test" s_read_test m4 322) := mF (by kernel_rfl)
theorem F_read_given (P : Params) : Fun (K P) "read_given" "read_given" s_read_given 330 (fd "read_given" "read_given" s_read_given m4 329) := mF (by kernel_rfl)
theorem F_read_branch (P : Params) : Fun (K P) "read_branch" "read_branch" s_read_branch 335 (fd "read_branch" "read_branch" s_read_branch m4 334) := mF (by kernel_rfl)
theorem F_read_fact (P : Params) : Fun (K P) "read_fact" "read_fact" s_read_fact 340 (fd "read_fact" "read_fact" s_read_fact m4 339) := mF (by kernel_rfl)
theorem F_whole_loop (P : Params) : Fun (K P) "whole_loop" "whole_loop" s_whole_loop 345 (fd "whole_loop" "whole_loop" s_whole_loop m4 344) := mF (by kernel_rfl)
theorem F_whole_claim (P : Params) : Fun (K P) "whole_claim" "whole_claim" s_whole_claim 350 (fd "whole_claim" "whole_claim" s_whole_claim m4 349) := mF (by kernel_rfl)
theorem F_whole_fact (P : Params) : Fun (K P) "whole_fact" "whole_fact" s_whole_fact 357 (fd "whole_fact" "whole_fact" s_whole_fact m4 356) := mF (by kernel_rfl)
theorem F_whole_values (P : Params) : Fun (K P) "whole_values" "whole_values" s_whole_values 362 (fd "whole_values" "whole_values" s_whole_values m4 361) := mF (by kernel_rfl)
theorem F_Use_init (P : Params) : Fun (K P) "__init__" "Use.__init__" s_Use_init 374 (fd "__init__" "Use.__init__" s_Use_init m5 373) := mF (by kernel_rfl)
theorem F_allowed_often (P : Params) : Fun (K P) "allowed_often" "allowed_often" s_allowed_often 388 (fd "allowed_often" "allowed_often" s_allowed_often m5 387) := mF (by kernel_rfl)
theorem F_allowed_uses (P : Params) : Fun (K P) "allowed_uses" "allowed_uses" s_allowed_uses 395 (fd "allowed_uses" "allowed_uses" s_allowed_uses m5 394) := mF (by kernel_rfl)
theorem F_less (P : Params) : Fun (K P) "less" "less" s_less 400 (fd "less" "less" s_less m5 399) := mF (by kernel_rfl)
theorem F_shown_by_none (P : Params) : Fun (K P) "shown_by_none" "shown_by_none" s_shown_by_none 405 (fd "shown_by_none" "shown_by_none" s_shown_by_none m5 404) := mF (by kernel_rfl)
theorem F_first_single_use (P : Params) : Fun (K P) "first_single_use" "first_single_use" s_first_single_use 412 (fd "first_single_use" "first_single_use" s_first_single_use m5 411) := mF (by kernel_rfl)
theorem F_first_uses (P : Params) : Fun (K P) "first_uses" "first_uses" s_first_uses 417 (fd "first_uses" "first_uses" s_first_uses m5 416) := mF (by kernel_rfl)
theorem F_uses_that_keep (P : Params) : Fun (K P) "uses_that_keep" "uses_that_keep" s_uses_that_keep 424 (fd "uses_that_keep" "uses_that_keep" s_uses_that_keep m5 423) := mF (by kernel_rfl)
theorem F_keeps (P : Params) : Fun (K P) "keeps" "keeps" s_keeps 431 (fd "keeps" "keeps" s_keeps m5 430) := mF (by kernel_rfl)
theorem F_kept_by_all (P : Params) : Fun (K P) "kept_by_all" "kept_by_all" s_kept_by_all 436 (fd "kept_by_all" "kept_by_all" s_kept_by_all m5 435) := mF (by kernel_rfl)
theorem F_trimmed (P : Params) : Fun (K P) "trimmed" "trimmed" s_trimmed 441 (fd "trimmed" "trimmed" s_trimmed m5 440) := mF (by kernel_rfl)
theorem F_uses_as_numbers (P : Params) : Fun (K P) "uses_as_numbers" "uses_as_numbers" s_uses_as_numbers 448 (fd "uses_as_numbers" "uses_as_numbers" s_uses_as_numbers m6 447) := mF (by kernel_rfl)
theorem F_claim_as_numbers (P : Params) : Fun (K P) "claim_as_numbers" "claim_as_numbers" s_claim_as_numbers 455 (fd "claim_as_numbers" "claim_as_numbers" s_claim_as_numbers m6 454) := mF (by kernel_rfl)
theorem F_Desk_init (P : Params) : Fun (K P) "__init__" "Desk.__init__" s_Desk_init 469 (fd "__init__" "Desk.__init__" s_Desk_init m6 468) := mF (by kernel_rfl)
theorem F_Desk_set_loop (P : Params) : Fun (K P) "set_loop" "Desk.set_loop" s_Desk_set_loop 476 (fd "set_loop" "Desk.set_loop" s_Desk_set_loop m6 475) := mF (by kernel_rfl)
theorem F_Desk_set_claim (P : Params) : Fun (K P) "set_claim" "Desk.set_claim" s_Desk_set_claim 483 (fd "set_claim" "Desk.set_claim" s_Desk_set_claim m6 482) := mF (by kernel_rfl)
theorem F_Desk_tell_holds (P : Params) : Fun (K P) "tell_holds" "Desk.tell_holds" s_Desk_tell_holds 490 (fd "tell_holds" "Desk.tell_holds" s_Desk_tell_holds m6 489) := mF (by kernel_rfl)
theorem F_Desk_refusal_of (P : Params) : Fun (K P) "refusal_of" "Desk.refusal_of" s_Desk_refusal_of 497 (fd "refusal_of" "Desk.refusal_of" s_Desk_refusal_of m6 496) := mF (by kernel_rfl)
theorem F_Desk_tell_shown (P : Params) : Fun (K P) "tell_shown" "Desk.tell_shown" s_Desk_tell_shown 504 (fd "tell_shown" "Desk.tell_shown" s_Desk_tell_shown m6 503) := mF (by kernel_rfl)
theorem F_Desk_tell_check (P : Params) : Fun (K P) "tell_check" "Desk.tell_check" s_Desk_tell_check 511 (fd "tell_check" "Desk.tell_check" s_Desk_tell_check m6 510) := mF (by kernel_rfl)
theorem F_Desk_tell_trim (P : Params) : Fun (K P) "tell_trim" "Desk.tell_trim" s_Desk_tell_trim 518 (fd "tell_trim" "Desk.tell_trim" s_Desk_tell_trim m6 517) := mF (by kernel_rfl)
theorem F_Desk_set_trimmed (P : Params) : Fun (K P) "set_trimmed" "Desk.set_trimmed" s_Desk_set_trimmed 523 (fd "set_trimmed" "Desk.set_trimmed" s_Desk_set_trimmed m6 522) := mF (by kernel_rfl)
theorem F_Desk_tell_broken (P : Params) : Fun (K P) "tell_broken" "Desk.tell_broken" s_Desk_tell_broken 530 (fd "tell_broken" "Desk.tell_broken" s_Desk_tell_broken m6 529) := mF (by kernel_rfl)
theorem F_Desk_tell_goal (P : Params) : Fun (K P) "tell_goal" "Desk.tell_goal" s_Desk_tell_goal 537 (fd "tell_goal" "Desk.tell_goal" s_Desk_tell_goal m6 536) := mF (by kernel_rfl)
theorem F_Desk_tell_at_end (P : Params) : Fun (K P) "tell_at_end" "Desk.tell_at_end" s_Desk_tell_at_end 544 (fd "tell_at_end" "Desk.tell_at_end" s_Desk_tell_at_end m6 543) := mF (by kernel_rfl)
theorem F_Desk_tell_run (P : Params) : Fun (K P) "tell_run" "Desk.tell_run" s_Desk_tell_run 549 (fd "tell_run" "Desk.tell_run" s_Desk_tell_run m6 548) := mF (by kernel_rfl)
theorem F_Desk_tell_ahead (P : Params) : Fun (K P) "tell_ahead" "Desk.tell_ahead" s_Desk_tell_ahead 556 (fd "tell_ahead" "Desk.tell_ahead" s_Desk_tell_ahead m6 555) := mF (by kernel_rfl)
theorem F_answer_next (P : Params) : Fun (K P) "answer_next" "answer_next" s_answer_next 583 (fd "answer_next" "answer_next" s_answer_next m7 582) := mF (by kernel_rfl)
theorem F_answers (P : Params) : Fun (K P) "answers" "answers" s_answers 590 (fd "answers" "answers" s_answers m7 589) := mF (by kernel_rfl)
def ad : Ad := { C_Fact := 31, C_Ending := 76, C_Break := 123, C_Given := 172, C_Branch := 193, C_NotWhole := 243, C_Reader := 298, C_Use := 377, C_Desk := 559, C_UnknownCall := 573, f_Fact_init := 28, d_Fact_init := fd "__init__" "Fact.__init__" s_Fact_init m0 27, f_holds_at := 40, d_holds_at := fd "holds_at" "holds_at" s_holds_at m0 39, f_first_not_holding := 47, d_first_not_holding := fd "first_not_holding" "first_not_holding" s_first_not_holding m0 46, f_contrary := 52, d_contrary := fd "contrary" "contrary" s_contrary m0 51, f_fact_as_numbers := 59, d_fact_as_numbers := fd "fact_as_numbers" "fact_as_numbers" s_fact_as_numbers m0 58, f_Ending_init := 73, d_Ending_init := fd "__init__" "Ending.__init__" s_Ending_init m1 72, f_chosen_place := 87, d_chosen_place := fd "chosen_place" "chosen_place" s_chosen_place m1 86, f_moved := 94, d_moved := fd "moved" "moved" s_moved m1 93, f_some_beyond := 99, d_some_beyond := fd "some_beyond" "some_beyond" s_some_beyond m1 98, f_run_from := 106, d_run_from := fd "run_from" "run_from" s_run_from m1 105, f_Break_init := 120, d_Break_init := fd "__init__" "Break.__init__" s_Break_init m2 119, f_how_many_rows := 134, d_how_many_rows := fd "how_many_rows" "how_many_rows" s_how_many_rows m2 133, f_rows_of_values := 141, d_rows_of_values := fd "rows_of_values" "rows_of_values" s_rows_of_values m2 140, f_break_at := 148, d_break_at := fd "break_at" "break_at" s_break_at m2 147, f_first_break := 155, d_first_break := fd "first_break" "first_break" s_first_break m2 154, f_Given_init := 169, d_Given_init := fd "__init__" "Given.__init__" s_Given_init m3 168, f_Branch_init := 190, d_Branch_init := fd "__init__" "Branch.__init__" s_Branch_init m3 189, f_never_chosen := 204, d_never_chosen := fd "never_chosen" "never_chosen" s_never_chosen m3 203, f_ahead_of := 211, d_ahead_of := fd "ahead_of" "ahead_of" s_ahead_of m3 210, f_where_not_chosen := 218, d_where_not_chosen := fd "where_not_chosen" "where_not_chosen" s_where_not_chosen m3 217, f_usable_for := 225, d_usable_for := fd "usable_for" "usable_for" s_usable_for m3 224, f_usable_at_end := 232, d_usable_at_end := fd "usable_at_end" "usable_at_end" s_usable_at_end m3 231, f_Reader_init := 260, d_Reader_init := fd "__init__" "Reader.__init__" s_Reader_init m4 259, f_Reader_is_over := 267, d_Reader_is_over := fd "is_over" "Reader.is_over" s_Reader_is_over m4 266, f_Reader_take := 274, d_Reader_take := fd "take" "Reader.take" s_Reader_take m4 273, f_Reader_take_from := 281, d_Reader_take_from := fd "take_from" "Reader.take_from" s_Reader_take_from m4 280, f_Reader_take_row := 288, d_Reader_take_row := fd "take_row" "Reader.take_row" s_Reader_take_row m4 287, f_Reader_must_be_over := 295, d_Reader_must_be_over := fd "must_be_over" "Reader.must_be_over" s_Reader_must_be_over m4 294, f_read_number := 309, d_read_number := fd "read_number" "read_number" s_read_number m4 308, f_read_remainder := 316, d_read_remainder := fd "read_remainder" "read_remainder" s_read_remainder m4 315, f_read_test := 323, d_read_test := fd "read_test" "read_test" s_read_test m4 322, f_read_given := 330, d_read_given := fd "read_given" "read_given" s_read_given m4 329, f_read_branch := 335, d_read_branch := fd "read_branch" "read_branch" s_read_branch m4 334, f_read_fact := 340, d_read_fact := fd "read_fact" "read_fact" s_read_fact m4 339, f_whole_loop := 345, d_whole_loop := fd "whole_loop" "whole_loop" s_whole_loop m4 344, f_whole_claim := 350, d_whole_claim := fd "whole_claim" "whole_claim" s_whole_claim m4 349, f_whole_fact := 357, d_whole_fact := fd "whole_fact" "whole_fact" s_whole_fact m4 356, f_whole_values := 362, d_whole_values := fd "whole_values" "whole_values" s_whole_values m4 361, f_Use_init := 374, d_Use_init := fd "__init__" "Use.__init__" s_Use_init m5 373, f_allowed_often := 388, d_allowed_often := fd "allowed_often" "allowed_often" s_allowed_often m5 387, f_allowed_uses := 395, d_allowed_uses := fd "allowed_uses" "allowed_uses" s_allowed_uses m5 394, f_less := 400, d_less := fd "less" "less" s_less m5 399, f_shown_by_none := 405, d_shown_by_none := fd "shown_by_none" "shown_by_none" s_shown_by_none m5 404, f_first_single_use := 412, d_first_single_use := fd "first_single_use" "first_single_use" s_first_single_use m5 411, f_first_uses := 417, d_first_uses := fd "first_uses" "first_uses" s_first_uses m5 416, f_uses_that_keep := 424, d_uses_that_keep := fd "uses_that_keep" "uses_that_keep" s_uses_that_keep m5 423, f_keeps := 431, d_keeps := fd "keeps" "keeps" s_keeps m5 430, f_kept_by_all := 436, d_kept_by_all := fd "kept_by_all" "kept_by_all" s_kept_by_all m5 435, f_trimmed := 441, d_trimmed := fd "trimmed" "trimmed" s_trimmed m5 440, f_uses_as_numbers := 448, d_uses_as_numbers := fd "uses_as_numbers" "uses_as_numbers" s_uses_as_numbers m6 447, f_claim_as_numbers := 455, d_claim_as_numbers := fd "claim_as_numbers" "claim_as_numbers" s_claim_as_numbers m6 454, f_Desk_init := 469, d_Desk_init := fd "__init__" "Desk.__init__" s_Desk_init m6 468, f_Desk_set_loop := 476, d_Desk_set_loop := fd "set_loop" "Desk.set_loop" s_Desk_set_loop m6 475, f_Desk_set_claim := 483, d_Desk_set_claim := fd "set_claim" "Desk.set_claim" s_Desk_set_claim m6 482, f_Desk_tell_holds := 490, d_Desk_tell_holds := fd "tell_holds" "Desk.tell_holds" s_Desk_tell_holds m6 489, f_Desk_refusal_of := 497, d_Desk_refusal_of := fd "refusal_of" "Desk.refusal_of" s_Desk_refusal_of m6 496, f_Desk_tell_shown := 504, d_Desk_tell_shown := fd "tell_shown" "Desk.tell_shown" s_Desk_tell_shown m6 503, f_Desk_tell_check := 511, d_Desk_tell_check := fd "tell_check" "Desk.tell_check" s_Desk_tell_check m6 510, f_Desk_tell_trim := 518, d_Desk_tell_trim := fd "tell_trim" "Desk.tell_trim" s_Desk_tell_trim m6 517, f_Desk_set_trimmed := 523, d_Desk_set_trimmed := fd "set_trimmed" "Desk.set_trimmed" s_Desk_set_trimmed m6 522, f_Desk_tell_broken := 530, d_Desk_tell_broken := fd "tell_broken" "Desk.tell_broken" s_Desk_tell_broken m6 529, f_Desk_tell_goal := 537, d_Desk_tell_goal := fd "tell_goal" "Desk.tell_goal" s_Desk_tell_goal m6 536, f_Desk_tell_at_end := 544, d_Desk_tell_at_end := fd "tell_at_end" "Desk.tell_at_end" s_Desk_tell_at_end m6 543, f_Desk_tell_run := 549, d_Desk_tell_run := fd "tell_run" "Desk.tell_run" s_Desk_tell_run m6 548, f_Desk_tell_ahead := 556, d_Desk_tell_ahead := fd "tell_ahead" "Desk.tell_ahead" s_Desk_tell_ahead m6 555, f_answer_next := 583, d_answer_next := fd "answer_next" "answer_next" s_answer_next m7 582, f_answers := 590, d_answers := fd "answers" "answers" s_answers m7 589, t_DIVISORS := 233 }
theorem txt {P : Params} {h : Heap} {mg : Str → Option Value} (X : (K P).In h) (G : h.Ns mainGlobals mg) : Txt (K P) mg ad :=
  { mg_Fact := mg_of X G (by kernel_rfl),
    cl_Fact := mC (by kernel_rfl),
    na_Fact_times := (by kernel_rfl : findIn (K P) (.ref 31) "times" = some none),
    na_Fact_kind := (by kernel_rfl : findIn (K P) (.ref 31) "kind" = some none),
    na_Fact_divisor := (by kernel_rfl : findIn (K P) (.ref 31) "divisor" = some none),
    na_Fact_number := (by kernel_rfl : findIn (K P) (.ref 31) "number" = some none),
    mk_Fact := mK (by kernel_rfl),
    mg_Ending := mg_of X G (by kernel_rfl),
    cl_Ending := mC (by kernel_rfl),
    na_Ending_outcome := (by kernel_rfl : findIn (K P) (.ref 76) "outcome" = some none),
    na_Ending_rounds := (by kernel_rfl : findIn (K P) (.ref 76) "rounds" = some none),
    na_Ending_reached := (by kernel_rfl : findIn (K P) (.ref 76) "reached" = some none),
    mk_Ending := mK (by kernel_rfl),
    mg_Break := mg_of X G (by kernel_rfl),
    cl_Break := mC (by kernel_rfl),
    na_Break_branch := (by kernel_rfl : findIn (K P) (.ref 123) "branch" = some none),
    na_Break_broken := (by kernel_rfl : findIn (K P) (.ref 123) "broken" = some none),
    na_Break_origin := (by kernel_rfl : findIn (K P) (.ref 123) "origin" = some none),
    mk_Break := mK (by kernel_rfl),
    mg_Given := mg_of X G (by kernel_rfl),
    cl_Given := mC (by kernel_rfl),
    na_Given_source := (by kernel_rfl : findIn (K P) (.ref 172) "source" = some none),
    na_Given_added := (by kernel_rfl : findIn (K P) (.ref 172) "added" = some none),
    mk_Given := mK (by kernel_rfl),
    mg_Branch := mg_of X G (by kernel_rfl),
    cl_Branch := mC (by kernel_rfl),
    na_Branch_tests := (by kernel_rfl : findIn (K P) (.ref 193) "tests" = some none),
    na_Branch_move := (by kernel_rfl : findIn (K P) (.ref 193) "move" = some none),
    mk_Branch := mK (by kernel_rfl),
    mg_NotWhole := mg_of X G (by kernel_rfl),
    ex_NotWhole := (by kernel_rfl : excIn (K P) 243 VErr "ValueError.__new__" = true),
    mg_Reader := mg_of X G (by kernel_rfl),
    cl_Reader := mC (by kernel_rfl),
    na_Reader_numbers := (by kernel_rfl : findIn (K P) (.ref 298) "numbers" = some none),
    na_Reader_place := (by kernel_rfl : findIn (K P) (.ref 298) "place" = some none),
    mk_Reader := mK (by kernel_rfl),
    me_Reader_is_over := mM (by kernel_rfl),
    me_Reader_take := mM (by kernel_rfl),
    me_Reader_take_from := mM (by kernel_rfl),
    me_Reader_take_row := mM (by kernel_rfl),
    me_Reader_must_be_over := mM (by kernel_rfl),
    mg_Use := mg_of X G (by kernel_rfl),
    cl_Use := mC (by kernel_rfl),
    na_Use_place := (by kernel_rfl : findIn (K P) (.ref 377) "place" = some none),
    na_Use_often := (by kernel_rfl : findIn (K P) (.ref 377) "often" = some none),
    na_Use_times := (by kernel_rfl : findIn (K P) (.ref 377) "times" = some none),
    na_Use_number := (by kernel_rfl : findIn (K P) (.ref 377) "number" = some none),
    mk_Use := mK (by kernel_rfl),
    mg_Desk := mg_of X G (by kernel_rfl),
    cl_Desk := mC (by kernel_rfl),
    na_Desk_counters := (by kernel_rfl : findIn (K P) (.ref 559) "counters" = some none),
    na_Desk_branches := (by kernel_rfl : findIn (K P) (.ref 559) "branches" = some none),
    na_Desk_claim := (by kernel_rfl : findIn (K P) (.ref 559) "claim" = some none),
    mk_Desk := mK (by kernel_rfl),
    me_Desk_set_loop := mM (by kernel_rfl),
    me_Desk_set_claim := mM (by kernel_rfl),
    me_Desk_tell_holds := mM (by kernel_rfl),
    me_Desk_refusal_of := mM (by kernel_rfl),
    me_Desk_tell_shown := mM (by kernel_rfl),
    me_Desk_tell_check := mM (by kernel_rfl),
    me_Desk_tell_trim := mM (by kernel_rfl),
    me_Desk_set_trimmed := mM (by kernel_rfl),
    me_Desk_tell_broken := mM (by kernel_rfl),
    me_Desk_tell_goal := mM (by kernel_rfl),
    me_Desk_tell_at_end := mM (by kernel_rfl),
    me_Desk_tell_run := mM (by kernel_rfl),
    me_Desk_tell_ahead := mM (by kernel_rfl),
    mg_UnknownCall := mg_of X G (by kernel_rfl),
    ex_UnknownCall := (by kernel_rfl : excIn (K P) 573 VErr "ValueError.__new__" = true),
    F_Fact_init := F_Fact_init P,
    b_Fact_init := (F_Fact_init P).binds (ps := ["self", "times", "kind", "divisor", "number"]) fun _ _ _ _ _ _ us hl => match us, hl with | [_, _, _, _, _], _ => rfl,
    F_holds_at := F_holds_at P,
    b_holds_at := (F_holds_at P).binds (ps := ["fact", "values"]) fun _ _ _ _ _ _ us hl => match us, hl with | [_, _], _ => rfl,
    g_holds_at := mg_of X G (by kernel_rfl),
    F_first_not_holding := F_first_not_holding P,
    b_first_not_holding := (F_first_not_holding P).binds (ps := ["facts", "values"]) fun _ _ _ _ _ _ us hl => match us, hl with | [_, _], _ => rfl,
    g_first_not_holding := mg_of X G (by kernel_rfl),
    F_contrary := F_contrary P,
    b_contrary := (F_contrary P).binds (ps := ["fact"]) fun _ _ _ _ _ _ us hl => match us, hl with | [_], _ => rfl,
    g_contrary := mg_of X G (by kernel_rfl),
    F_fact_as_numbers := F_fact_as_numbers P,
    b_fact_as_numbers := (F_fact_as_numbers P).binds (ps := ["fact"]) fun _ _ _ _ _ _ us hl => match us, hl with | [_], _ => rfl,
    g_fact_as_numbers := mg_of X G (by kernel_rfl),
    F_Ending_init := F_Ending_init P,
    b_Ending_init := (F_Ending_init P).binds (ps := ["self", "outcome", "rounds", "reached"]) fun _ _ _ _ _ _ us hl => match us, hl with | [_, _, _, _], _ => rfl,
    F_chosen_place := F_chosen_place P,
    b_chosen_place := (F_chosen_place P).binds (ps := ["branches", "values"]) fun _ _ _ _ _ _ us hl => match us, hl with | [_, _], _ => rfl,
    g_chosen_place := mg_of X G (by kernel_rfl),
    F_moved := F_moved P,
    b_moved := (F_moved P).binds (ps := ["move", "values"]) fun _ _ _ _ _ _ us hl => match us, hl with | [_, _], _ => rfl,
    g_moved := mg_of X G (by kernel_rfl),
    F_some_beyond := F_some_beyond P,
    b_some_beyond := (F_some_beyond P).binds (ps := ["values"]) fun _ _ _ _ _ _ us hl => match us, hl with | [_], _ => rfl,
    g_some_beyond := mg_of X G (by kernel_rfl),
    F_run_from := F_run_from P,
    b_run_from := (F_run_from P).binds (ps := ["branches", "values", "most"]) fun _ _ _ _ _ _ us hl => match us, hl with | [_, _, _], _ => rfl,
    g_run_from := mg_of X G (by kernel_rfl),
    F_Break_init := F_Break_init P,
    b_Break_init := (F_Break_init P).binds (ps := ["self", "branch", "broken", "origin"]) fun _ _ _ _ _ _ us hl => match us, hl with | [_, _, _, _], _ => rfl,
    F_how_many_rows := F_how_many_rows P,
    b_how_many_rows := (F_how_many_rows P).binds (ps := ["low", "high", "counters"]) fun _ _ _ _ _ _ us hl => match us, hl with | [_, _, _], _ => rfl,
    g_how_many_rows := mg_of X G (by kernel_rfl),
    F_rows_of_values := F_rows_of_values P,
    b_rows_of_values := (F_rows_of_values P).binds (ps := ["low", "high", "counters"]) fun _ _ _ _ _ _ us hl => match us, hl with | [_, _, _], _ => rfl,
    g_rows_of_values := mg_of X G (by kernel_rfl),
    F_break_at := F_break_at P,
    b_break_at := (F_break_at P).binds (ps := ["branches", "claim", "values"]) fun _ _ _ _ _ _ us hl => match us, hl with | [_, _, _], _ => rfl,
    g_break_at := mg_of X G (by kernel_rfl),
    F_first_break := F_first_break P,
    b_first_break := (F_first_break P).binds (ps := ["branches", "claim", "rows"]) fun _ _ _ _ _ _ us hl => match us, hl with | [_, _, _], _ => rfl,
    g_first_break := mg_of X G (by kernel_rfl),
    F_Given_init := F_Given_init P,
    b_Given_init := (F_Given_init P).binds (ps := ["self", "source", "added"]) fun _ _ _ _ _ _ us hl => match us, hl with | [_, _, _], _ => rfl,
    F_Branch_init := F_Branch_init P,
    b_Branch_init := (F_Branch_init P).binds (ps := ["self", "tests", "move"]) fun _ _ _ _ _ _ us hl => match us, hl with | [_, _, _], _ => rfl,
    F_never_chosen := F_never_chosen P,
    b_never_chosen := (F_never_chosen P).binds (ps := []) fun _ _ _ _ _ _ us hl => match us, hl with | [], _ => rfl,
    g_never_chosen := mg_of X G (by kernel_rfl),
    F_ahead_of := F_ahead_of P,
    b_ahead_of := (F_ahead_of P).binds (ps := ["move", "fact"]) fun _ _ _ _ _ _ us hl => match us, hl with | [_, _], _ => rfl,
    g_ahead_of := mg_of X G (by kernel_rfl),
    F_where_not_chosen := F_where_not_chosen P,
    b_where_not_chosen := (F_where_not_chosen P).binds (ps := ["branch"]) fun _ _ _ _ _ _ us hl => match us, hl with | [_], _ => rfl,
    g_where_not_chosen := mg_of X G (by kernel_rfl),
    F_usable_for := F_usable_for P,
    b_usable_for := (F_usable_for P).binds (ps := ["branches", "place", "claim"]) fun _ _ _ _ _ _ us hl => match us, hl with | [_, _, _], _ => rfl,
    g_usable_for := mg_of X G (by kernel_rfl),
    F_usable_at_end := F_usable_at_end P,
    b_usable_at_end := (F_usable_at_end P).binds (ps := ["branches", "claim"]) fun _ _ _ _ _ _ us hl => match us, hl with | [_, _], _ => rfl,
    g_usable_at_end := mg_of X G (by kernel_rfl),
    F_Reader_init := F_Reader_init P,
    b_Reader_init := (F_Reader_init P).binds (ps := ["self", "numbers"]) fun _ _ _ _ _ _ us hl => match us, hl with | [_, _], _ => rfl,
    F_Reader_is_over := F_Reader_is_over P,
    b_Reader_is_over := (F_Reader_is_over P).binds (ps := ["self"]) fun _ _ _ _ _ _ us hl => match us, hl with | [_], _ => rfl,
    F_Reader_take := F_Reader_take P,
    b_Reader_take := (F_Reader_take P).binds (ps := ["self"]) fun _ _ _ _ _ _ us hl => match us, hl with | [_], _ => rfl,
    F_Reader_take_from := F_Reader_take_from P,
    b_Reader_take_from := (F_Reader_take_from P).binds (ps := ["self", "low", "high"]) fun _ _ _ _ _ _ us hl => match us, hl with | [_, _, _], _ => rfl,
    F_Reader_take_row := F_Reader_take_row P,
    b_Reader_take_row := (F_Reader_take_row P).binds (ps := ["self"]) fun _ _ _ _ _ _ us hl => match us, hl with | [_], _ => rfl,
    F_Reader_must_be_over := F_Reader_must_be_over P,
    b_Reader_must_be_over := (F_Reader_must_be_over P).binds (ps := ["self"]) fun _ _ _ _ _ _ us hl => match us, hl with | [_], _ => rfl,
    F_read_number := F_read_number P,
    b_read_number := (F_read_number P).binds (ps := ["reader"]) fun _ _ _ _ _ _ us hl => match us, hl with | [_], _ => rfl,
    g_read_number := mg_of X G (by kernel_rfl),
    F_read_remainder := F_read_remainder P,
    b_read_remainder := (F_read_remainder P).binds (ps := ["reader", "times"]) fun _ _ _ _ _ _ us hl => match us, hl with | [_, _], _ => rfl,
    g_read_remainder := mg_of X G (by kernel_rfl),
    F_read_test := F_read_test P,
    b_read_test := (F_read_test P).binds (ps := ["reader", "counters"]) fun _ _ _ _ _ _ us hl => match us, hl with | [_, _], _ => rfl,
    g_read_test := mg_of X G (by kernel_rfl),
    F_read_given := F_read_given P,
    b_read_given := (F_read_given P).binds (ps := ["reader", "counters"]) fun _ _ _ _ _ _ us hl => match us, hl with | [_, _], _ => rfl,
    g_read_given := mg_of X G (by kernel_rfl),
    F_read_branch := F_read_branch P,
    b_read_branch := (F_read_branch P).binds (ps := ["reader", "counters"]) fun _ _ _ _ _ _ us hl => match us, hl with | [_, _], _ => rfl,
    g_read_branch := mg_of X G (by kernel_rfl),
    F_read_fact := F_read_fact P,
    b_read_fact := (F_read_fact P).binds (ps := ["reader", "counters"]) fun _ _ _ _ _ _ us hl => match us, hl with | [_, _], _ => rfl,
    g_read_fact := mg_of X G (by kernel_rfl),
    F_whole_loop := F_whole_loop P,
    b_whole_loop := (F_whole_loop P).binds (ps := ["numbers", "counters"]) fun _ _ _ _ _ _ us hl => match us, hl with | [_, _], _ => rfl,
    g_whole_loop := mg_of X G (by kernel_rfl),
    F_whole_claim := F_whole_claim P,
    b_whole_claim := (F_whole_claim P).binds (ps := ["numbers", "counters"]) fun _ _ _ _ _ _ us hl => match us, hl with | [_, _], _ => rfl,
    g_whole_claim := mg_of X G (by kernel_rfl),
    F_whole_fact := F_whole_fact P,
    b_whole_fact := (F_whole_fact P).binds (ps := ["numbers", "counters"]) fun _ _ _ _ _ _ us hl => match us, hl with | [_, _], _ => rfl,
    g_whole_fact := mg_of X G (by kernel_rfl),
    F_whole_values := F_whole_values P,
    b_whole_values := (F_whole_values P).binds (ps := ["numbers", "counters"]) fun _ _ _ _ _ _ us hl => match us, hl with | [_, _], _ => rfl,
    g_whole_values := mg_of X G (by kernel_rfl),
    F_Use_init := F_Use_init P,
    b_Use_init := (F_Use_init P).binds (ps := ["self", "place", "often", "fact"]) fun _ _ _ _ _ _ us hl => match us, hl with | [_, _, _, _], _ => rfl,
    F_allowed_often := F_allowed_often P,
    b_allowed_often := (F_allowed_often P).binds (ps := ["fact", "target"]) fun _ _ _ _ _ _ us hl => match us, hl with | [_, _], _ => rfl,
    g_allowed_often := mg_of X G (by kernel_rfl),
    F_allowed_uses := F_allowed_uses P,
    b_allowed_uses := (F_allowed_uses P).binds (ps := ["usable", "target"]) fun _ _ _ _ _ _ us hl => match us, hl with | [_, _], _ => rfl,
    g_allowed_uses := mg_of X G (by kernel_rfl),
    F_less := F_less P,
    b_less := (F_less P).binds (ps := ["target", "use"]) fun _ _ _ _ _ _ us hl => match us, hl with | [_, _], _ => rfl,
    g_less := mg_of X G (by kernel_rfl),
    F_shown_by_none := F_shown_by_none P,
    b_shown_by_none := (F_shown_by_none P).binds (ps := ["target"]) fun _ _ _ _ _ _ us hl => match us, hl with | [_], _ => rfl,
    g_shown_by_none := mg_of X G (by kernel_rfl),
    F_first_single_use := F_first_single_use P,
    b_first_single_use := (F_first_single_use P).binds (ps := ["target", "uses"]) fun _ _ _ _ _ _ us hl => match us, hl with | [_, _], _ => rfl,
    g_first_single_use := mg_of X G (by kernel_rfl),
    F_first_uses := F_first_uses P,
    b_first_uses := (F_first_uses P).binds (ps := ["target", "usable"]) fun _ _ _ _ _ _ us hl => match us, hl with | [_, _], _ => rfl,
    g_first_uses := mg_of X G (by kernel_rfl),
    F_uses_that_keep := F_uses_that_keep P,
    b_uses_that_keep := (F_uses_that_keep P).binds (ps := ["branches", "place", "claim", "fact"]) fun _ _ _ _ _ _ us hl => match us, hl with | [_, _, _, _], _ => rfl,
    g_uses_that_keep := mg_of X G (by kernel_rfl),
    F_keeps := F_keeps P,
    b_keeps := (F_keeps P).binds (ps := ["branches", "place", "claim", "fact"]) fun _ _ _ _ _ _ us hl => match us, hl with | [_, _, _, _], _ => rfl,
    g_keeps := mg_of X G (by kernel_rfl),
    F_kept_by_all := F_kept_by_all P,
    b_kept_by_all := (F_kept_by_all P).binds (ps := ["branches", "claim", "fact"]) fun _ _ _ _ _ _ us hl => match us, hl with | [_, _, _], _ => rfl,
    g_kept_by_all := mg_of X G (by kernel_rfl),
    F_trimmed := F_trimmed P,
    b_trimmed := (F_trimmed P).binds (ps := ["branches", "claim"]) fun _ _ _ _ _ _ us hl => match us, hl with | [_, _], _ => rfl,
    g_trimmed := mg_of X G (by kernel_rfl),
    F_uses_as_numbers := F_uses_as_numbers P,
    b_uses_as_numbers := (F_uses_as_numbers P).binds (ps := ["uses"]) fun _ _ _ _ _ _ us hl => match us, hl with | [_], _ => rfl,
    g_uses_as_numbers := mg_of X G (by kernel_rfl),
    F_claim_as_numbers := F_claim_as_numbers P,
    b_claim_as_numbers := (F_claim_as_numbers P).binds (ps := ["claim"]) fun _ _ _ _ _ _ us hl => match us, hl with | [_], _ => rfl,
    g_claim_as_numbers := mg_of X G (by kernel_rfl),
    F_Desk_init := F_Desk_init P,
    b_Desk_init := (F_Desk_init P).binds (ps := ["self"]) fun _ _ _ _ _ _ us hl => match us, hl with | [_], _ => rfl,
    F_Desk_set_loop := F_Desk_set_loop P,
    b_Desk_set_loop := (F_Desk_set_loop P).binds (ps := ["self", "counters", "numbers"]) fun _ _ _ _ _ _ us hl => match us, hl with | [_, _, _], _ => rfl,
    F_Desk_set_claim := F_Desk_set_claim P,
    b_Desk_set_claim := (F_Desk_set_claim P).binds (ps := ["self", "numbers"]) fun _ _ _ _ _ _ us hl => match us, hl with | [_, _], _ => rfl,
    F_Desk_tell_holds := F_Desk_tell_holds P,
    b_Desk_tell_holds := (F_Desk_tell_holds P).binds (ps := ["self", "numbers"]) fun _ _ _ _ _ _ us hl => match us, hl with | [_, _], _ => rfl,
    F_Desk_refusal_of := F_Desk_refusal_of P,
    b_Desk_refusal_of := (F_Desk_refusal_of P).binds (ps := ["self", "branch", "fact"]) fun _ _ _ _ _ _ us hl => match us, hl with | [_, _, _], _ => rfl,
    F_Desk_tell_shown := F_Desk_tell_shown P,
    b_Desk_tell_shown := (F_Desk_tell_shown P).binds (ps := ["self", "branch", "fact"]) fun _ _ _ _ _ _ us hl => match us, hl with | [_, _, _], _ => rfl,
    F_Desk_tell_check := F_Desk_tell_check P,
    b_Desk_tell_check := (F_Desk_tell_check P).binds (ps := ["self"]) fun _ _ _ _ _ _ us hl => match us, hl with | [_], _ => rfl,
    F_Desk_tell_trim := F_Desk_tell_trim P,
    b_Desk_tell_trim := (F_Desk_tell_trim P).binds (ps := ["self"]) fun _ _ _ _ _ _ us hl => match us, hl with | [_], _ => rfl,
    F_Desk_set_trimmed := F_Desk_set_trimmed P,
    b_Desk_set_trimmed := (F_Desk_set_trimmed P).binds (ps := ["self"]) fun _ _ _ _ _ _ us hl => match us, hl with | [_], _ => rfl,
    F_Desk_tell_broken := F_Desk_tell_broken P,
    b_Desk_tell_broken := (F_Desk_tell_broken P).binds (ps := ["self", "low", "high"]) fun _ _ _ _ _ _ us hl => match us, hl with | [_, _, _], _ => rfl,
    F_Desk_tell_goal := F_Desk_tell_goal P,
    b_Desk_tell_goal := (F_Desk_tell_goal P).binds (ps := ["self", "numbers"]) fun _ _ _ _ _ _ us hl => match us, hl with | [_, _], _ => rfl,
    F_Desk_tell_at_end := F_Desk_tell_at_end P,
    b_Desk_tell_at_end := (F_Desk_tell_at_end P).binds (ps := ["self", "numbers"]) fun _ _ _ _ _ _ us hl => match us, hl with | [_, _], _ => rfl,
    F_Desk_tell_run := F_Desk_tell_run P,
    b_Desk_tell_run := (F_Desk_tell_run P).binds (ps := ["self", "most", "numbers"]) fun _ _ _ _ _ _ us hl => match us, hl with | [_, _, _], _ => rfl,
    F_Desk_tell_ahead := F_Desk_tell_ahead P,
    b_Desk_tell_ahead := (F_Desk_tell_ahead P).binds (ps := ["self", "branch", "fact"]) fun _ _ _ _ _ _ us hl => match us, hl with | [_, _, _], _ => rfl,
    F_answer_next := F_answer_next P,
    b_answer_next := (F_answer_next P).binds (ps := ["desk", "reader"]) fun _ _ _ _ _ _ us hl => match us, hl with | [_, _], _ => rfl,
    g_answer_next := mg_of X G (by kernel_rfl),
    F_answers := F_answers P,
    b_answers := (F_answers P).binds (ps := ["calls"]) fun _ _ _ _ _ _ us hl => match us, hl with | [_], _ => rfl,
    g_answers := mg_of X G (by kernel_rfl),
    c_AT_MOST := cI X G 189 (by kernel_rfl),
    c_JUST := cI X G 191 (by kernel_rfl),
    c_REMAINDER := cI X G 193 (by kernel_rfl),
    c_OVER := cI X G 261 (by kernel_rfl),
    c_BEYOND := cI X G 263 (by kernel_rfl),
    c_CHOSEN_STILL := cI X G 265 (by kernel_rfl),
    c_FARTHEST := cI X G 267 (by kernel_rfl),
    c_MOST_BRANCHES := cI X G 537 (by kernel_rfl),
    c_MOST_TESTS := cI X G 539 (by kernel_rfl),
    c_MOST_FACTS := cI X G 541 (by kernel_rfl),
    c_MOST_TIMES := cI X G 543 (by kernel_rfl),
    c_MOST_ADDED := cI X G 545 (by kernel_rfl),
    c_MOST_NUMBER := cI X G 547 (by kernel_rfl),
    c_MOST_VALUE := cI X G 549 (by kernel_rfl),
    c_DIVISORS := ⟨_, mg_of X G (v := .ref 233) (by kernel_rfl), rfl⟩,
    q_DIVISORS := fun H => .inr ⟨_, _, 0, (by kernel_rfl : (K P).lookup 233 = some ⟨.type "tuple", none, .seq #[.int 2 551, .int 3 552, .int 4 553, .int 6 554] 0, #[]⟩), rfl, rfl, (by show 4 ≤ sizeLine; decide), .cons ⟨_, rfl⟩ (.cons ⟨_, rfl⟩ (.cons ⟨_, rfl⟩ (.cons ⟨_, rfl⟩ .nil)))⟩,
    c_TEST_AT_LEAST := cI X G 556 (by kernel_rfl),
    c_TEST_BELOW := cI X G 558 (by kernel_rfl),
    c_TEST_REMAINDER := cI X G 560 (by kernel_rfl),
    c_MOST_COUNTERS := cI X G 841 (by kernel_rfl),
    c_MOST_ROUNDS := cI X G 843 (by kernel_rfl),
    c_MOST_ROWS := cI X G 845 (by kernel_rfl),
    c_LOOP := cI X G 1014 (by kernel_rfl),
    c_CLAIM := cI X G 1016 (by kernel_rfl),
    c_HOLDS := cI X G 1018 (by kernel_rfl),
    c_SHOWN := cI X G 1020 (by kernel_rfl),
    c_CHECK := cI X G 1022 (by kernel_rfl),
    c_TRIM := cI X G 1024 (by kernel_rfl),
    c_USE := cI X G 1026 (by kernel_rfl),
    c_BROKEN := cI X G 1028 (by kernel_rfl),
    c_GOAL := cI X G 1030 (by kernel_rfl),
    c_AT_END := cI X G 1032 (by kernel_rfl),
    c_RUN := cI X G 1034 (by kernel_rfl),
    c_AHEAD := cI X G 1036 (by kernel_rfl),
    bl_abs := mg_none_of X G (by kernel_rfl),
    bl_all := mg_none_of X G (by kernel_rfl),
    bl_any := mg_none_of X G (by kernel_rfl),
    bl_enumerate := mg_none_of X G (by kernel_rfl),
    bl_len := mg_none_of X G (by kernel_rfl),
    bl_list := mg_none_of X G (by kernel_rfl),
    bl_range := mg_none_of X G (by kernel_rfl),
    bl_sum := mg_none_of X G (by kernel_rfl),
    bl_zip := mg_none_of X G (by kernel_rfl) }
end
end Lc.Kk
open PySem PySem.W PyProof.Rows
set_option maxRecDepth 100000 in
set_option maxHeartbeats 0 in
theorem PySem.Challenge.cw_loopclaimsdesk_s01_answers_holds : PySem.Challenge.rw_loopclaimsdesk_s01_answers.Holds := by
  refine PySem.W.holds_os (q := Lc.Kk.vw) (loose := []) (Xt := fun s => xlAt Lc.Kk.vw [] s && recOk [] s) (XP := XL Lc.Kk.vw []) (Yf := Hook.obs Lc.Kk.Hk) (Ya := Hook.val Lc.Kk.Hk) (YP := Hook.says Lc.Kk.Hk) (N := 8854) Lc.Kk.left (Hook.of Lc.Kk.Hk) (Hook.keeps Lc.Kk.Hk) (fun s e => xl_of s (Bool.and_eq_true_iff.mp e).1) XL.keeps (by rfl) (by rfl) (by rfl) (fun s e => recFacts_of (Bool.and_eq_true_iff.mp e).2) os_shapes (by decide +kernel) (by decide +kernel) ⟨rfl, rfl, rfl, rfl, rfl, by decide +kernel⟩ ⟨[.list [.int 4]], by decide +kernel, by decide +kernel⟩ ?hc
  refine L2.walk_specK (r := PySem.Challenge.rw_loopclaimsdesk_s01_answers) (k := 12) (K := Lc.Kk.K) (CX := L2.CX0) (ps := ["calls"]) (sp := Lc.sp_answers) (by decide +kernel) rfl rfl ⟨rfl, by decide, by decide⟩ (fun w h Y => PySem.W.kIn_of Y) ?F ?S (fun _ _ _ _ z => z)
  case F =>
    intro w mg fa h Y KX G hmg
    have T := Lc.Kk.txt KX G
    have e : fa = 590 := by
      have e := T.g_answers
      rw [show mg "answers" = some (.ref fa) from hmg] at e
      injection e with e
      injection e
    subst e
    exact ⟨_, fun s us hu => match us, hu with | [_], _ => .of_eq rfl, fun base _ _ => Lc.ok_answers T⟩
  case S =>
    intro K H xs a hO hwi hask hx
    cases hx with
    | cons h1 h2 =>
      cases h2
      cases h1 with
      | lst hs ha =>
        have e := L2.ints_dw a.1 _ ha
        subst e
        exact ⟨_, a.1, rfl, hs, hask, fun D H' hp => .lst (L2.SqL.of hp) (L2.dw_ints _)⟩
end
