import PyProof.Rows.All
import Wide.All
import OpenK.AllK
import Wide.FinOn
import Lean
import PyProof.EqAt
import PyProof.EqKinds
import PyProof.TupleCall
import KE.KTryMore
import PyProof.NsDelKeeps
import PySem.Challenge.RW_lampway_k45_coming_by
set_option Elab.async false
set_option linter.all false
set_option maxRecDepth 100000
namespace L2
open PySem PySem.Spec PyProof.Rows
abbrev Key := Sum Int Str
def keyIs : Key → Value → Bool
  | .inl k, v => Value.isInt k v
  | .inr x, v => Value.isStrOf x v
def keyH (w : World) : Key → Int
  | .inl k => hashInt k
  | .inr x => hashStr w x
theorem keyIs_shape : ∀ {k : Key} {v : Value}, keyIs k v = true → (∃ i t, k = Sum.inl i ∧ v = Value.int i t) ∨ (∃ x t, k = Sum.inr x ∧ v = Value.str x t)
  | .inl i, v, h => by
    obtain ⟨t, e⟩ := Value.isInt_shape (k := i) (v := v) h
    exact .inl ⟨i, t, rfl, e⟩
  | .inr x, v, h => by
    obtain ⟨t, e⟩ := Value.isStrOf_shape (x := x) (v := v) h
    exact .inr ⟨x, t, rfl, e⟩
theorem key_ll (a b : Int) : decide ((Sum.inl a : Key) = Sum.inl b) = (a == b) := by
  by_cases e : a = b
  · subst e; simp
  · have h : ¬ (Sum.inl a : Key) = Sum.inl b := fun q => e (Sum.inl.inj q)
    rw [decide_eq_false h]
    exact (beq_eq_false_iff_ne.mpr e).symm
theorem key_rr (a b : Str) : decide ((Sum.inr a : Key) = Sum.inr b) = decide (a = b) := by
  by_cases e : a = b
  · subst e; simp
  · have h : ¬ (Sum.inr a : Key) = Sum.inr b := fun q => e (Sum.inr.inj q)
    rw [decide_eq_false h, decide_eq_false e]
theorem key_lr (a : Int) (b : Str) : decide ((Sum.inl a : Key) = Sum.inr b) = false := decide_eq_false (fun q => nomatch q)
theorem key_rl (a : Str) (b : Int) : decide ((Sum.inr a : Key) = Sum.inl b) = false := decide_eq_false (fun q => nomatch q)
def mixKind (prog : Program) (w : World) : PySem.KeyKind prog w Key where
  is := keyIs
  hash := keyH w
  inj := fun v a b ha hb => by
    rcases keyIs_shape ha with ⟨i, t, rfl, rfl⟩ | ⟨x, t, rfl, rfl⟩
    · rcases keyIs_shape hb with ⟨j, u, rfl, e⟩ | ⟨y, u, rfl, e⟩
      · injection e with e1 _; rw [e1]
      · exact nomatch e
    · rcases keyIs_shape hb with ⟨j, u, rfl, e⟩ | ⟨y, u, rfl, e⟩
      · exact nomatch e
      · injection e with e1 _; rw [e1]
  byValue := fun k v h => by
    rcases keyIs_shape h with ⟨i, t, rfl, rfl⟩ | ⟨x, t, rfl, rfl⟩ <;> rfl
  pyHash := fun hv h => by
    rcases keyIs_shape hv with ⟨i, t, rfl, rfl⟩ | ⟨x, t, rfl, rfl⟩
    · exact wpAny_pyHash_int h
    · exact wpAny_pyHash_str h
  eqBool := fun hu hv h => by
    rcases keyIs_shape hu with ⟨i, t, rfl, rfl⟩ | ⟨x, t, rfl, rfl⟩
    · rcases keyIs_shape hv with ⟨j, u, rfl, rfl⟩ | ⟨y, u, rfl, rfl⟩
      · rw [key_ll] at h; exact wpAny_eqBool_int h
      · rw [key_lr] at h; exact SeqAt.EqAt.int_str i t y u _ _ _ _ h
    · rcases keyIs_shape hv with ⟨j, u, rfl, rfl⟩ | ⟨y, u, rfl, rfl⟩
      · rw [key_rl] at h; exact SeqAt.EqAt.str_int x t j u _ _ _ _ h
      · rw [key_rr] at h; exact wpAny_eqBool_str h
  «strs» := fun k x t v h => by
    rcases keyIs_shape h with ⟨i, u, rfl, e⟩ | ⟨y, u, rfl, e⟩
    · exact nomatch e
    · injection e with e1 _
      subst e1
      cases v <;> rfl
end L2
namespace L2
open PySem PySem.Spec PyProof.Rows
inductive V where
  | non | bl (b : Bool) | int (i : Int) | str (x : Str) | byt (b : Array UInt8) | flt (b : UInt64) | ref (a : Addr) | ty (n : String)
  deriving DecidableEq
def RelV : V → Value → Prop
  | .non, u => u = Value.none
  | .bl b, u => u = Value.bool b
  | .int i, u => ∃ t, u = Value.int i t
  | .str x, u => ∃ t, u = Value.str x t
  | .byt b, u => ∃ t, u = Value.bytes b t
  | .flt b, u => ∃ t, u = Value.float b t
  | .ref a, u => u = Value.ref a
  | .ty n, u => u = Value.type n
abbrev Vals : List V → List Value → Prop := Paired RelV
theorem Vals.length {xs : List V} {us : List Value} (r : Vals xs us) : xs.length = us.length := Paired.length r
theorem Vals.get : ∀ {xs : List V} {us : List Value} {i : Nat} {x : V}, Vals xs us → xs[i]? = some x → ∃ u, us[i]? = some u ∧ RelV x u
  | _, _, _, _, .nil, e => by simp at e
  | _, _, 0, _, .cons r _, e => by simp at e; subst e; exact ⟨_, rfl, r⟩
  | _, _, i + 1, x, .cons _ t, e => by
    obtain ⟨u, h1, h2⟩ := Vals.get (i := i) (x := x) t (by simpa using e)
    exact ⟨u, by simpa using h1, h2⟩
theorem Vals.set {x : V} {u : Value} (r : RelV x u) : ∀ {xs : List V} {us : List Value} (i : Nat), Vals xs us → Vals (xs.set i x) (us.set i u)
  | _, _, _, .nil => .nil
  | _, _, 0, .cons _ t => .cons r t
  | _, _, i + 1, .cons q t => .cons q (Vals.set r i t)
theorem Vals.append : ∀ {xs ys : List V} {us ws : List Value}, Vals xs us → Vals ys ws → Vals (xs ++ ys) (us ++ ws)
  | _, _, _, _, .nil, s => s
  | _, _, _, _, .cons r t, s => .cons r (Vals.append t s)
theorem Vals.take : ∀ {xs : List V} {us : List Value} (n : Nat), Vals xs us → Vals (xs.take n) (us.take n)
  | _, _, 0, _ => .nil
  | _, _, _ + 1, .nil => .nil
  | _, _, n + 1, .cons r t => .cons r (Vals.take n t)
theorem Vals.drop : ∀ {xs : List V} {us : List Value} (n : Nat), Vals xs us → Vals (xs.drop n) (us.drop n)
  | _, _, 0, r => r
  | _, _, _ + 1, .nil => .nil
  | _, _, n + 1, .cons _ t => Vals.drop n t
def RelO : Option V → Option Value → Prop
  | some v, some u => RelV v u
  | none, none => True
  | _, _ => False
def KV {κ : Type} : List (κ × V) → List (κ × Value) → Prop := Paired fun (p : κ × V) (q : κ × Value) => p.1 = q.1 ∧ RelV p.2 q.2
def kV : Key → V
  | .inl i => .int i
  | .inr x => .str x
inductive HO where
    | lst (xs : List V)
    | tup (xs : List V)
    | dK (kvs : List (Key × V)) | dT (kvs : List (List Key × V))
    | set (S : Int → Bool) (n : Nat)
    | ins (C dx : Addr) (fs : List (Str × V))
    | own (x : Addr)
    | xd (fs : List (Str × V))
    | met (f x : Addr)
    | rng (lo hi : Int)
    | frz (o : Obj) (u : HO)
    | tbl (ps : Array Value)
    | ext (φ : Heap → Prop)
abbrev Hp := Addr → Option HO
def upd (H : Hp) (a : Addr) (o : HO) : Hp := fun b => if b = a then some o else H b
theorem upd_same {H : Hp} {a : Addr} {o : HO} : upd H a o a = some o := by unfold upd; rw [if_pos rfl]
theorem upd_ne {H : Hp} {a b : Addr} {o : HO} (h : b ≠ a) : upd H a o b = H b := by unfold upd; rw [if_neg h]
theorem ne_of {H : Hp} {a b : Addr} {o u : HO} (h : H a = some o) (h' : H b = some u) (d : o ≠ u) : a ≠ b := by
  intro e; subst e; rw [h] at h'; exact d (Option.some.inj h')
theorem ne_of_none {H : Hp} {a b : Addr} {o : HO} (h : H a = some o) (h' : H b = none) : a ≠ b := by
  intro e; subst e; rw [h] at h'; cases h'
section
variable (P : Program) (w : World)
def ObjOk (H : Hp) (h : Heap) (a : Addr) : HO → Prop
  | .lst xs => xs.length ≤ sizeLine ∧ ∃ (its : List Value) (n : Nat), Vals xs its ∧ h.get? a = some { cls := .type "list", data := .seq its.toArray n }
  | .tup xs => xs.length ≤ sizeLine ∧ ∃ its : List Value, Vals xs its ∧ IsTup h a its.toArray
  | .dK kvs => kvs.length ≤ sizeLine ∧ (a == sysModules) = false ∧ ∃ vs, KV kvs vs ∧ h.DictOf (mixKind P w) a vs
  | .dT kvs => kvs.length ≤ sizeLine ∧ (a == sysModules) = false ∧ ∃ xs : List (List Key × Addr × Value),
      Paired (fun (p : List Key × V) (q : List Key × Addr × Value) => p.1 = q.1 ∧ H q.2.1 = some (.tup (p.1.map kV)) ∧ RelV p.2 q.2.2) kvs xs ∧
      ∃ o es ep, h.get? a = some o ∧ o.ExactDict ∧ o.data = .dict es ep ∧ es.toList = xs.map (entryOfKey (tupleKind (mixKind P w))) ∧ (xs.map (·.1)).Nodup
  | .set S n => h.SetOf (intKind P w) a S n
  | .ins C dx fs => H dx = some (.own a) ∧ fs.length ≤ 1000 ∧ dx ≠ a ∧ h.get? a = some (PySem.W.instObj C dx) ∧
      ∃ mA, h.Ns1 dx mA ∧ (∀ f, RelO (fs.lookup f) (mA f)) ∧ PySem.Within mA (fs.map (·.1))
  | .own _ => ∃ o, h.get? a = some o
  | .xd fs => ∃ mA, h.Ns1 a mA ∧ ∀ f, RelO (fs.lookup f) (mA f)
  | .rng lo hi => ∃ t u v, h.get? a = some { cls := .type "range", data := .fields #[.int lo t, .int hi u, .int 1 v] }
  | .frz o u => h.get? a = some o ∧ ObjOk H h a u
  | .tbl ps => h.get? a = some { cls := .none, data := .fields ps }
  | .met f x => h.get? a = some (PySem.W.methodObj (.ref f) (.ref x))
  | .ext φ => φ h ∧ (∃ o, h.get? a = some o) ∧ ∀ h1 h2 : Heap, φ h1 → (∀ o, h1.get? a = some o → h2.get? a = some o) → φ h2
def HOk (H : Hp) (h : Heap) : Prop := ∀ a o, H a = some o → ObjOk P w H h a o
end
section
variable {P : Program} {w : World} {H H' : Hp} {h h' : Heap} {a : Addr} {o : HO}
theorem ObjOk.lt (x : ObjOk P w H h a o) : a < h.objs.size := by
  cases o with
  | lst xs => obtain ⟨_, _, _, _, e⟩ := x; exact Heap.lt_size e
  | tup xs => obtain ⟨_, _, _, p⟩ := x; exact p.lt
  | dK kvs => obtain ⟨_, _, _, _, o, _, _, e, _⟩ := x; exact Heap.lt_size e
  | dT kvs => obtain ⟨_, _, _, _, o, _, _, e, _⟩ := x; exact Heap.lt_size e
  | set S n => obtain ⟨o, _, _, _, e, _⟩ := x; exact Heap.lt_size e
  | ins C dx fs => obtain ⟨_, _, _, e, _⟩ := x; exact Heap.lt_size e
  | own y => obtain ⟨_, e⟩ := x; exact Heap.lt_size e
  | xd fs => obtain ⟨_, ⟨_, _, _, e, _⟩, _⟩ := x; exact Heap.lt_size e
  | rng lo hi => obtain ⟨_, _, _, e⟩ := x; exact Heap.lt_size e
  | frz ob u => obtain ⟨e, _⟩ := x; exact Heap.lt_size e
  | tbl ps => exact Heap.lt_size (show h.get? a = some _ from x)
  | met f y => exact Heap.lt_size (show h.get? a = some _ from x)
  | ext φ => obtain ⟨_, ⟨_, e⟩, _⟩ := x; exact Heap.lt_size e
theorem Paired.mapP {α β : Type} {F G : α → β → Prop} : ∀ {l₁ : List α} {l₂ : List β}, Paired F l₁ l₂ → (∀ a b, F a b → G a b) → Paired G l₁ l₂
  | _, _, .nil, _ => .nil
  | _, _, .cons r t, f => .cons (f _ _ r) (Paired.mapP t f)
theorem ObjOk.stay (x : ObjOk P w H h a o) (k : ∀ b u, (b = a ∨ H b = some (.own a)) → h.get? b = some u → h'.get? b = some u)
    (ho : ∀ b, H b = some (.own a) → H' b = some (.own a)) (ht : ∀ b xs, H b = some (.tup xs) → H' b = some (.tup xs)) : ObjOk P w H' h' a o := by
  induction o with
  | lst xs => obtain ⟨z, its, n, r, e⟩ := x; exact ⟨z, its, n, r, k _ _ (.inl rfl) e⟩
  | tup xs => obtain ⟨z, its, r, ob, e, c⟩ := x; exact ⟨z, its, r, ob, k _ _ (.inl rfl) e, c⟩
  | dK kvs => obtain ⟨z, y, vs, r, ob, es, ep, e, c⟩ := x; exact ⟨z, y, vs, r, ob, es, ep, k _ _ (.inl rfl) e, c⟩
  | dT kvs =>
    obtain ⟨z, y, xs, r, ob, es, ep, e, c⟩ := x
    exact ⟨z, y, xs, Paired.mapP r fun p q z => ⟨z.1, ht _ _ z.2.1, z.2.2⟩, ob, es, ep, k _ _ (.inl rfl) e, c⟩
  | set S n => obtain ⟨ob, es, ep, t, e, c⟩ := x; exact ⟨ob, es, ep, t, k _ _ (.inl rfl) e, c⟩
  | ins C dx fs =>
    obtain ⟨d, z, ne, e, mA, ⟨od, es, ep, e2, c⟩, r⟩ := x
    exact ⟨ho _ d, z, ne, k _ _ (.inl rfl) e, mA, ⟨od, es, ep, k _ _ (.inr d) e2, c⟩, r⟩
  | own y => obtain ⟨ob, e⟩ := x; exact ⟨ob, k _ _ (.inl rfl) e⟩
  | xd fs => obtain ⟨mA, ⟨od, es, ep, e, c⟩, r⟩ := x; exact ⟨mA, ⟨od, es, ep, k _ _ (.inl rfl) e, c⟩, r⟩
  | rng lo hi => obtain ⟨t, u, v, e⟩ := x; exact ⟨t, u, v, k _ _ (.inl rfl) e⟩
  | frz ob u ih => obtain ⟨e, q⟩ := x; exact ⟨k _ _ (.inl rfl) e, ih q⟩
  | tbl ps =>
    have e : h.get? a = some { cls := .none, data := .fields ps } := x
    show h'.get? a = some { cls := .none, data := .fields ps }
    exact k a _ (.inl rfl) e
  | met f y =>
    have e : h.get? a = some (PySem.W.methodObj (.ref f) (.ref y)) := x
    show h'.get? a = some (PySem.W.methodObj (.ref f) (.ref y))
    exact k a _ (.inl rfl) e
  | ext φ => obtain ⟨p, ⟨o, e⟩, st⟩ := x; exact ⟨st _ _ p fun o q => k _ _ (.inl rfl) q, ⟨o, k _ _ (.inl rfl) e⟩, st⟩
theorem HOk.lt (x : HOk P w H h) (e : H a = some o) : a < h.objs.size := (x a o e).lt
theorem HOk.fresh (x : HOk P w H h) (e : h.objs.size ≤ a) : H a = none := by
  cases q : H a with
  | none => rfl
  | some u => exact absurd (Nat.lt_of_lt_of_le (x.lt q) e) (Nat.lt_irrefl _)
theorem HOk.kept (x : HOk P w H h) (k : ∀ b u, h.get? b = some u → h'.get? b = some u) : HOk P w H h' := fun a o e =>
  (x a o e).stay (fun b u _ q => k b u q) (fun _ q => q) fun _ _ q => q
theorem HOk.laid (x : HOk P w H h) (k : ∀ b u, h.get? b = some u → h'.get? b = some u) (hp : h.objs.size ≤ a) (new : ObjOk P w (upd H a o) h' a o) : HOk P w (upd H a o) h' := fun b u e => by
  have hn := x.fresh hp
  by_cases hb : b = a
  · subst hb; rw [upd_same] at e; cases e; exact new
  · rw [upd_ne hb] at e
    exact (x b u e).stay (fun c v _ q => k c v q) (fun c q => by rw [upd_ne (ne_of_none q hn)]; exact q) fun c xs q => by rw [upd_ne (ne_of_none q hn)]; exact q
end
def Rd (H : Hp) (a : Addr) (u : HO) : Prop := H a = some u ∨ ∃ o, H a = some (.frz o u)
theorem Rd.of {H : Hp} {a : Addr} {u : HO} (h : H a = some u) : Rd H a u := .inl h
theorem Rd.ok {P : Program} {w : World} {H : Hp} {h : Heap} {a : Addr} {u : HO} (r : Rd H a u) (x : HOk P w H h) : ObjOk P w H h a u := by
  rcases r with r | ⟨o, r⟩
  · exact x a u r
  · obtain ⟨_, q⟩ := x a _ r
    exact q
def Mut : Option HO → Prop
  | some (.lst _) => True
  | some (.dK _) => True
  | some (.dT _) => True
  | some (.set _ _) => True
  | some (.ins _ _ _) => True
  | some (.ext _) => True
  | _ => False
section
variable {P : Program} {w : World} {H : Hp} {h h' : Heap} {x e : Addr} {o' : HO}
theorem HOk.write (ok : HOk P w H h) (mu : Mut (H x)) (he : e = x ∨ H e = some (.own x)) (k : ∀ b u, b ≠ e → h.get? b = some u → h'.get? b = some u) (heo : ∃ u, h'.get? e = some u)
    (new : ObjOk P w (upd H x o') h' x o') : HOk P w (upd H x o') h' := fun b u q => by
  have nown : ∀ c y, H c = some (.own y) → c ≠ x := fun c y r z => by subst z; rw [r] at mu; exact mu
  have ntup : ∀ c xs, H c = some (.tup xs) → c ≠ x := fun c xs r z => by subst z; rw [r] at mu; exact mu
  by_cases hb : b = x
  · subst hb; rw [upd_same] at q; cases q; exact new
  · rw [upd_ne hb] at q
    by_cases hbe : b = e
    · have q' : H b = some (.own x) := by
        rcases he with z | z
        · exact absurd (hbe.trans z) hb
        · rw [hbe]; exact z
      rw [q] at q'; cases q'
      obtain ⟨v, hv⟩ := heo
      exact ⟨v, by rw [hbe]; exact hv⟩
    · refine (ok b u q).stay (fun c v hc r => k c v ?_ r) (fun c r => by rw [upd_ne (nown c b r)]; exact r) fun c xs r => by rw [upd_ne (ntup c xs r)]; exact r
      rcases hc with rfl | hc
      · exact hbe
      · rintro rfl
        rcases he with z | z
        · exact nown c b hc z
        · rw [hc] at z; cases z; exact hb rfl
end
structure Un (fs ex : List Addr) (H H' : Hp) (h h' : Heap) : Prop where
  keep : ∀ b o, h.get? b = some o → H b = none → b ∉ fs → b ∉ ex → h'.get? b = some o
  slot : ∀ b o, h.get? b = some o → H b = none → b ∈ fs → b ∉ ex → ∃ sl, h'.get? b = some { o with slots := sl }
  free : ∀ b o, h.get? b = some o → H b = none → b ∉ ex → H' b = none
  there : ∀ b o, h.get? b = some o → b ∉ ex → ∃ o', h'.get? b = some o'
  tups : ∀ b xs, H b = some (.tup xs) → H' b = some (.tup xs)
  frzs : ∀ b o u, H b = some (.frz o u) → H' b = some (.frz o u)
  tbls : ∀ b ps, H b = some (.tbl ps) → ∃ more, H' b = some (.tbl (ps ++ more))
section
variable {fs fs' ex ex' : List Addr} {H H1 H2 : Hp} {h h1 h2 h' : Heap} {a x e : Addr} {o : HO}
theorem Un.any (u : Un fs ex H H1 h h1) {b : Addr} {ob : Obj} (q : h.get? b = some ob) (n : H b = none) (hx : b ∉ ex) : ∃ sl, h1.get? b = some { ob with slots := sl } := by
  by_cases hb : b ∈ fs
  · exact u.slot b ob q n hb hx
  · exact ⟨ob.slots, u.keep b ob q n hb hx⟩
theorem Un.trans (a : Un fs ex H H1 h h1) (b : Un fs ex H1 H2 h1 h2) : Un fs ex H H2 h h2 where
  keep := fun c ob q n hc hx => b.keep c ob (a.keep c ob q n hc hx) (a.free c ob q n hx) hc hx
  slot := fun c ob q n hc hx => by
    obtain ⟨sl, e1⟩ := a.slot c ob q n hc hx
    obtain ⟨sl', e2⟩ := b.slot c _ e1 (a.free c ob q n hx) hc hx
    exact ⟨sl', e2⟩
  free := fun c ob q n hx => by
    obtain ⟨o', e1⟩ := a.there c ob q hx
    exact b.free c o' e1 (a.free c ob q n hx) hx
  there := fun c ob q hx => by
    obtain ⟨o', e1⟩ := a.there c ob q hx
    exact b.there c o' e1 hx
  tups := fun c xs q => b.tups c xs (a.tups c xs q)
  frzs := fun c ob xs q => b.frzs c ob xs (a.frzs c ob xs q)
  tbls := fun c ps q => by
    obtain ⟨m1, e1⟩ := a.tbls c ps q
    obtain ⟨m2, e2⟩ := b.tbls c _ e1
    exact ⟨m1 ++ m2, by rw [e2, Array.append_assoc]⟩
theorem Un.kept (k : ∀ b u, h.get? b = some u → h'.get? b = some u) : Un fs ex H H h h' :=
  ⟨fun b ob q _ _ _ => k b ob q, fun b ob q _ _ _ => ⟨ob.slots, k b ob q⟩, fun _ _ _ n _ => n, fun b ob q _ => ⟨ob, k b ob q⟩, fun _ _ q => q, fun _ _ _ q => q, fun _ ps q => ⟨#[], by rw [q]; simp⟩⟩
theorem Un.refl : Un fs ex H H h h := Un.kept fun _ _ q => q
theorem Un.laid (k : ∀ b u, h.get? b = some u → h'.get? b = some u) (hp : h.objs.size ≤ a) (hn : H a = none) : Un fs ex H (upd H a o) h h' where
  keep := fun b u q _ _ _ => k b u q
  slot := fun b u q _ _ _ => ⟨u.slots, k b u q⟩
  free := fun b u q n _ => by rw [upd_ne (Nat.ne_of_lt (Nat.lt_of_lt_of_le (Heap.lt_size q) hp))]; exact n
  there := fun b u q _ => ⟨u, k b u q⟩
  tups := fun b xs q => by rw [upd_ne (ne_of_none q hn)]; exact q
  frzs := fun b u xs q => by rw [upd_ne (ne_of_none q hn)]; exact q
  tbls := fun b ps q => ⟨#[], by rw [upd_ne (ne_of_none q hn), q]; simp⟩
theorem Un.write (mu : Mut (H x)) (he : e = x ∨ H e = some (.own x)) (k : ∀ b u, b ≠ e → h.get? b = some u → h'.get? b = some u) (heo : ∃ u, h'.get? e = some u) : Un fs ex H (upd H x o) h h' := by
  have hx : ∀ b, H b = none → b ≠ x := fun b n z => by subst z; rw [n] at mu; exact mu
  have hb : ∀ b, H b = none → b ≠ e := fun b n z => by
    subst z
    rcases he with r | r
    · exact hx b n r
    · rw [n] at r; cases r
  have hm : ∀ b u, H b = some u → ¬ Mut (some u) → b ≠ x := fun b u q nm z => by subst z; rw [q] at mu; exact nm mu
  refine ⟨fun b u q n _ _ => k b u (hb b n) q, fun b u q n _ _ => ⟨u.slots, k b u (hb b n) q⟩, fun b u q n _ => by rw [upd_ne (hx b n)]; exact n, fun b u q _ => ?_,
    fun b xs q => by rw [upd_ne (hm b _ q fun z => z)]; exact q, fun b u xs q => by rw [upd_ne (hm b _ q fun z => z)]; exact q, fun b ps q => ⟨#[], by rw [upd_ne (hm b _ q fun z => z), q]; simp⟩⟩
  by_cases hbe : b = e
  · subst hbe; exact heo
  · exact ⟨u, k b u hbe q⟩
theorem Un.mono (u : Un fs ex H H1 h h1) (hs : ∀ b ∈ fs, b ∈ fs') (hx : ∀ b ∈ ex, b ∈ ex') : Un fs' ex' H H1 h h1 :=
  ⟨fun b ob q n hb he => u.keep b ob q n (fun z => hb (hs b z)) fun z => he (hx b z), fun _ _ q n _ he => u.any q n fun z => he (hx _ z), fun b ob q n he => u.free b ob q n fun z => he (hx b z), fun b ob q he => u.there b ob q fun z => he (hx b z), u.tups, u.frzs, u.tbls⟩
end
def trk (h : Heap) (H : Hp) : List Addr := (List.range h.objs.size).filter fun a => (H a).isSome
def hidT (h : Heap) (H : Hp) : Heap := PySem.W.hideAll h (trk h H)
theorem hidT_size (h : Heap) (H : Hp) : (hidT h H).objs.size = h.objs.size := PySem.W.hideAll_size _ _
theorem hidT_get {h : Heap} {H : Hp} {b : Addr} {o : Obj} (e : h.get? b = some o) (n : H b = none) : (hidT h H).get? b = some o :=
  PySem.W.hideAll_get _ e fun hm => by
    have q : (H b).isSome = true := (List.mem_filter.mp hm).2
    rw [n] at q; simp at q
theorem of_hidT {h : Heap} {H : Hp} {b : Addr} {o : Obj} (e : (hidT h H).get? b = some o) : h.get? b = some o ∧ H b = none := by
  have e' : h.get? b = some o := PySem.W.of_hideAll (trk h H) e
  refine ⟨e', ?_⟩
  cases q : H b with
  | none => rfl
  | some x =>
    have hm : b ∈ trk h H := List.mem_filter.mpr ⟨List.mem_range.mpr (Heap.lt_size e'), by simp [q]⟩
    have z : (hidT h H).get? b = none := PySem.W.hideAll_none (trk h H) hm
    rw [z] at e; cases e
def allNews (g h : Heap) (L : Addr) : List (Addr × Obj) := (List.range h.objs.size).filterMap fun a => if a = L ∨ (g.get? a).isSome = true then none else (h.get? a).map fun o => (a, o)
def rest (g h : Heap) (L d : Addr) : List (Addr × Obj) := (allNews g h L).filter fun p => decide (p.1 ≠ d)
end L2
namespace L2
open PySem PySem.Spec PyProof.Rows
structure Mod (K : PySem.W.Frag) (mg : Str → Option Value) (base : Heap) : Prop where
  kin : K.In base
  glob : base.Ns mainGlobals mg
  blt : ∃ mb, base.Ns builtinsNs mb ∧ ∀ x : Str, x ≠ "__name__" → mb x = bootBuiltins x
  nolimit : base.NoLimit
structure Cx where
  prog : Program
  w : World
  K : PySem.W.Frag
  mg : Str → Option Value
  base : Heap
  A : Around
  N : List Str
  s₀ : Shared
  H₀ : Hp
  env : Env
  outer : List Env
  stack : List Env
  ex : List Addr
  fn : Str → Bool
  calm : Bool
  pn : List (Addr × Obj)
  xe : Value → Shared → Prop
def frs (l : List Env) : List Addr := l.filterMap (·.frame)
abbrev Cx.fs (X : Cx) : List Addr := frs X.outer
def Vis (sc : Scope) (x : Str) : Prop := sc.names.lookup x = some .local ∨ sc.names.lookup x = some .cell ∨ sc.names.lookup x = some .free
def Loc (sc : Scope) (x : Str) : Prop := sc.names.lookup x = some .local ∨ sc.names.lookup x = some .cell
def Look (env : Env) (h : Heap) (m : Str → Option Value) (x : Str) (u : Value) : Prop :=
  (env.kindOf x = some .local ∧ m x = some u) ∨ ((env.kindOf x = some .cell ∨ env.kindOf x = some .free) ∧ ∃ c, env.cells.lookup x = some c ∧ h.IsCell c (some u))
structure Cx.Ok (X : Cx) : Prop where
  mod : Mod X.K X.mg X.base
  kind : X.env.scope.kind = .function
  glob : X.env.globals = mainGlobals
  blt : X.env.builtins = builtinsNs
  above : X.s₀.heap.objs.size ≤ X.env.locals
  inj : ∀ x y c, X.env.cells.lookup x = some c → X.env.cells.lookup y = some c → x = y
  has : ∀ x, (X.env.kindOf x = some .cell ∨ X.env.kindOf x = some .free) → ∃ c, X.env.cells.lookup x = some c
  cab : ∀ x c, X.fn x = true → X.env.cells.lookup x = some c → X.s₀.heap.objs.size ≤ c
  hd : X.calm = true → X.A.handled = none
  frames : X.A.frames = some X.stack
  stk : X.stack = X.outer ∨ (X.stack = X.env :: X.outer ∧ X.env.frame = some X.env.locals)
  exf : ∀ b ∈ X.ex, b ≠ X.env.locals ∧ ∀ x c, X.env.cells.lookup x = some c → c ≠ b
  bs : ∀ b o, X.base.get? b = some o → X.s₀.heap.get? b = some o ∧ X.H₀ b = none
  bsz : X.base.objs.size ≤ X.s₀.heap.objs.size
  noex : ∀ b o, X.base.get? b = some o → b ∉ X.ex
  exfs : ∀ b ∈ X.ex, b ∉ X.fs
  funs : X.s₀.heap.FunFrames X.base X.outer
  frf : ∀ b ∈ X.fs, X.H₀ b = none
structure Inv (X : Cx) (pins : List (Addr × Obj)) (σ : List (Option V)) (H : Hp) (s : Shared) : Prop where
  ok : X.Ok
  os : s.os = X.s₀.os
  bare : AllBare s.gens
  base : Un X.fs X.ex X.H₀ H X.s₀.heap s.heap
  loc : ∃ m, s.heap.Ns X.env.locals m ∧ ∀ (i : Nat) (x : Str) (v : V), X.N[i]? = some x → σ[i]? = some (some v) → Vis X.env.scope x → ∃ u, RelV v u ∧ Look X.env s.heap m x u
  cell : ∀ x c, X.env.cells.lookup x = some c → ∃ v, s.heap.IsCell c v
  free : H X.env.locals = none
  freeC : ∀ x c, X.env.cells.lookup x = some c → H c = none
  pin : ∀ p ∈ X.pn ++ pins, s.heap.get? p.1 = some p.2 ∧ H p.1 = none ∧ p.1 ≠ X.env.locals ∧ p.1 ∉ X.fs ∧ ∀ v, p.2.data ≠ .cell v
  hok : HOk X.prog X.w H s.heap
  len : σ.length = X.N.length
section
variable {X : Cx} {pins : List (Addr × Obj)} {σ : List (Option V)} {H H' : Hp} {s : Shared} {h' : Heap}
theorem Cx.Ok.nofr (ok : X.Ok) {b : Addr} {o : Obj} (e : X.base.get? b = some o) : b ∉ X.fs := fun hb => by
  have := (ok.funs.mem hb).1
  rw [e] at this; cases this
theorem Inv.bs (I : Inv X pins σ H s) : ∀ b o, X.base.get? b = some o → s.heap.get? b = some o ∧ H b = none := fun b o e =>
  ⟨I.base.keep b o (I.ok.bs b o e).1 (I.ok.bs b o e).2 (I.ok.nofr e) (I.ok.noex b o e), I.base.free b o (I.ok.bs b o e).1 (I.ok.bs b o e).2 (I.ok.noex b o e)⟩
theorem Inv.bk (I : Inv X pins σ H s) : ∀ b o, X.base.get? b = some o → s.heap.get? b = some o := fun b o e => (I.bs b o e).1
theorem Inv.mod (I : Inv X pins σ H s) : Mod X.K X.mg X.base := I.ok.mod
theorem Inv.kIn (I : Inv X pins σ H s) : X.K.In s.heap := I.ok.mod.kin.keeps I.bk
theorem Inv.nolimit (I : Inv X pins σ H s) : s.heap.NoLimit := I.ok.mod.nolimit.keeps I.bk
theorem Inv.fr (I : Inv X pins σ H s) : ∃ m, Fr X.base X.env.locals s.heap m :=
  let ⟨m, hn, _⟩ := I.loc
  ⟨m, hn, I.bk, Nat.le_trans I.ok.bsz I.ok.above⟩
theorem Inv.lt (I : Inv X pins σ H s) : X.env.locals < s.heap.objs.size := let ⟨_, hn, _⟩ := I.loc; hn.lt
theorem Inv.sz (I : Inv X pins σ H s) : X.s₀.heap.objs.size ≤ s.heap.objs.size := Nat.le_trans I.ok.above (Nat.le_of_lt I.lt)
theorem Inv.nofs (I : Inv X pins σ H s) {a : Addr} (h : s.heap.objs.size ≤ a) : a ∉ X.fs := fun hb => by
  obtain ⟨_, o, ho, _⟩ := I.ok.funs.mem hb
  exact absurd (Nat.lt_of_lt_of_le (Heap.lt_size ho) (Nat.le_trans I.sz h)) (Nat.lt_irrefl _)
theorem Inv.cne (I : Inv X pins σ H s) : ∀ x c, X.env.cells.lookup x = some c → c ≠ X.env.locals := fun x c e z => by
  obtain ⟨v, o, ho, hd⟩ := I.cell x c e
  obtain ⟨m, ⟨o', es, ep, ho', hd', _⟩, _⟩ := I.loc
  rw [z, ho'] at ho; cases ho; rw [hd'] at hd; cases hd
theorem Inv.funs (I : Inv X pins σ H s) : s.heap.FunFrames X.base X.outer := by
  have all : ∀ (l : List Env), (∀ b ∈ frs l, b ∈ X.fs) → X.s₀.heap.FunFrames X.base l → s.heap.FunFrames X.base l := by
    intro l
    induction l with
    | nil => intro _ _; trivial
    | cons env r ih =>
      intro hs hl
      obtain ⟨hk, ⟨L, o, hf, hn, ho, hd⟩, hr⟩ := hl
      have hL : L ∈ X.fs := hs L (by unfold frs; rw [List.filterMap_cons, hf]; exact List.mem_cons_self)
      obtain ⟨sl, e⟩ := I.base.slot L o ho (I.ok.frf L hL) hL fun z => I.ok.exfs L z hL
      exact ⟨hk, ⟨L, _, hf, hn, e, hd⟩, ih (fun b hb => hs b (by unfold frs; rw [List.filterMap_cons, hf]; exact List.mem_cons_of_mem _ hb)) hr⟩
  exact all X.outer (fun _ hb => hb) I.ok.funs
theorem Inv.stack (I : Inv X pins σ H s) : s.heap.FunFrames X.base X.stack := by
  rcases I.ok.stk with e | ⟨e, hf⟩
  · rw [e]; exact I.funs
  · rw [e]
    obtain ⟨m, hn, _⟩ := I.loc
    refine .cons (by rw [I.ok.kind]; decide) hf hn ?_ I.funs
    exact Heap.get?_none_of_le (Nat.le_trans I.ok.bsz I.ok.above)
theorem Inv.stkSub (I : Inv X pins σ H s) : ∀ b ∈ frs X.stack, b ∈ X.env.locals :: X.fs := fun b hb => by
  rcases I.ok.stk with e | ⟨e, hf⟩
  · rw [e] at hb; exact List.mem_cons_of_mem _ hb
  · rw [e] at hb
    unfold frs at hb
    rw [List.filterMap_cons, hf] at hb
    exact hb
theorem Inv.stkFree (I : Inv X pins σ H s) : ∀ b ∈ frs X.stack, H b = none := fun b hb => by
  rcases List.mem_cons.mp (I.stkSub b hb) with e | hb
  · rw [e]; exact I.free
  · obtain ⟨_, o, ho, _⟩ := I.ok.funs.mem hb
    exact I.base.free b o ho (I.ok.frf b hb) fun z => I.ok.exfs b z hb
theorem Inv.step {g' : Array GenState} {t' : Nat} {d' : Drawn} {ch : List Addr} (I : Inv X pins σ H s)
    (hch : ∀ b ∈ ch, (b ∈ X.ex ∨ X.s₀.heap.objs.size ≤ b) ∧ b ≠ X.env.locals ∧ (∀ x c, X.env.cells.lookup x = some c → c ≠ b) ∧ ∀ p ∈ X.pn ++ pins, p.1 ≠ b)
    (keep : ∀ b o, b ≠ X.env.locals → b ∉ X.fs → b ∉ ch → s.heap.get? b = some o → H b = none → h'.get? b = some o)
    (slot : ∀ b o, b ≠ X.env.locals → b ∈ X.fs → b ∉ ch → s.heap.get? b = some o → H b = none → ∃ sl, h'.get? b = some { o with slots := sl }) (free : ∀ b o, b ∉ ch → s.heap.get? b = some o → H b = none → H' b = none)
    (there : ∀ b o, b ∉ ch → s.heap.get? b = some o → ∃ o', h'.get? b = some o')
    (tups : ∀ b xs, H b = some (.tup xs) → H' b = some (.tup xs)) (frzs : ∀ b o u, H b = some (.frz o u) → H' b = some (.frz o u)) (tbls : ∀ b ps, H b = some (.tbl ps) → ∃ more, H' b = some (.tbl (ps ++ more)))
    (ns : ∀ m, s.heap.Ns X.env.locals m → h'.Ns X.env.locals m) (hok : HOk X.prog X.w H' h') (hg : AllBare g') :
    Inv X pins σ H' { s with heap := h', gens := g', drawn := d', toks := t' } := by
  have neL : ∀ b o, X.s₀.heap.get? b = some o → b ≠ X.env.locals := fun b o e => Nat.ne_of_lt (Nat.lt_of_lt_of_le (Heap.lt_size e) I.ok.above)
  have neC : ∀ b o, X.s₀.heap.get? b = some o → b ∉ X.ex → b ∉ ch := fun b o e hx hb => by
    rcases (hch b hb).1 with z | z
    · exact hx z
    · exact absurd (Nat.lt_of_lt_of_le (Heap.lt_size e) z) (Nat.lt_irrefl _)
  have cellK : ∀ x c, X.env.cells.lookup x = some c → ∀ v, s.heap.IsCell c v → h'.IsCell c v := fun x c e v ⟨o, ho, hd⟩ => by
    have nch : c ∉ ch := fun z => (hch c z).2.2.1 x c e rfl
    by_cases hc : c ∈ X.fs
    · obtain ⟨sl, q⟩ := slot c o (I.cne x c e) hc nch ho (I.freeC x c e)
      exact ⟨_, q, hd⟩
    · exact ⟨o, keep c o (I.cne x c e) hc nch ho (I.freeC x c e), hd⟩
  refine ⟨I.ok, I.os, hg, ⟨fun b o e n hb hx => ?_, fun b o e n hb hx => ?_, fun b o e n hx => ?_, fun b o e hx => ?_, fun b xs e => tups b xs (I.base.tups b xs e), fun b o xs e => frzs b o xs (I.base.frzs b o xs e), fun b ps e => ?_⟩, ?_, fun x c e => ?_, ?_, fun x c e => ?_, fun p hp => ?_, hok, I.len⟩
  · exact keep b o (neL b o e) hb (neC b o e hx) (I.base.keep b o e n hb hx) (I.base.free b o e n hx)
  · obtain ⟨sl, e1⟩ := I.base.slot b o e n hb hx
    obtain ⟨sl', e2⟩ := slot b _ (neL b o e) hb (neC b o e hx) e1 (I.base.free b o e n hx)
    exact ⟨sl', e2⟩
  · obtain ⟨o', e1⟩ := I.base.there b o e hx
    exact free b o' (neC b o e hx) e1 (I.base.free b o e n hx)
  · obtain ⟨o', e1⟩ := I.base.there b o e hx
    exact there b o' (neC b o e hx) e1
  · obtain ⟨m1, e1⟩ := I.base.tbls b ps e
    obtain ⟨m2, e2⟩ := tbls b _ e1
    exact ⟨m1 ++ m2, by rw [e2, Array.append_assoc]⟩
  · obtain ⟨m, hn, hl⟩ := I.loc
    refine ⟨m, ns m hn, fun i x v e1 e2 e3 => ?_⟩
    obtain ⟨u, r, l⟩ := hl i x v e1 e2 e3
    refine ⟨u, r, ?_⟩
    rcases l with l | ⟨k, c, e, z⟩
    · exact .inl l
    · exact .inr ⟨k, c, e, cellK x c e _ z⟩
  · obtain ⟨v, z⟩ := I.cell x c e
    exact ⟨v, cellK x c e v z⟩
  · obtain ⟨m, ⟨o, _, _, ho, _⟩, _⟩ := I.loc
    exact free _ o (fun z => (hch _ z).2.1 rfl) ho I.free
  · obtain ⟨v, o, ho, hd⟩ := I.cell x c e
    exact free c o (fun z => (hch c z).2.2.1 x c e rfl) ho (I.freeC x c e)
  · obtain ⟨e, n, ne, nf, d⟩ := I.pin p hp
    have nch : p.1 ∉ ch := fun z => (hch p.1 z).2.2.2 p hp rfl
    exact ⟨keep p.1 p.2 ne nf nch e n, free p.1 p.2 nch e n, ne, nf, d⟩
theorem Inv.un {t' : Nat} (I : Inv X pins σ H s) (u : Un X.fs [] H H' s.heap h') (hok : HOk X.prog X.w H' h') : Inv X pins σ H' { s with heap := h', toks := t' } := by
  obtain ⟨m, ⟨o, es, ep, ho, r⟩, _⟩ := id I.loc
  obtain ⟨sl, hL⟩ := u.any ho I.free (by simp)
  exact I.step (g' := s.gens) (d' := s.drawn) (ch := []) (fun _ z => nomatch z) (fun b o _ hb _ e n => u.keep b o e n hb (by simp)) (fun b o _ hb _ e n => u.slot b o e n hb (by simp)) (fun b o _ e n => u.free b o e n (by simp)) (fun b o _ e => u.there b o e (by simp)) u.tups u.frzs u.tbls (fun m' hm => by
    obtain ⟨o', es', ep', ho', r'⟩ := hm
    rw [ho] at ho'; cases ho'
    exact ⟨_, es', ep', hL, r'⟩) hok I.bare
theorem Inv.call {g' : Array GenState} {t' : Nat} {d' : Drawn} {ch : List Addr} (I : Inv X pins σ H s) (u : Un (frs X.stack) ch H H' s.heap h') (hok : HOk X.prog X.w H' h') (hg : AllBare g')
    (hch : ∀ b ∈ ch, (b ∈ X.ex ∨ X.s₀.heap.objs.size ≤ b) ∧ b ≠ X.env.locals ∧ (∀ x c, X.env.cells.lookup x = some c → c ≠ b) ∧ ∀ p ∈ X.pn ++ pins, p.1 ≠ b) :
    Inv X pins σ H' { s with heap := h', gens := g', drawn := d', toks := t' } := by
  obtain ⟨m, ⟨o, es, ep, ho, r⟩, _⟩ := id I.loc
  obtain ⟨sl, hL⟩ := u.any ho I.free fun z => (hch _ z).2.1 rfl
  exact I.step (ch := ch) hch (fun b o hL hb hc e n => u.keep b o e n (fun z => (List.mem_cons.mp (I.stkSub b z)).elim hL hb) hc) (fun b o _ _ hc e n => u.any e n hc) (fun b o hc e n => u.free b o e n hc) (fun b o hc e => u.there b o e hc) u.tups u.frzs u.tbls (fun m' hm => by
    obtain ⟨o', es', ep', ho', r'⟩ := hm
    rw [ho] at ho'; cases ho'
    exact ⟨_, es', ep', hL, r'⟩) hok hg
theorem Inv.turned {t' : Nat} {it : Addr} (I : Inv X pins σ H s) (k : ∀ b o, b ≠ it → s.heap.get? b = some o → h'.get? b = some o) (hn : H it = none) (hL : it ≠ X.env.locals)
    (h1 : it ∈ X.ex ∨ X.s₀.heap.objs.size ≤ it) (h2 : ∀ x c, X.env.cells.lookup x = some c → c ≠ it) (h3 : ∀ p ∈ X.pn ++ pins, p.1 ≠ it) : Inv X pins σ H { s with heap := h', toks := t' } := by
  have nit : ∀ b u, H b = some u → b ≠ it := fun b u e z => by rw [z, hn] at e; cases e
  refine I.step (g' := s.gens) (d' := s.drawn) (ch := [it]) (fun b hb => ?_) (fun b o _ _ hc e _ => k b o (fun z => hc (by simp [z])) e) (fun b o _ _ hc e _ => ⟨o.slots, k b o (fun z => hc (by simp [z])) e⟩) (fun _ _ _ _ n => n)
    (fun b o hc e => ⟨o, k b o (fun z => hc (by simp [z])) e⟩) (fun _ _ e => e) (fun _ _ _ e => e) (fun b ps e => ⟨#[], by rw [e]; simp⟩) (fun m hm => ?_) (fun b u e => ?_) I.bare
  · have e : b = it := by simpa using hb
    subst e
    exact ⟨h1, hL, h2, h3⟩
  · obtain ⟨o, es, ep, ho, r⟩ := hm
    exact ⟨o, es, ep, k _ o (Ne.symm hL) ho, r⟩
  · refine (I.hok b u e).stay (fun c v hc q => k c v ?_ q) (fun _ q => q) fun _ _ q => q
    rcases hc with z | z
    · rw [z]; exact nit b u e
    · exact nit c _ z
theorem Inv.tok (I : Inv X pins σ H s) (t : Nat) : Inv X pins σ H { s with toks := t } := I.un (h' := s.heap) (t' := t) Un.refl I.hok
theorem Inv.kept {t' : Nat} (I : Inv X pins σ H s) (k : ∀ b u, s.heap.get? b = some u → h'.get? b = some u) : Inv X pins σ H { s with heap := h', toks := t' } := I.un (Un.kept k) (I.hok.kept k)
theorem Inv.laid {a : Addr} {o : HO} {t' : Nat} (I : Inv X pins σ H s) (k : ∀ b u, s.heap.get? b = some u → h'.get? b = some u) (hp : s.heap.objs.size ≤ a) (new : ObjOk X.prog X.w (upd H a o) h' a o) :
    Inv X pins σ (upd H a o) { s with heap := h', toks := t' } := I.un (Un.laid k hp (I.hok.fresh hp)) (I.hok.laid k hp new)
theorem Inv.write {x e : Addr} {o : HO} {t' : Nat} (I : Inv X pins σ H s) (mu : Mut (H x)) (he : e = x ∨ H e = some (.own x)) (k : ∀ b u, b ≠ e → s.heap.get? b = some u → h'.get? b = some u) (heo : ∃ u, h'.get? e = some u)
    (new : ObjOk X.prog X.w (upd H x o) h' x o) : Inv X pins σ (upd H x o) { s with heap := h', toks := t' } := I.un (Un.write mu he k heo) (I.hok.write mu he k heo new)
theorem Inv.pins_of {pins' : List (Addr × Obj)} (I : Inv X pins σ H s) (h : ∀ p ∈ pins', s.heap.get? p.1 = some p.2 ∧ H p.1 = none ∧ p.1 ≠ X.env.locals ∧ p.1 ∉ X.fs ∧ ∀ v, p.2.data ≠ .cell v) : Inv X pins' σ H s :=
  ⟨I.ok, I.os, I.bare, I.base, I.loc, I.cell, I.free, I.freeC, fun p hp => (List.mem_append.mp hp).elim (fun z => I.pin p (List.mem_append_left _ z)) (h p), I.hok, I.len⟩
theorem nodup_ix {N : List Str} (hN : N.Nodup) {i j : Nat} {x : Str} (a : N[i]? = some x) (b : N[j]? = some x) : i = j := by
  obtain ⟨h1, e1⟩ := List.getElem?_eq_some_iff.mp a
  obtain ⟨h2, e2⟩ := List.getElem?_eq_some_iff.mp b
  exact (List.getElem_inj hN).mp (e1.trans e2.symm)
theorem store_ok2 {M : Model} {A : Around} {E : Value → Shared → Prop} {i : Nat} {x : Str} {v : V} {u : Value} {Q : Unit → Shared → Prop} (I : Inv X pins σ H s) (hN : X.N.Nodup) (hi : X.N[i]? = some x) (hx : Loc X.env.scope x) (r : RelV v u)
    (h : ∀ s', Inv X pins (σ.set i (some v)) H s' → (∃ a, Heap.SameBut a s.heap s'.heap ∧ (a = X.env.locals ∨ X.env.cells.lookup x = some a)) → Q () s') (hf : X.fn x = true ∨ X.env.scope.names.lookup x = some .local := by first | exact .inl rfl | exact .inr rfl | assumption) : wpAny M A (storeName X.env x u) Q E s := by
  obtain ⟨m, hn, hl⟩ := id I.loc
  have hcls : (X.env.scope.kind == .class || (X.env.scope.kind == .module && X.env.locals != X.env.globals)) = false := by rw [I.ok.kind]; rfl
  have hiσ : i < σ.length := by rw [I.len]; exact (List.getElem?_eq_some_iff.mp hi).1
  have cne := I.cne
  have tracked : ∀ {a : Addr} {h' : Heap}, (∃ o, s.heap.get? a = some o ∧ H a = none) → Heap.SameBut a s.heap h' → HOk X.prog X.w H h' := fun {a h'} ha hs b ob e => by
    obtain ⟨_, _, hfree⟩ := ha
    refine (I.hok b ob e).stay (fun c w' hc q => (hs.2 c ?_).trans q) (fun _ q => q) fun _ _ q => q
    rintro rfl
    rcases hc with rfl | hc
    · rw [hfree] at e; cases e
    · rw [hfree] at hc; cases hc
  rcases hx with hk | hk
  · refine wpAny_storeName_local hk hn (fun h' hn' hs => ?_) hcls
    obtain ⟨oL, _, _, hoL, _⟩ := id hn
    refine h _ ⟨I.ok, I.os, I.bare, ⟨fun b o e n hb hx => ?_, fun b o e n hb hx => ?_, I.base.free, fun b o e hx => ?_, I.base.tups, I.base.frzs, I.base.tbls⟩, ⟨_, hn', fun j y v' e1 e2 e3 => ?_⟩, fun y c e => ?_, I.free, I.freeC, fun p hp => ?_, tracked ⟨oL, hoL, I.free⟩ hs, by simpa using I.len⟩ ⟨_, hs, .inl rfl⟩
    · exact (hs.2 b (Nat.ne_of_lt (Nat.lt_of_lt_of_le (Heap.lt_size e) I.ok.above))).trans (I.base.keep b o e n hb hx)
    · obtain ⟨sl, e1⟩ := I.base.slot b o e n hb hx
      exact ⟨sl, (hs.2 b (Nat.ne_of_lt (Nat.lt_of_lt_of_le (Heap.lt_size e) I.ok.above))).trans e1⟩
    · obtain ⟨o', e1⟩ := I.base.there b o e hx
      exact ⟨o', (hs.2 b (Nat.ne_of_lt (Nat.lt_of_lt_of_le (Heap.lt_size e) I.ok.above))).trans e1⟩
    · by_cases hj : j = i
      · subst hj
        rw [hi] at e1; cases e1
        rw [List.getElem?_set_self hiσ] at e2
        cases e2
        exact ⟨u, r, .inl ⟨hk, by simp⟩⟩
      · rw [List.getElem?_set_ne (Ne.symm hj)] at e2
        obtain ⟨u', r', q⟩ := hl j y v' e1 e2 e3
        refine ⟨u', r', ?_⟩
        rcases q with ⟨k, e⟩ | ⟨k, c, e, z⟩
        · refine .inl ⟨k, ?_⟩
          have : y ≠ x := fun e => hj (nodup_ix hN e1 (e ▸ hi))
          simp [this, e]
        · exact .inr ⟨k, c, e, z.sameBut hs (cne y c e)⟩
    · obtain ⟨w', z⟩ := I.cell y c e
      exact ⟨w', z.sameBut hs (cne y c e)⟩
    · obtain ⟨e, n, ne, nf, d⟩ := I.pin p hp
      exact ⟨(hs.2 p.1 ne).trans e, n, ne, nf, d⟩
  · have hfn : X.fn x = true := by
      rcases hf with z | z
      · exact z
      · rw [z] at hk; cases hk
    obtain ⟨c, hc⟩ := I.ok.has x (.inl hk)
    obtain ⟨w', z⟩ := I.cell x c hc
    refine wpAny_storeName_cell I.ok.kind hk hc z (fun h' hc' hs => ?_)
    obtain ⟨oc, hoc, hocd⟩ := id z
    refine h { s with heap := h' } ⟨I.ok, I.os, I.bare, ⟨fun b o e n hb hx => ?_, fun b o e n hb hx => ?_, I.base.free, fun b o e hx => ?_, I.base.tups, I.base.frzs, I.base.tbls⟩, ⟨m, hn.sameBut hs (Ne.symm (cne x c hc)), fun j y v' e1 e2 e3 => ?_⟩, fun y c' e => ?_, I.free, I.freeC, fun p hp => ?_, tracked ⟨oc, hoc, I.freeC x c hc⟩ hs, by simpa using I.len⟩ ⟨c, hs, .inr hc⟩
    · exact (hs.2 b (Nat.ne_of_lt (Nat.lt_of_lt_of_le (Heap.lt_size e) (I.ok.cab x c hfn hc)))).trans (I.base.keep b o e n hb hx)
    · obtain ⟨sl, e1⟩ := I.base.slot b o e n hb hx
      exact ⟨sl, (hs.2 b (Nat.ne_of_lt (Nat.lt_of_lt_of_le (Heap.lt_size e) (I.ok.cab x c hfn hc)))).trans e1⟩
    · obtain ⟨o', e1⟩ := I.base.there b o e hx
      exact ⟨o', (hs.2 b (Nat.ne_of_lt (Nat.lt_of_lt_of_le (Heap.lt_size e) (I.ok.cab x c hfn hc)))).trans e1⟩
    · by_cases hj : j = i
      · subst hj
        rw [hi] at e1; cases e1
        rw [List.getElem?_set_self hiσ] at e2
        cases e2
        exact ⟨u, r, .inr ⟨.inl hk, c, hc, hc'⟩⟩
      · rw [List.getElem?_set_ne (Ne.symm hj)] at e2
        obtain ⟨u', r', q⟩ := hl j y v' e1 e2 e3
        refine ⟨u', r', ?_⟩
        rcases q with q | ⟨k, c', e, z'⟩
        · exact .inl q
        · refine .inr ⟨k, c', e, z'.sameBut hs ?_⟩
          rintro rfl
          exact hj (nodup_ix hN e1 (I.ok.inj _ _ _ e hc ▸ hi))
    · by_cases hcc : c' = c
      · subst hcc; exact ⟨_, hc'⟩
      · obtain ⟨w2, z2⟩ := I.cell y c' e
        exact ⟨w2, z2.sameBut hs hcc⟩
    · obtain ⟨e, n, ne, nf, d⟩ := I.pin p hp
      refine ⟨(hs.2 p.1 ?_).trans e, n, ne, nf, d⟩
      intro q
      rw [q, hoc] at e
      have q' : oc = p.2 := Option.some.inj e
      exact d w' (by rw [← q']; exact hocd)
theorem store_ok {M : Model} {A : Around} {E : Value → Shared → Prop} {i : Nat} {x : Str} {v : V} {u : Value} {Q : Unit → Shared → Prop} (I : Inv X pins σ H s) (hN : X.N.Nodup) (hi : X.N[i]? = some x) (hx : Loc X.env.scope x) (r : RelV v u)
    (h : ∀ s', Inv X pins (σ.set i (some v)) H s' → Q () s') (hf : X.fn x = true ∨ X.env.scope.names.lookup x = some .local := by first | exact .inl rfl | exact .inr rfl | assumption) : wpAny M A (storeName X.env x u) Q E s :=
  store_ok2 I hN hi hx r (fun s' I' _ => h s' I') hf
end
abbrev XK := Value → Option Addr → Hp → Prop
abbrev St := List (Option V)
abbrev VK := V → Hp → Prop
abbrev TE := St → Hp → VK → Prop
abbrev TT := St → Hp → (Bool → Hp → Prop) → Prop
abbrev TA := St → Hp → (List V → Hp → Prop) → Prop
structure Ends where
  nx : St → Hp → Prop
  rt : VK
  bk : St → Hp → Prop := fun _ _ => False
  ct : St → Hp → Prop := fun _ _ => False
abbrev TS := Ends → St → Hp → Prop
def EP (X : Cx) (pins : List (Addr × Obj)) (σ : St) (Q : VK) (u : Value) (s' : Shared) : Prop := ∃ v H', Inv X pins σ H' s' ∧ RelV v u ∧ Q v H'
def TP (X : Cx) (pins : List (Addr × Obj)) (σ : St) (Q : Bool → Hp → Prop) (b : Bool) (s' : Shared) : Prop := ∃ H', Inv X pins σ H' s' ∧ Q b H'
def AP (X : Cx) (pins : List (Addr × Obj)) (σ : St) (Q : List V → Hp → Prop) (us : List Value) (s' : Shared) : Prop := ∃ vs H', Inv X pins σ H' s' ∧ Vals vs us ∧ Q vs H'
def SP (X : Cx) (pins : List (Addr × Obj)) (D : Ends) (f : Flow) (s' : Shared) : Prop :=
  match f with
  | .next => ∃ σ' H', Inv X pins σ' H' s' ∧ D.nx σ' H'
  | .brk => ∃ σ' H', Inv X pins σ' H' s' ∧ D.bk σ' H'
  | .cont => ∃ σ' H', Inv X pins σ' H' s' ∧ D.ct σ' H'
  | .ret u => ∃ v σ' H', Inv X pins σ' H' s' ∧ RelV v u ∧ D.rt v H'
def PE (X : Cx) (e : Expr) (t : TE) : Prop :=
  ∀ (pins : List (Addr × Obj)) (s : Shared) (σ : St) (H : Hp) (Q : VK), Inv X pins σ H s → t σ H Q → wpAny (model X.prog X.w) X.A (eval e X.env) (EP X pins σ Q) X.xe s
def PT (X : Cx) (e : Expr) (t : TT) : Prop :=
  ∀ (pins : List (Addr × Obj)) (s : Shared) (σ : St) (H : Hp) (Q : Bool → Hp → Prop), Inv X pins σ H s → t σ H Q → wpAny (model X.prog X.w) X.A (isTrue e X.env (eval e X.env)) (TP X pins σ Q) X.xe s
def PW (X : Cx) (e : Expr) (t : TT) : Prop :=
  ∀ (whole : Sem Value) (pins : List (Addr × Obj)) (s : Shared) (σ : St) (H : Hp) (Q : Bool → Hp → Prop), Inv X pins σ H s → t σ H Q → wpAny (model X.prog X.w) X.A (isTrue e X.env whole) (TP X pins σ Q) X.xe s
theorem PW.pt {X : Cx} {e : Expr} {t : TT} (h : PW X e t) : PT X e t := h _
def PA (X : Cx) (es : List Expr) (t : TA) : Prop :=
  ∀ (pos : Pos) (pins : List (Addr × Obj)) (s : Shared) (σ : St) (H : Hp) (Q : List V → Hp → Prop), Inv X pins σ H s → t σ H Q → wpAny (model X.prog X.w) X.A (spliced (backTo pos (starEach es X.env))) (AP X pins σ Q) X.xe s
def PS (X : Cx) (st : Stmt) (t : TS) : Prop :=
  ∀ (pins : List (Addr × Obj)) (s : Shared) (σ : St) (H : Hp) (D : Ends), Inv X pins σ H s → t D σ H → wpAny (model X.prog X.w) X.A (exec st X.env) (SP X pins D) X.xe s
def PSs (X : Cx) (st : List Stmt) (t : TS) : Prop :=
  ∀ (pins : List (Addr × Obj)) (s : Shared) (σ : St) (H : Hp) (D : Ends), Inv X pins σ H s → t D σ H → wpAny (model X.prog X.w) X.A (execs st X.env) (SP X pins D) X.xe s
theorem thn {α : Type} {t : Sem α} {Q Q' : α → Shared → Prop} {M : Model} {A : Around} {E : Value → Shared → Prop} {s : Shared} (h : wpAny M A t Q E s) (hQ : ∀ a s, Q a s → Q' a s) : wpAny M A t Q' E s := wpAny_mono h hQ fun _ _ x => x
end L2
namespace L2
open PySem PySem.Spec PyProof.Rows
section
variable {X : Cx}
def tVar (i : Nat) : TE := fun σ H Q => ∃ v, σ[i]? = some (some v) ∧ Q v H
def tC (v : V) : TE := fun _ H Q => Q v H
theorem pe_var {i : Nat} {x : Str} {pos : Pos} (hN : X.N[i]? = some x) (hv : Vis X.env.scope x) (hd : (x == ("__debug__" : Str)) = false := by decide) (hcd : (x == ("__classdict__" : Str)) = false := by decide) : PE X (.Name x pos) (tVar i) := by
  intro pins s σ H Q I h
  obtain ⟨v, e, h⟩ := h
  obtain ⟨m, hn, hl⟩ := I.loc
  obtain ⟨u, r, l⟩ := hl i x v hN e hv
  have fin : EP X pins σ Q u s := ⟨v, H, I, r, h⟩
  rcases l with ⟨hk, hm⟩ | ⟨hk, c, hc, hcell⟩
  · exact wpAny_Name (wpAny_loadName_local I.ok.kind hk hn hm fin) hd
  · rcases hk with hk | hk
    · exact wpAny_Name (wpAny_loadName_cell I.ok.kind hk hc hcell fin) hd
    · exact wpAny_Name (wpAny_loadName_free I.ok.kind hk hc hcell fin hcd) hd
theorem pe_int {i j pos} : PE X (.Constant (.int i) j pos) (tC (.int i)) := fun _ _ _ H _ I h => wpAny_Constant_int ⟨.int i, H, I.tok _, ⟨_, rfl⟩, h⟩
theorem pe_bl {b j pos} : PE X (.Constant (.bool b) j pos) (tC (.bl b)) := fun _ _ _ H _ I h => Constant_bool ⟨.bl b, H, I, rfl, h⟩
def Gl (X : Cx) (x : Str) : Prop := X.env.kindOf x = some .globalImplicit
theorem ld_glob {E : Value → Shared → Prop} {pins : List (Addr × Obj)} {s : Shared} {σ : St} {H : Hp} {x : Str} {u : Value} {pos : Pos} {Q : Value → Shared → Prop} (I : Inv X pins σ H s) (hg : Gl X x) (hm : X.mg x = some u) (h : Q u s)
    (hd : (x == ("__debug__" : Str)) = false := by decide) : wpAny (model X.prog X.w) X.A (eval (.Name x pos) X.env) Q E s :=
  Calls.Name_function_global I.ok.kind hg (Calls.loadGlobal_global (by rw [I.ok.glob]; exact I.mod.glob.keeps I.bk) hm h) hd
theorem ld_blt {E : Value → Shared → Prop} {pins : List (Addr × Obj)} {s : Shared} {σ : St} {H : Hp} {x : Str} {u : Value} {pos : Pos} {Q : Value → Shared → Prop} (I : Inv X pins σ H s) (hg : Gl X x) (hm : X.mg x = none) (hv : bootBuiltins x = some u) (h : Q u s)
    (hn : x ≠ "__name__" := by decide) (hd : (x == ("__debug__" : Str)) = false := by decide) : wpAny (model X.prog X.w) X.A (eval (.Name x pos) X.env) Q E s := by
  obtain ⟨mb, h1, h2⟩ := I.mod.blt
  exact Calls.Name_function_global I.ok.kind hg (Calls.loadGlobal_builtin (by rw [I.ok.glob]; exact I.mod.glob.keeps I.bk) hm (by rw [I.ok.blt]; exact h1.keeps I.bk) ((h2 x hn).trans hv) h) hd
theorem pe_bltn {x : Str} {v : V} {u : Value} {pos : Pos} (hg : Gl X x) (hm : X.mg x = none) (hv : bootBuiltins x = some u) (r : RelV v u) (hn : x ≠ "__name__" := by decide) (hd : (x == ("__debug__" : Str)) = false := by decide) : PE X (.Name x pos) (tC v) :=
  fun _ _ _ H _ I h => ld_blt I hg hm hv ⟨v, H, I, r, h⟩ hn hd
def t2I (ta tb : TE) (k : Int → Int → Hp → Prop) : St → Hp → Prop := fun σ H => ta σ H fun x H1 => tb σ H1 fun y H2 => ∃ i j, x = .int i ∧ y = .int j ∧ k i j H2
def tAdd (ta tb : TE) : TE := fun σ H Q => t2I ta tb (fun i j H2 => Q (.int (i + j)) H2) σ H
def tSub (ta tb : TE) : TE := fun σ H Q => t2I ta tb (fun i j H2 => Q (.int (i - j)) H2) σ H
def tMul (ta tb : TE) : TE := fun σ H Q => t2I ta tb (fun i j H2 => (-(2 ^ 64) < i ∧ i < 2 ^ 64) ∧ Q (.int (i * j)) H2) σ H
variable {a b : Expr} {ta tb : TE} {pos : Pos}
def tCmp (p : Int → Int → Bool) (ta tb : TE) : TE := fun σ H Q => t2I ta tb (fun i j H2 => Q (.bl (p i j)) H2) σ H
def tIsN (ta : TE) : TE := fun σ H Q => ta σ H fun x H1 => Q (.bl (decide (x = .non))) H1
def tNotN (ta : TE) : TE := fun σ H Q => ta σ H fun x H1 => Q (.bl (!decide (x = .non))) H1
def tB (t : TE) : TT := fun σ H Q => t σ H fun x H1 => ∃ c, x = .bl c ∧ Q c H1
theorem pt_val {e : Expr} {t : TE} (h : PE X e t) (he : ∀ whole, isTrue e X.env whole = (do let v ← whole; standAt e.pos; holding [v] (truthy v)) := by intro _; rfl) : PT X e (tB t) := by
  intro pins s σ H Q I hw
  refine isTrue_plain (thn (h pins s σ H _ I hw) fun v s1 ⟨x, H1, I1, r1, q1⟩ => ?_) (he _)
  obtain ⟨d, rfl, q⟩ := q1
  cases r1
  exact wpAny_truthy_bool ⟨H1, I1, q⟩
variable {tA tB' : TT} {rest : List Expr}
def tAnd (t u : TT) : TT := fun σ H Q => t σ H fun c H1 => if c = true then u σ H1 Q else Q false H1
def tOr (t u : TT) : TT := fun σ H Q => t σ H fun c H1 => if c = true then Q true H1 else u σ H1 Q
def tNot (t : TT) : TT := fun σ H Q => t σ H fun c H1 => Q (!c) H1
theorem pw_or1 (ha : PT X a tA) : PW X (.BoolOp .Or [a] pos) tA := by
  intro wh pins s σ H Q I h
  refine isTrue_or (thn (ha pins s σ H Q I h) fun c s1 e => ?_)
  cases c with
  | false => exact isTrue_or_nil e
  | true => exact e
theorem pw_or (ha : PT X a tA) (hb : PW X (.BoolOp .Or (b :: rest) pos) tB') : PW X (.BoolOp .Or (a :: b :: rest) pos) (tOr tA tB') := by
  intro wh pins s σ H Q I h
  refine isTrue_or (thn (ha pins s σ H _ I h) fun c s1 ⟨H1, I1, q1⟩ => ?_)
  cases c with
  | true => exact ⟨H1, I1, q1⟩
  | false => exact hb wh pins s1 σ H1 Q I1 q1
theorem pt_not (ha : PT X a tA) : PT X (.UnaryOp .Not a pos) (tNot tA) := by
  intro pins s σ H Q I h
  exact isTrue_not (ha pins s σ H (fun c H1 => Q (!c) H1) I h)
def tAndV (ta tb : TE) : TE := fun σ H Q => ta σ H fun x H1 => ∃ c, x = .bl c ∧ if c = true then tb σ H1 Q else Q (.bl false) H1
def tOrV (ta tb : TE) : TE := fun σ H Q => ta σ H fun x H1 => ∃ c, x = .bl c ∧ if c = true then Q (.bl true) H1 else tb σ H1 Q
def tNotV (ta : TE) : TE := fun σ H Q => ta σ H fun x H1 => ∃ c, x = .bl c ∧ Q (.bl (!c)) H1
def tIf (t : TT) (ta tb : TE) : TE := fun σ H Q => t σ H fun c H1 => if c = true then ta σ H1 Q else tb σ H1 Q
theorem pe_ifExp {c : Expr} (hc : PT X c tA) (ha : PE X a ta) (hb : PE X b tb) : PE X (.IfExp c a b pos) (tIf tA ta tb) := by
  intro pins s σ H Q I h
  refine wpAny_IfExp (thn (hc pins s σ H _ I h) fun d s1 ⟨H1, I1, q1⟩ => ?_)
  cases d with
  | true => exact ha pins s1 σ H1 Q I1 q1
  | false => exact hb pins s1 σ H1 Q I1 q1
end
end L2
namespace L2
open PySem PySem.Spec PyProof.Rows
def SqL (K : PySem.W.Frag) (H : Hp) (a : Addr) (xs : List V) : Prop :=
  Rd H a (.lst xs) ∨
    ∃ (o : Obj) (its : Array Value) (n : Nat), K.lookup a = some o ∧ o.cls = .type "list" ∧ o.dict = none ∧ o.data = .seq its n ∧ its.size ≤ sizeLine ∧ Vals xs its.toList
def SqT (K : PySem.W.Frag) (H : Hp) (a : Addr) (xs : List V) : Prop :=
  Rd H a (.tup xs) ∨
    ∃ (o : Obj) (its : Array Value) (n : Nat), K.lookup a = some o ∧ o.cls = .type "tuple" ∧ o.data = .seq its n ∧ its.size ≤ sizeLine ∧ Vals xs its.toList
def absV : Value → Option V
  | .none => some .non
  | .bool b => some (.bl b)
  | .int i _ => some (.int i)
  | .str x _ => some (.str x)
  | .bytes b _ => some (.byt b)
  | .float b _ => some (.flt b)
  | .ref a => some (.ref a)
  | .type n => some (.ty n)
  | _ => none
theorem RelV.abs {x : V} {u : Value} (r : RelV x u) : absV u = some x := by
  cases x with
  | non => cases r; rfl
  | bl _ => cases r; rfl
  | int _ => obtain ⟨t, rfl⟩ := r; rfl
  | str _ => obtain ⟨t, rfl⟩ := r; rfl
  | byt _ => obtain ⟨t, rfl⟩ := r; rfl
  | flt _ => obtain ⟨t, rfl⟩ := r; rfl
  | ref _ => cases r; rfl
  | ty _ => cases r; rfl
theorem RelV.inj {x y : V} {u : Value} (r : RelV x u) (q : RelV y u) : x = y := Option.some.inj (r.abs.symm.trans q.abs)
theorem Vals.inj : ∀ {xs ys : List V} {us : List Value}, Vals xs us → Vals ys us → xs = ys
  | _, _, _, .nil, .nil => rfl
  | _, _, _, .cons r t, .cons r' t' => by rw [r.inj r', Vals.inj t t']
section
variable {X : Cx} {pins : List (Addr × Obj)} {σ : St} {H : Hp} {s : Shared} {a : Addr} {xs ys : List V}
theorem SqL.of {K : PySem.W.Frag} (h : H a = some (.lst xs)) : SqL K H a xs := .inl (.inl h)
theorem SqT.of {K : PySem.W.Frag} (h : H a = some (.tup xs)) : SqT K H a xs := .inl (.inl h)
theorem Inv.list (I : Inv X pins σ H s) (h : SqL X.K H a xs) : ∃ its : List Value, Vals xs its ∧ PlainL s.heap a its.toArray ∧ xs.length ≤ sizeLine := by
  rcases h with h | ⟨o, its, n, hk, hc, hd, hs, hz, r⟩
  · obtain ⟨z, its, n, r, e⟩ := h.ok I.hok
    exact ⟨its, r, ⟨_, n, e, rfl, rfl, rfl⟩, z⟩
  · refine ⟨its.toList, r, ⟨o, n, I.kIn a o hk, hc, hd, by simpa using hs⟩, ?_⟩
    have e := r.length
    simp only [Array.length_toList] at e
    omega
theorem Inv.tuple (I : Inv X pins σ H s) (h : SqT X.K H a xs) : ∃ its : List Value, Vals xs its ∧ IsTup s.heap a its.toArray ∧ xs.length ≤ sizeLine := by
  rcases h with h | ⟨o, its, n, hk, hc, hs, hz, r⟩
  · obtain ⟨z, its, r, p⟩ := h.ok I.hok
    exact ⟨its, r, p, z⟩
  · refine ⟨its.toList, r, ⟨o, I.kIn a o hk, hc, n, by simpa using hs⟩, ?_⟩
    have e := r.length
    simp only [Array.length_toList] at e
    omega
theorem Inv.list_inj (I : Inv X pins σ H s) (h : SqL X.K H a xs) (h' : SqL X.K H a ys) : xs = ys := by
  obtain ⟨its, r, ⟨o, n, e, _, _, d⟩, _⟩ := I.list h
  obtain ⟨its', r', ⟨o', n', e', _, _, d'⟩, _⟩ := I.list h'
  rw [e] at e'; cases e'
  rw [d] at d'
  injection d' with d1 _
  have : its = its' := by simpa using congrArg Array.toList d1
  subst this
  exact r.inj r'
theorem Inv.tuple_inj (I : Inv X pins σ H s) (h : SqT X.K H a xs) (h' : SqT X.K H a ys) : xs = ys := by
  obtain ⟨its, r, ⟨o, e, _, n, d⟩, _⟩ := I.tuple h
  obtain ⟨its', r', ⟨o', e', _, n', d'⟩, _⟩ := I.tuple h'
  rw [e] at e'; cases e'
  rw [d] at d'
  injection d' with d1 _
  have : its = its' := by simpa using congrArg Array.toList d1
  subst this
  exact r.inj r'
end
abbrev Cx.wish (X : Cx) (E : Value → Shared → Prop) : Cx := { X with xe := E }
abbrev Cx.nox (X : Cx) : Cx := X.wish fun _ _ => False
theorem Cx.Ok.wish {X : Cx} (ok : X.Ok) (E : Value → Shared → Prop) : (X.wish E).Ok :=
  ⟨ok.mod, ok.kind, ok.glob, ok.blt, ok.above, ok.inj, ok.has, ok.cab, ok.hd, ok.frames, ok.stk, ok.exf, ok.bs, ok.bsz, ok.noex, ok.exfs, ok.funs, ok.frf⟩
theorem Cx.Ok.unwish {X : Cx} {E : Value → Shared → Prop} (ok : (X.wish E).Ok) : X.Ok :=
  ⟨ok.mod, ok.kind, ok.glob, ok.blt, ok.above, ok.inj, ok.has, ok.cab, ok.hd, ok.frames, ok.stk, ok.exf, ok.bs, ok.bsz, ok.noex, ok.exfs, ok.funs, ok.frf⟩
section
variable {X : Cx} {pins : List (Addr × Obj)} {σ : St} {H : Hp} {s : Shared} {E : Value → Shared → Prop}
theorem Inv.wish (I : Inv X pins σ H s) (E : Value → Shared → Prop) : Inv (X.wish E) pins σ H s := ⟨I.ok.wish E, I.os, I.bare, I.base, I.loc, I.cell, I.free, I.freeC, I.pin, I.hok, I.len⟩
theorem Inv.unwish (I : Inv (X.wish E) pins σ H s) : Inv X pins σ H s := ⟨I.ok.unwish, I.os, I.bare, I.base, I.loc, I.cell, I.free, I.freeC, I.pin, I.hok, I.len⟩
theorem SP.unwish {D : Ends} {f : Flow} {s' : Shared} (h : SP (X.wish E) pins D f s') : SP X pins D f s' := by
  cases f with
  | next => obtain ⟨σ', H', I, q⟩ := h; exact ⟨σ', H', I.unwish, q⟩
  | brk => obtain ⟨σ', H', I, q⟩ := h; exact ⟨σ', H', I.unwish, q⟩
  | cont => obtain ⟨σ', H', I, q⟩ := h; exact ⟨σ', H', I.unwish, q⟩
  | ret u => obtain ⟨v, σ', H', I, r, q⟩ := h; exact ⟨v, σ', H', I.unwish, r, q⟩
theorem PE.nox {e : Expr} {t : TE} (h : PE X.nox e t) : PE X e t := fun pins s σ H Q I hw =>
  wpAny_mono (h pins s σ H Q (I.wish _) hw) (fun _ _ ⟨v, H', I', r, q⟩ => ⟨v, H', I'.unwish, r, q⟩) fun _ _ z => False.elim z
theorem PT.nox {e : Expr} {t : TT} (h : PT X.nox e t) : PT X e t := fun pins s σ H Q I hw =>
  wpAny_mono (h pins s σ H Q (I.wish _) hw) (fun _ _ ⟨H', I', q⟩ => ⟨H', I'.unwish, q⟩) fun _ _ z => False.elim z
theorem PSs.nox {st : List Stmt} {t : TS} (h : PSs X.nox st t) : PSs X st t := fun pins s σ H D I hw =>
  wpAny_mono (h pins s σ H D (I.wish _) hw) (fun _ _ q => q.unwish) fun _ _ z => False.elim z
end
section
variable {X : Cx} {st : Stmt} {rest : List Stmt} {t u : TS} {e : Expr} {te : TE} {pos : Pos}
def tNext : TS := fun D σ H => D.nx σ H
def tSeq (t u : TS) : TS := fun D σ H => t { D with nx := u D } σ H
theorem pss_nil : PSs X [] tNext := fun _ _ σ H _ I h => wpAny_execs_nil ⟨σ, H, I, h⟩
theorem pss_cons (h1 : PS X st t) (h2 : PSs X rest u) : PSs X (st :: rest) (tSeq t u) := by
  intro pins s σ H D I h
  refine wpAny_execs_cons (thn (h1 pins s σ H { D with nx := u D } I h) fun f s1 q => ?_)
  cases f with
  | next =>
    obtain ⟨σ', H', I', q⟩ := q
    exact h2 pins s1 σ' H' D I' q
  | ret v => exact q
  | brk => exact q
  | cont => exact q
theorem pss_one (h1 : PS X st t) : PSs X [st] t := by
  intro pins s σ H D I h
  refine wpAny_execs_cons (thn (h1 pins s σ H D I h) fun f s1 q => ?_)
  cases f with
  | next => exact wpAny_execs_nil q
  | ret v => exact q
  | brk => exact q
  | cont => exact q
def tBreak : TS := fun D σ H => D.bk σ H
def tCont : TS := fun D σ H => D.ct σ H
theorem Inv.quiet {pins : List (Addr × Obj)} {σ : St} {H : Hp} {s : Shared} (I : Inv X pins σ H s) : interactive X.env = false := by simp [interactive, I.ok.kind]
def tDrop (te : TE) : TS := fun D σ H => te σ H fun _ H1 => D.nx σ H1
theorem ps_expr (he : PE X e te) (hs : swapsWith e none pos.line X.env = pure false := by rfl) : PS X (.Expr e pos) (tDrop te) := by
  intro pins s σ H D I h
  exact wpAny_Expr_any (thn (he pins s σ H _ I h) fun v s1 ⟨x, H1, I1, r1, q1⟩ => ⟨σ, H1, I1, q1⟩) I.quiet hs
def tRet (te : TE) : TS := fun D σ H => te σ H D.rt
theorem ps_ret (he : PE X e te) : PS X (.Return (some e) pos) (tRet te) := by
  intro pins s σ H D I h
  exact wpAny_Return_some (thn (he pins s σ H _ I h) fun v s1 ⟨x, H1, I1, r1, q1⟩ => ⟨x, σ, H1, I1, r1, q1⟩)
def tRetN : TS := fun D _ H => D.rt .non H
def tIfS (c : TT) (t u : TS) : TS := fun D σ H => c σ H fun b H1 => if b = true then t D σ H1 else u D σ H1
theorem ps_if {c : Expr} {a b : List Stmt} {tc : TT} (hc : PT X c tc) (ha : PSs X a t) (hb : PSs X b u) : PS X (.If c a b pos) (tIfS tc t u) := by
  intro pins s σ H D I h
  refine wpAny_If (thn (hc pins s σ H _ I h) fun d s1 ⟨H1, I1, q1⟩ => ?_)
  cases d with
  | true => exact ha pins s1 σ H1 D I1 q1
  | false => exact hb pins s1 σ H1 D I1 q1
def tNever : TS := fun _ _ _ => False
end
abbrev TG := V → St → Hp → (St → Hp → Prop) → Prop
abbrev TGs := List V → St → Hp → (St → Hp → Prop) → Prop
def PG (X : Cx) (target : Expr) (t : TG) : Prop :=
  ∀ (pins : List (Addr × Obj)) (s : Shared) (σ : St) (H : Hp) (v : V) (u : Value) (Q : St → Hp → Prop), Inv X pins σ H s → RelV v u → t v σ H Q →
    wpAny (model X.prog X.w) X.A (assign target X.env u) (fun _ s' => ∃ σ' H', Inv X pins σ' H' s' ∧ Q σ' H') X.xe s
abbrev TSet := V → V → V → Hp → (Hp → Prop) → Prop
def PSet (X : Cx) (t : TSet) : Prop :=
  ∀ (pins : List (Addr × Obj)) (s : Shared) (σ : St) (H : Hp) (o i v : V) (ov iv u : Value) (Q : Hp → Prop), Inv X pins σ H s → RelV o ov → RelV i iv → RelV v u → t o i v H Q →
    wpAny (model X.prog X.w) X.A (setItem ov iv u) (fun _ s' => ∃ H', Inv X pins σ H' s' ∧ Q H') X.xe s
abbrev TIp := V → V → Hp → VK → Prop
section
variable {X : Cx} {pos : Pos}
def gName (i : Nat) : TG := fun v σ H Q => Q (σ.set i (some v)) H
theorem pg_name {i : Nat} {x : Str} (hN : X.N.Nodup) (hi : X.N[i]? = some x) (hx : Loc X.env.scope x) (hf : X.fn x = true ∨ X.env.scope.names.lookup x = some .local := by first | exact .inl rfl | exact .inr rfl | assumption) : PG X (.Name x pos) (gName i) := by
  intro pins s σ H v u Q I r h
  exact wpAny_assign_Name (store_ok I hN hi hx r (fun s' I' => ⟨_, H, I', h⟩) hf)
def gNil : TGs := fun vs σ H Q => vs = [] ∧ Q σ H
def gCons (t : TG) (u : TGs) : TGs := fun vs σ H Q => ∃ v r, vs = v :: r ∧ t v σ H fun σ' H' => u r σ' H' Q
def gTup (K : PySem.W.Frag) (n : Nat) (t : TGs) : TG := fun v σ H Q => ∃ a xs, v = .ref a ∧ SqT K H a xs ∧ xs.length = n ∧ t xs σ H Q
def gSub (to ti : TE) (t : TSet) : TG := fun v σ H Q => to σ H fun o H1 => ti σ H1 fun i H2 => t o i v H2 fun H3 => Q σ H3
theorem pg_sub {o i : Expr} {to ti : TE} {t : TSet} (ho : PE X o to) (hi : PE X i ti) (hs : PSet X t)
    (ha : ∀ v, assign (.Subscript o i pos) X.env v = (do
      let ov ← holding [v] (eval o X.env)
      let iv ← holding [v, ov] (eval i X.env)
      standAt pos
      holding [v, ov, iv] (setItem ov iv v)
      release [v, ov, iv] []) := by intro _; rfl) : PG X (.Subscript o i pos) (gSub to ti t) := by
  intro pins s σ H v u Q I r h
  rw [ha]
  refine wpAny_bind (wpAny_holding (thn (ho pins s σ H _ I h) fun ov s1 ⟨x, H1, I1, r1, q1⟩ => ?_))
  refine wpAny_bind (wpAny_holding (thn (hi pins s1 σ H1 _ I1 q1) fun iv s2 ⟨y, H2, I2, r2, q2⟩ => ?_))
  refine wpAny_bind (wpAny_standAt (wpAny_bind (wpAny_holding (thn (hs pins s2 σ H2 x y v ov iv u _ I2 r1 r2 r q2) fun _ s3 ⟨H3, I3, q3⟩ => ?_))))
  exact wpAny_release ⟨σ, H3, I3, q3⟩
def tAsg (te : TE) (g : TG) : TS := fun D σ H => te σ H fun x H1 => g x σ H1 D.nx
theorem ps_asg {tg e : Expr} {te : TE} {g : TG} (he : PE X e te) (hg : PG X tg g) (hs : swapsWithSole [tg] e pos.line X.env = pure false := by rfl) (hw : swappedStores [tg] e X.env = pure none := by rfl)
    (h1 : (assignEach [tg] X.env).map (·.2) = [assign tg X.env] := by rfl) : PS X (.Assign [tg] e pos) (tAsg te g) := by
  intro pins s σ H D I h
  refine wpAny_Assign_stores (thn (he pins s σ H _ I h) fun v s1 ⟨x, H1, I1, r1, q1⟩ => ?_) hs hw
  rw [h1]
  exact thn (hg pins s1 σ H1 x v _ I1 r1 q1) fun _ s2 q => q
theorem ps_set {i : Nat} {x : Str} {e : Expr} {te : TE} {pos' : Pos} (hN : X.N.Nodup) (hi : X.N[i]? = some x) (hx : Loc X.env.scope x) (he : PE X e te) (hs : swapsWith e (some (.Name x pos')) pos.line X.env = pure false := by rfl) (hf : X.fn x = true ∨ X.env.scope.names.lookup x = some .local := by first | exact .inl rfl | exact .inr rfl | assumption) :
    PS X (.Assign [.Name x pos'] e pos) (tAsg te (gName i)) := by
  intro pins s σ H D I h
  refine wpAny_Assign_Name (thn (he pins s σ H _ I h) fun v s1 ⟨y, H1, I1, r1, q1⟩ => ?_) hs
  exact store_ok I1 hN hi hx r1 (fun s2 I2 => ⟨_, H1, I2, q1⟩) hf
def tPar (i j : Nat) (ta : TA) : TS := fun D σ H => ta σ H fun vs H1 => ∃ v w, vs = [v, w] ∧ D.nx ((σ.set i (some v)).set j (some w)) H1
def tAug (i : Nat) (te : TE) (ti : TIp) : TS := fun D σ H => ∃ x, σ[i]? = some (some x) ∧ te σ H fun y H1 => ti x y H1 fun z H2 => D.nx (σ.set i (some z)) H2
def tAugS (to ti te : TE) (tget : V → V → Hp → VK → Prop) (tip : TIp) (tset : TSet) : TS := fun D σ H => to σ H fun o H1 => ti σ H1 fun i H2 => tget o i H2 fun x H3 => te σ H3 fun y H4 => tip x y H4 fun z H5 => tset o i z H5 fun H6 => D.nx σ H6
end
section
variable {X : Cx} {pos : Pos}
end
structure It where
  go : Nat → Hp → Prop
  yld : Nat → Hp → V → Hp → Prop
  stop : Nat → Hp → Prop
def FpOk (X : Cx) (pins : List (Addr × Obj)) (H : Hp) (b : Addr) : Prop :=
  H b = none ∧ b ≠ X.env.locals ∧ b ∉ X.fs ∧ (b ∈ X.ex ∨ X.s₀.heap.objs.size ≤ b) ∧ (∀ x c, X.env.cells.lookup x = some c → c ≠ b) ∧ ∀ p ∈ X.pn ++ pins, p.1 ≠ b
theorem Inv.fpOk {X : Cx} {pins : List (Addr × Obj)} {σ : St} {H H' : Hp} {s : Shared} {b : Addr} (I : Inv X pins σ H s) (hb : s.heap.objs.size ≤ b) (hn : H' b = none) : FpOk X pins H' b := by
  refine ⟨hn, Nat.ne_of_gt (Nat.lt_of_lt_of_le I.lt hb), I.nofs hb, .inr (Nat.le_trans I.sz hb), fun x c e z => ?_, fun p hp z => ?_⟩
  · obtain ⟨v, q⟩ := I.cell x c e
    exact absurd (Nat.lt_of_lt_of_le q.lt (by rw [z]; exact hb)) (Nat.lt_irrefl _)
  · exact absurd (Nat.lt_of_lt_of_le (Heap.lt_size (I.pin p hp).1) (by rw [z]; exact hb)) (Nat.lt_irrefl _)
structure Turn (P : Program) (w : World) (K : PySem.W.Frag) (tg : Expr) (J : It) (fp : List Addr) (it : Addr) (tn : Nat → Heap → Prop) : Prop where
  mem : it ∈ fp
  obj : ∀ i h, tn i h → ∀ b ∈ fp, ∃ o, h.get? b = some o ∧ ∀ v, o.data ≠ .cell v
  keep : ∀ i h h', tn i h → (∀ b ∈ fp, ∀ o, h.get? b = some o → h'.get? b = some o) → tn i h'
  item : ∀ (X : Cx), X.prog = P → X.w = w → X.K = K → X.calm = true → ∀ (i : Nat) (pins : List (Addr × Obj)) (s : Shared) (σ : St) (H : Hp) (E : Value → Shared → Prop), Inv X pins σ H s → (∀ b ∈ fp, FpOk X pins H b) → tn i s.heap → J.go i H →
    wpAny (model P w) X.A (pyNext (.ref it)) (fun r s1 => ∃ u, r = some u ∧
      wpAny (model P w) X.A (letOwnedTupleGo tg (.ref it) u) (fun _ s2 => ∃ x H', Inv X pins σ H' s2 ∧ RelV x u ∧ J.yld i H x H' ∧ tn (i + 1) s2.heap ∧ ∀ b ∈ fp, H' b = none) E s1) E s
  done : ∀ (X : Cx), X.prog = P → X.w = w → X.K = K → X.calm = true → ∀ (i : Nat) (pins : List (Addr × Obj)) (s : Shared) (σ : St) (H : Hp) (E : Value → Shared → Prop), Inv X pins σ H s → (∀ b ∈ fp, FpOk X pins H b) → tn i s.heap → J.stop i H →
    wpAny (model P w) X.A (pyNext (.ref it)) (fun r s1 => r = none ∧ Inv X pins σ H s1) E s
  self : ∀ (A : Around) (i : Nat) (s : Shared) (Q : Value → Shared → Prop) (E : Value → Shared → Prop), tn i s.heap → Q (.ref it) s → wpAny (model P w) A (pyIter (.ref it)) Q E s
abbrev TI := St → Hp → (It → Hp → Prop) → Prop
def PIE (X : Cx) (pins : List (Addr × Obj)) (σ : St) (tg : Expr) (R : It → Hp → Prop) (itv : Value) (s2 : Shared) : Prop :=
  ∃ (it : Addr) (fp : List Addr) (tn : Nat → Heap → Prop) (J : It) (H' : Hp), itv = .ref it ∧ Inv X pins σ H' s2 ∧ Turn X.prog X.w X.K tg J fp it tn ∧ tn 0 s2.heap ∧ (∀ b ∈ fp, FpOk X pins H' b) ∧ R J H'
def PI (X : Cx) (tg iter : Expr) (wi : TI) : Prop :=
  ∀ (pins : List (Addr × Obj)) (s : Shared) (σ : St) (H : Hp) (R : It → Hp → Prop), Inv X pins σ H s → wi σ H R →
    wpAny (model X.prog X.w) X.A (eval iter X.env) (fun v s1 => wpAny (model X.prog X.w) X.A (pyIter v) (PIE X pins σ tg R) X.xe s1) X.xe s
theorem go_of {M : Model} {A : Around} {E : Value → Shared → Prop} {s : Shared} {tg : Expr} {it : Addr} {u : Value} {o : Obj} {n : String} {vs : Array Value} {Q : Unit → Shared → Prop} (ho : s.heap.get? it = some o) (hc : o.cls = .type n) (hd : o.data = .fields vs)
    (hn : ["enumerate", "zip", "dict_itemiterator", "dict_reverseitemiterator", "odict_iterator", "itertools.zip_longest", "itertools.pairwise"].contains n = false) (hQ : Q () s) : wpAny M A (letOwnedTupleGo tg (.ref it) u) Q E s := by
  unfold letOwnedTupleGo
  cases tg <;> first
    | exact wpAny_pure hQ
    | (cases u <;> first
        | exact wpAny_pure hQ
        | (refine wpAny_bind (wpAny_load ho ?_)
           rw [hc, hd]
           show wpAny M A (if (["enumerate", "zip", "dict_itemiterator", "dict_reverseitemiterator", "odict_iterator", "itertools.zip_longest", "itertools.pairwise"].contains n && vs[0]? == some (rawInt _)) = true then _ else _) Q E s
           rw [if_neg (by intro h; rw [hn, Bool.false_and] at h; cases h)]
           exact wpAny_pure hQ))
def Itl (K : PySem.W.Frag) (a : Addr) : It :=
  ⟨fun i H => ∃ xs x, SqL K H a xs ∧ xs[i]? = some x, fun i H x H' => H' = H ∧ ∀ xs, SqL K H a xs → xs[i]? = some x, fun i H => ∃ xs, SqL K H a xs ∧ xs.length ≤ i⟩
def Itt (K : PySem.W.Frag) (a : Addr) : It :=
  ⟨fun i H => ∃ xs x, SqT K H a xs ∧ xs[i]? = some x, fun i H x H' => H' = H ∧ ∀ xs, SqT K H a xs → xs[i]? = some x, fun i H => ∃ xs, SqT K H a xs ∧ xs.length ≤ i⟩
def Itr (lo : Int) (n : Nat) : It := ⟨fun i _ => i < n, fun i H x H' => H' = H ∧ x = .int (lo + i), fun i _ => n ≤ i⟩
theorem turn_range {P : Program} {w : World} {K : PySem.W.Frag} {tg : Expr} (it : Addr) (lo : Int) (n : Nat) : Turn P w K tg (Itr lo n) [it] it (fun i h => IsRangeIter h it (lo + (i : Nat) * 1) ((n : Int) - (i : Nat)) 1) where
  mem := by simp
  obj := fun i h st b hb => by
    have e : b = it := by simpa using hb
    subst e
    exact ⟨_, st, fun v z => by
      have z' : Data.fields _ = Data.cell v := z
      cases z'⟩
  keep := fun i h h' st k => k it (by simp) _ st
  item := by
    intro X hP hw hK hc i pins s σ H E I hf st hg
    subst hP hw hK
    obtain ⟨f0, f1, f2, f3, f4, f5⟩ := hf it (by simp)
    have W := Walks.range (prog := X.prog) (w := X.w) (I.ok.hd hc) it lo 1 n
    refine W.item i s _ _ hg st fun v h' tk hv st' kk => ?_
    obtain ⟨t, rfl⟩ := hv
    have I1 : Inv X pins σ H { s with heap := h', toks := tk } := I.turned (fun b o hb e => kk b o (by simpa using hb) e) f0 f1 f3 f4 f5
    refine ⟨_, rfl, go_of (s := { s with heap := h', toks := tk }) (n := "range_iterator") st' rfl rfl (by decide) ⟨.int (lo + i), H, I1, ⟨t, ?_⟩, ⟨rfl, rfl⟩, st', fun b hb => (hf b hb).1⟩⟩
    rw [Int.mul_one]
  done := by
    intro X hP hw hK hc i pins s σ H E I hf st hg
    subst hP hw hK
    obtain ⟨f0, f1, f2, f3, f4, f5⟩ := hf it (by simp)
    exact wpAny_pyNext_range_end (I.ok.hd hc) st (by have : n ≤ i := hg; omega) fun h' eb => ⟨rfl, I.turned (t' := s.toks) (fun b o hb e => eb b o hb e) f0 f1 f3 f4 f5⟩
  self := fun _ _ _ _ _ st h => wpAny_pyIter_rangeiter st h
end L2
namespace L2
open PySem PySem.Spec PyProof.Rows
section
variable {X : Cx} {tg : Expr}
def iList (K : PySem.W.Frag) (tl : TE) : TI := fun σ H R => tl σ H fun x H1 => ∃ a, x = .ref a ∧ (∃ xs, SqL K H1 a xs) ∧ R (Itl K a) H1
def iTup (K : PySem.W.Frag) (tl : TE) : TI := fun σ H R => tl σ H fun x H1 => ∃ a, x = .ref a ∧ (∃ xs, SqT K H1 a xs) ∧ R (Itt K a) H1
theorem range_it {pins : List (Addr × Obj)} {σ : St} {H : Hp} {s : Shared} {R : It → Hp → Prop} {E : Value → Shared → Prop} {lo hi : Int} {t u v : Tok} {tk : Nat} (I : Inv X pins σ H s) (h1 : -(2 ^ 62) ≤ lo) (h2 : lo < 2 ^ 62) (h3 : -(2 ^ 62) ≤ hi) (h4 : hi < 2 ^ 62)
    (q : R (Itr lo (hi - lo).toNat) H) : wpAny (model X.prog X.w) X.A (pyIter (.ref s.heap.objs.size)) (PIE X pins σ tg R) E { s with heap := s.heap.push { cls := .type "range", data := .fields #[.int lo t, .int hi u, .int 1 v] }, toks := tk } := by
  refine wpAny_pyIter_range (IsRange.new ..) (small_one h1 h2 h3 h4) ?_
  have I1 : Inv X pins σ H { s with heap := s.heap.push { cls := .type "range", data := .fields #[.int lo t, .int hi u, .int 1 v] }, toks := tk } := I.kept fun b o e => Heap.get?_push_of_some _ e
  refine ⟨(s.heap.push { cls := .type "range", data := .fields #[.int lo t, .int hi u, .int 1 v] }).objs.size, [(s.heap.push { cls := .type "range", data := .fields #[.int lo t, .int hi u, .int 1 v] }).objs.size], _, _, H, rfl,
    I1.kept (t' := tk) fun b o e => Heap.get?_push_of_some _ e, turn_range _ lo (hi - lo).toNat, ?_, fun b hb => ?_, q⟩
  · have e1 : lo + ((0 : Nat) : Int) * 1 = lo := by simp
    have e2 : (((hi - lo).toNat : Nat) : Int) - ((0 : Nat) : Int) = Builtin.Range.rangeSize lo hi 1 := by rw [rangeSize_one]; split <;> omega
    show IsRangeIter _ _ (lo + ((0 : Nat) : Int) * 1) ((((hi - lo).toNat : Nat) : Int) - ((0 : Nat) : Int)) 1
    rw [e1, e2]
    exact Heap.get?_push_size _ rfl
  · have e : b = (s.heap.push { cls := .type "range", data := .fields #[.int lo t, .int hi u, .int 1 v] }).objs.size := by simpa using hb
    subst e
    exact I1.fpOk (Nat.le_refl _) (I1.hok.fresh (Nat.le_refl _))
def iRng1 (ta : TA) : TI := fun σ H R => ta σ H fun vs H1 => ∃ j : Int, vs = [.int j] ∧ -(2 ^ 62) ≤ j ∧ j < 2 ^ 62 ∧ R (Itr 0 j.toNat) H1
def iRng2 (ta : TA) : TI := fun σ H R => ta σ H fun vs H1 => ∃ i j : Int, vs = [.int i, .int j] ∧ (-(2 ^ 62) ≤ i ∧ i < 2 ^ 62 ∧ -(2 ^ 62) ≤ j ∧ j < 2 ^ 62) ∧ R (Itr i (j - i).toNat) H1
theorem pi_range1 {a : Expr} {ta : TA} {p pos : Pos} (hg : Gl X "range") (hm : X.mg "range" = none) (ha : PA X [a] ta) (hs : starEach [a] X.env = [(false, eval a X.env)] := by rfl) : PI X tg (.Call (.Name "range" p) [a] [] pos) (iRng1 ta) := by
  intro pins s σ H R I h
  refine Call_ (ld_blt I hg hm boot_range (PyProof.Rows.callWith_type1 (thn (ha pos pins s σ H _ I h) fun us s1 ⟨vs, H1, I1, r1, q1⟩ => ?_) hs rfl))
  obtain ⟨j, e, q1, q2, q⟩ := q1
  subst e
  cases r1 with
  | cons r rr =>
    cases rr
    obtain ⟨t, rfl⟩ := r
    exact call_range_1 (range_it I1 (by omega) (by omega) q1 q2 (by simpa using q))
def tFor (wi : TI) (g : TG) (tb : TS) : TS := fun D σ H => wi σ H fun J H1 => ∃ W : Nat → Nat → St → Hp → Prop, (∃ m, W 0 m σ H1) ∧ ∀ i m σ H, W i m σ H →
  (J.stop i H ∧ D.nx σ H) ∨ (J.go i H ∧ ∃ N : St → Hp → Prop, (∀ σ' H', N σ' H' → ∃ m', m' < m ∧ W (i + 1) m' σ' H') ∧ ∀ x H', J.yld i H x H' → g x σ H' fun σ2 H2 => tb { D with nx := N, ct := N, bk := D.nx } σ2 H2)
def pinsAt (fp : List Addr) (h : Heap) : List (Addr × Obj) := fp.filterMap fun b => (h.get? b).map fun o => (b, o)
theorem mem_pinsAt {fp : List Addr} {h : Heap} {b : Addr} {o : Obj} (hb : b ∈ fp) (e : h.get? b = some o) : (b, o) ∈ pinsAt fp h := List.mem_filterMap.mpr ⟨b, hb, by rw [e]; rfl⟩
theorem of_pinsAt {fp : List Addr} {h : Heap} {p : Addr × Obj} (hp : p ∈ pinsAt fp h) : p.1 ∈ fp ∧ h.get? p.1 = some p.2 := by
  obtain ⟨b, hb, e⟩ := List.mem_filterMap.mp hp
  cases q : h.get? b with
  | none => rw [q] at e; cases e
  | some o =>
    rw [q] at e
    have e' : (b, o) = p := Option.some.inj e
    subst e'
    exact ⟨hb, q⟩
theorem Inv.pinned {pins : List (Addr × Obj)} {σ : St} {H : Hp} {s : Shared} {fp : List Addr} (I : Inv X pins σ H s) (hf : ∀ b ∈ fp, FpOk X pins H b) (ho : ∀ b ∈ fp, ∃ o, s.heap.get? b = some o ∧ ∀ v, o.data ≠ .cell v) : Inv X (pins ++ pinsAt fp s.heap) σ H s :=
  I.pins_of fun p hp => (List.mem_append.mp hp).elim (fun z => I.pin p (List.mem_append_right _ z)) fun z => by
    obtain ⟨hb, e⟩ := of_pinsAt z
    obtain ⟨f0, f1, f2, _⟩ := hf p.1 hb
    obtain ⟨o, e', d⟩ := ho p.1 hb
    rw [e] at e'; cases e'
    exact ⟨e, f0, f1, f2, d⟩
theorem Inv.unpinned {pins pl : List (Addr × Obj)} {σ : St} {H : Hp} {s : Shared} (I : Inv X (pins ++ pl) σ H s) : Inv X pins σ H s := I.pins_of fun p hp => I.pin p (List.mem_append_right _ (List.mem_append_left _ hp))
theorem ps_for {iter : Expr} {body : List Stmt} {wi : TI} {g : TG} {tb : TS} {pos : Pos} (hp : PassesOwn (model X.prog X.w) X.A X.env X.xe) (hc : X.calm = true) (hi : PI X tg iter wi) (hg : PG X tg g) (hb : PSs X body tb)
    (hs : ∀ x, foldedSetIterable iter X.env x = pure x := by intro _; rfl) : PS X (.For tg iter body [] pos) (tFor wi g tb) := by
  intro pins s σ H D I h
  refine wpAny_For (thn (hi pins s σ H _ I h) fun v s1 h1 => thn h1 fun itv s2 h2 => ?_) hs
  obtain ⟨it, fp, tn, J, H2, e, I2, T, st2, f2, W, ⟨m0, w0⟩, turn⟩ := h2
  subst e
  -- what stays true of the iterator's objects through the loop
  have stat : ∀ {H' : Hp}, (∀ b ∈ fp, H' b = none) → ∀ b ∈ fp, FpOk X pins H' b := fun hn b hb => ⟨hn b hb, (f2 b hb).2⟩
  refine codeAny_forLoop_any (fun n s' => ∃ i σ' H', Inv X pins σ' H' s' ∧ tn i s'.heap ∧ (∀ b ∈ fp, H' b = none) ∧ W i n σ' H') ?_ m0 ⟨0, σ, H2, I2, st2, fun b hb => (f2 b hb).1, w0⟩
  rintro n s3 ⟨i, σ3, H3, I3, st3, fr3, w3⟩
  rcases turn i n σ3 H3 w3 with ⟨stop, qn⟩ | ⟨go, N, hN, step⟩
  · refine wpAny_passesOwn hp (thn (T.done X rfl rfl rfl hc i pins s3 σ3 H3 X.xe I3 (stat fr3) st3 stop) fun r s4 ⟨hr, I4⟩ => ?_)
    subst hr
    exact wpAny_execs_nil ⟨σ3, H3, I4, qn⟩
  · refine wpAny_passesOwn hp (thn (T.item X rfl rfl rfl hc i pins s3 σ3 H3 X.xe I3 (stat fr3) st3 go) fun r s4 ⟨u, hr, h4⟩ => ?_)
    subst hr
    refine wpAny_passesOwn hp (thn h4 fun _ s5 ⟨x, H5, I5, r5, y5, st5, fr5⟩ => ?_)
    have I5' := I5.pinned (stat fr5) (T.obj _ _ st5)
    refine wpAny_passesOwn hp (thn (hg _ s5 σ3 H5 x u _ I5' r5 (step x H5 y5)) fun _ s6 ⟨σ6, H6, I6, q6⟩ => ?_)
    refine wpAny_passesOwn hp (thn (hb _ s6 σ6 H6 _ I6 q6) fun f s7 q7 => ?_)
    have again : ∀ {σ7 : St} {H7 : Hp}, Inv X (pins ++ pinsAt fp s5.heap) σ7 H7 s7 → N σ7 H7 → ∃ m, m < n ∧ ∃ i σ' H', Inv X pins σ' H' s7 ∧ tn i s7.heap ∧ (∀ b ∈ fp, H' b = none) ∧ W i m σ' H' := fun {σ7 H7} I7 n7 => by
      obtain ⟨m', hm, w7⟩ := hN σ7 H7 n7
      refine ⟨m', hm, i + 1, σ7, H7, I7.unpinned, T.keep _ _ _ st5 fun b hb o e => (I7.pin (b, o) (List.mem_append_right _ (List.mem_append_right _ (mem_pinsAt hb e)))).1, fun b hb => ?_, w7⟩
      obtain ⟨o, e, d⟩ := T.obj _ _ st5 b hb
      exact (I7.pin (b, o) (List.mem_append_right _ (List.mem_append_right _ (mem_pinsAt hb e)))).2.1
    cases f with
    | next => obtain ⟨σ7, H7, I7, n7⟩ := q7; exact again I7 n7
    | cont => obtain ⟨σ7, H7, I7, n7⟩ := q7; exact again I7 n7
    | brk => obtain ⟨σ7, H7, I7, q7⟩ := q7; exact ⟨σ7, H7, I7.unpinned, q7⟩
    | ret v => obtain ⟨x7, σ7, H7, I7, r7, q7⟩ := q7; exact ⟨x7, σ7, H7, I7.unpinned, r7, q7⟩
end
theorem for_list {K : PySem.W.Frag} {a : Addr} {xs : List V} {g : TG} {tb : TS} {D : Ends} {σ : St} {H : Hp} (Pv : Nat → St → Hp → Prop) (h0 : Pv 0 σ H) (hl : ∀ i σ H, i ≤ xs.length → Pv i σ H → SqL K H a xs)
    (hs : ∀ i x σ H, xs[i]? = some x → Pv i σ H → g x σ H fun σ2 H2 => tb { D with nx := Pv (i + 1), ct := Pv (i + 1), bk := D.nx } σ2 H2) (hd : ∀ σ H, Pv xs.length σ H → D.nx σ H) :
    ∃ W : Nat → Nat → St → Hp → Prop, (∃ m, W 0 m σ H) ∧ ∀ i m σ H, W i m σ H →
      ((Itl K a).stop i H ∧ D.nx σ H) ∨ ((Itl K a).go i H ∧ ∃ N : St → Hp → Prop, (∀ σ' H', N σ' H' → ∃ m', m' < m ∧ W (i + 1) m' σ' H') ∧ ∀ x H', (Itl K a).yld i H x H' → g x σ H' fun σ2 H2 => tb { D with nx := N, ct := N, bk := D.nx } σ2 H2) := by
  refine ⟨fun i m σ H => m = xs.length - i ∧ i ≤ xs.length ∧ Pv i σ H, ⟨xs.length, by simp, Nat.zero_le _, h0⟩, ?_⟩
  rintro i m σ H ⟨rfl, hi, p⟩
  have q := hl i σ H hi p
  by_cases hlt : i < xs.length
  · refine .inr ⟨⟨xs, xs[i], q, by simp [hlt]⟩, Pv (i + 1), fun σ' H' p' => ⟨xs.length - (i + 1), by omega, rfl, hlt, p'⟩, fun x H' y => ?_⟩
    obtain ⟨e, y⟩ := y
    subst e
    exact hs i x σ _ (y xs q) p
  · have e : i = xs.length := by omega
    subst e
    exact .inl ⟨⟨xs, q, Nat.le_refl _⟩, hd σ H p⟩
theorem for_range {lo : Int} {n : Nat} {g : TG} {tb : TS} {D : Ends} {σ : St} {H : Hp} (Pv : Nat → St → Hp → Prop) (h0 : Pv 0 σ H)
    (hs : ∀ i σ H, i < n → Pv i σ H → g (.int (lo + i)) σ H fun σ2 H2 => tb { D with nx := Pv (i + 1), ct := Pv (i + 1), bk := D.nx } σ2 H2) (hd : ∀ σ H, Pv n σ H → D.nx σ H) :
    ∃ W : Nat → Nat → St → Hp → Prop, (∃ m, W 0 m σ H) ∧ ∀ i m σ H, W i m σ H →
      ((Itr lo n).stop i H ∧ D.nx σ H) ∨ ((Itr lo n).go i H ∧ ∃ N : St → Hp → Prop, (∀ σ' H', N σ' H' → ∃ m', m' < m ∧ W (i + 1) m' σ' H') ∧ ∀ x H', (Itr lo n).yld i H x H' → g x σ H' fun σ2 H2 => tb { D with nx := N, ct := N, bk := D.nx } σ2 H2) := by
  refine ⟨fun i m σ H => m = n - i ∧ i ≤ n ∧ Pv i σ H, ⟨n, by simp, Nat.zero_le _, h0⟩, ?_⟩
  rintro i m σ H ⟨rfl, hi, p⟩
  by_cases hlt : i < n
  · refine .inr ⟨hlt, Pv (i + 1), fun σ' H' p' => ⟨n - (i + 1), by omega, rfl, hlt, p'⟩, fun x H' y => ?_⟩
    obtain ⟨e, y⟩ := y
    subst e y
    exact hs i σ _ hlt p
  · have e : i = n := by omega
    subst e
    exact .inl ⟨Nat.le_refl _, hd σ H p⟩
end L2
namespace L2
open PySem PySem.Spec PyProof.Rows
abbrev R2 := V → V → Hp → VK → Prop
def OpR (X : Cx) (f : Value → Value → Sem Value) (r : R2) : Prop :=
  ∀ (pins : List (Addr × Obj)) (s : Shared) (σ : St) (H : Hp) (x y : V) (v u : Value) (Q : VK), Inv X pins σ H s → RelV x v → RelV y u → r x y H Q →
    wpAny (model X.prog X.w) X.A (f v u) (EP X pins σ Q) X.xe s
def CallR (X : Cx) (f : Value) (r : List V → Hp → VK → Prop) : Prop :=
  ∀ (pins : List (Addr × Obj)) (s : Shared) (σ : St) (H : Hp) (xs : List V) (us : List Value) (Q : VK), Inv X pins σ H s → Vals xs us → r xs H Q →
    wpAny (model X.prog X.w) X.A (call f us) (EP X pins σ Q) X.xe s
def tOp (r : R2) (ta tb : TE) : TE := fun σ H Q => ta σ H fun x H1 => tb σ H1 fun y H2 => r x y H2 Q
def tUn (r : V → Hp → VK → Prop) (ta : TE) : TE := fun σ H Q => ta σ H fun x H1 => r x H1 Q
def rI (C : Int → Int → Prop) (g : Int → Int → V) : R2 := fun x y H Q => ∃ i j, x = .int i ∧ y = .int j ∧ C i j ∧ Q (g i j) H
def rI0 (g : Int → Int → V) : R2 := fun x y H Q => ∃ i j, x = .int i ∧ y = .int j ∧ Q (g i j) H
def rU (g : Int → V) : V → Hp → VK → Prop := fun x H Q => ∃ i, x = .int i ∧ Q (g i) H
section
variable {X : Cx} {a b c : Expr} {ta tb tc : TE} {pos : Pos}
theorem binT (ha : PE X a ta) (hb : PE X b tb) {pins : List (Addr × Obj)} {s : Shared} {σ : St} {H : Hp} {R : V → V → Hp → Prop} (I : Inv X pins σ H s)
    (h : ta σ H fun x H1 => tb σ H1 fun y H2 => R x y H2) {Q : Value → Shared → Prop} {f : Value → Value → Sem Value}
    (hf : ∀ v u s2 x y H2, Inv X pins σ H2 s2 → RelV x v → RelV y u → R x y H2 → wpAny (model X.prog X.w) X.A (f v u) Q X.xe s2) :
    wpAny (model X.prog X.w) X.A (eval a X.env) (fun v s₁ => wpAny (model X.prog X.w) X.A (eval b X.env) (fun u s₂ => wpAny (model X.prog X.w) X.A (f v u) Q X.xe s₂) X.xe s₁) X.xe s := by
  refine thn (ha pins s σ H _ I h) fun v s1 ⟨x, H1, I1, r1, q1⟩ => ?_
  refine thn (hb pins s1 σ H1 _ I1 q1) fun u s2 ⟨y, H2, I2, r2, q2⟩ => ?_
  exact hf v u s2 x y H2 I2 r1 r2 q2
theorem pe_op {op : Operator} {r : R2} (ho : OpR X (binaryOp op) r) (ha : PE X a ta) (hb : PE X b tb) : PE X (.BinOp a op b pos) (tOp r ta tb) := by
  intro pins s σ H Q I h
  exact wpAny_BinOp (binT ha hb I h fun v u s2 x y H2 I2 rx ry q => ho pins s2 σ H2 x y v u Q I2 rx ry q)
theorem opI {f : Value → Value → Sem Value} {C : Int → Int → Prop} {g : Int → Int → Int}
    (rule : ∀ (i j : Int) (t u : Tok) (s : Shared) (Q : Value → Shared → Prop) (E : Value → Shared → Prop), C i j → Q (.int (g i j) s.toks) { s with toks := s.toks + 1 } → wpAny (model X.prog X.w) X.A (f (.int i t) (.int j u)) Q E s) :
    OpR X f (rI C fun i j => .int (g i j)) := by
  intro pins s σ H x y v u Q I rx ry h
  obtain ⟨i, j, rfl, rfl, hc, q⟩ := h
  obtain ⟨t, rfl⟩ := rx
  obtain ⟨t', rfl⟩ := ry
  exact rule i j t t' s _ _ hc ⟨.int (g i j), H, I.tok _, ⟨_, rfl⟩, q⟩
theorem opI0 {f : Value → Value → Sem Value} {g : Int → Int → Int}
    (rule : ∀ (i j : Int) (t u : Tok) (s : Shared) (Q : Value → Shared → Prop) (E : Value → Shared → Prop), Q (.int (g i j) s.toks) { s with toks := s.toks + 1 } → wpAny (model X.prog X.w) X.A (f (.int i t) (.int j u)) Q E s) :
    OpR X f (rI0 fun i j => .int (g i j)) := by
  intro pins s σ H x y v u Q I rx ry h
  obtain ⟨i, j, rfl, rfl, q⟩ := h
  obtain ⟨t, rfl⟩ := rx
  obtain ⟨t', rfl⟩ := ry
  exact rule i j t t' s _ _ ⟨.int (g i j), H, I.tok _, ⟨_, rfl⟩, q⟩
theorem opB0 {f : Value → Value → Sem Value} {g : Int → Int → Bool}
    (rule : ∀ (i j : Int) (t u : Tok) (s : Shared) (Q : Value → Shared → Prop) (E : Value → Shared → Prop), Q (.bool (g i j)) s → wpAny (model X.prog X.w) X.A (f (.int i t) (.int j u)) Q E s) :
    OpR X f (rI0 fun i j => .bl (g i j)) := by
  intro pins s σ H x y v u Q I rx ry h
  obtain ⟨i, j, rfl, rfl, q⟩ := h
  obtain ⟨t, rfl⟩ := rx
  obtain ⟨t', rfl⟩ := ry
  exact rule i j t t' s _ _ ⟨.bl (g i j), H, I, rfl, q⟩
def CDiv (i j : Int) : Prop := 0 < j ∧ j < 1073741824
def CPow (i j : Int) : Prop := 0 ≤ j ∧ j ≤ 1000000 ∧ i.natAbs < 2 ^ 64
def CMul (i j : Int) : Prop := (-(2 ^ 64) < i ∧ i < 2 ^ 64) ∨ (-(2 ^ 64) < j ∧ j < 2 ^ 64)
theorem CMul.ok {i j : Int} (h : CMul i j) : IntMulOk i j := by
  rcases h with ⟨h1, h2⟩ | ⟨h1, h2⟩
  · exact .of_left (intBits_le_64 h1 h2)
  · exact .of_right (intBits_le_64 h1 h2)
theorem op_add : OpR X (binaryOp .Add) (rI0 fun i j => .int (i + j)) := opI0 fun _ _ _ _ _ _ _ q => add_int q
theorem op_mul : OpR X (binaryOp .Mult) (rI CMul fun i j => .int (i * j)) := opI fun _ _ _ _ _ _ _ hc q => mul_int q hc.ok
theorem op_fdiv : OpR X (binaryOp .FloorDiv) (rI CDiv fun i j => .int (i / j)) := opI fun i j _ _ _ _ _ hc q => by
  have h1 : (0 : Int) < j := hc.1
  have h2 : j < 1073741824 := hc.2
  exact floordiv_int (by omega) (by rw [Int.fdiv_eq_ediv_of_nonneg i (by omega)]; exact q) (.inl (PyProof.noPylong_small (by omega)))
theorem op_mod : OpR X (binaryOp .Mod) (rI (fun _ j => 0 < j) fun i j => .int (i % j)) := opI fun i j _ _ _ _ _ hc q => by
  have h1 : (0 : Int) < j := hc
  exact mod_int' (by omega) (by rw [Int.fmod_eq_emod_of_nonneg i (by omega)]; exact q)
theorem op_pow : OpR X (binaryOp .Pow) (rI CPow fun i j => .int (i ^ j.toNat)) := opI fun _ _ _ _ _ _ _ hc q => pow_int_small hc.1 hc.2.1 hc.2.2 q
end
def scal : V → V → Bool
  | .non, .non => true | .non, .int _ => true | .int _, .non => true | .non, .bl _ => true | .bl _, .non => true | .non, .str _ => true | .str _, .non => true
  | .int _, .int _ => true | .bl _, .bl _ => true | .str _, .str _ => true | .byt _, .byt _ => true
  | .int _, .str _ => true | .str _, .int _ => true | .bl _, .str _ => true | .str _, .bl _ => true
  | _, _ => false
def rEq : R2 := fun x y H Q => scal x y = true ∧ Q (.bl (decide (x = y))) H
def rNe : R2 := fun x y H Q => scal x y = true ∧ Q (.bl (!decide (x = y))) H
theorem dec_int {i j : Int} : decide (V.int i = V.int j) = (i == j) := by
  rw [Bool.eq_iff_iff]
  simp
theorem dec_bl {i j : Bool} : decide (V.bl i = V.bl j) = (i == j) := by
  rw [Bool.eq_iff_iff]
  simp
theorem dec_str {i j : Str} : decide (V.str i = V.str j) = (i == j) := by
  rw [Bool.eq_iff_iff]
  simp
theorem dec_byt {i j : Array UInt8} : decide (V.byt i = V.byt j) = (i.toList == j.toList) := by
  rw [Bool.eq_iff_iff]
  cases i
  cases j
  simp
section
variable {X : Cx} {a b c : Expr} {ta tb tc : TE} {pos : Pos}
theorem fin_bl {pins : List (Addr × Obj)} {σ : St} {H : Hp} {s : Shared} {Q : VK} {k k' : Bool} (I : Inv X pins σ H s) (q : Q (.bl k) H) (e : k = k') : EP X pins σ Q (.bool k') s := by
  subst e
  exact ⟨.bl k, H, I, rfl, q⟩
theorem op_eq : OpR X (compareOp .Eq) rEq := by
  intro pins s σ H x y v u Q I rx ry h
  obtain ⟨hs, q⟩ := h
  cases x with
  | non =>
    cases rx
    cases y with
    | non => cases ry; exact PySem.EqNone.eq_none_none (fin_bl I q (by simp))
    | bl j => cases ry; exact PySem.EqNone.eq_none_bool (fin_bl I q (by simp))
    | int j => obtain ⟨t', rfl⟩ := ry; exact PySem.EqNone.eq_none_int (fin_bl I q (by simp))
    | str j => obtain ⟨t', rfl⟩ := ry; exact PySem.EqNone.eq_none_str (fin_bl I q (by simp))
    | _ => exact absurd (show false = true from hs) Bool.false_ne_true
  | bl i =>
    cases rx
    cases y with
    | non => cases ry; exact PySem.EqNone.eq_bool_none (fin_bl I q (by simp))
    | bl j => cases ry; exact eq_bool (fin_bl I q dec_bl)
    | str j => obtain ⟨t', rfl⟩ := ry; exact PySem.EqMixed.eq_bool_str (fin_bl I q (by simp))
    | _ => exact absurd (show false = true from hs) Bool.false_ne_true
  | int i =>
    obtain ⟨t, rfl⟩ := rx
    cases y with
    | non => cases ry; exact PySem.EqNone.eq_int_none (fin_bl I q (by simp))
    | int j => obtain ⟨t', rfl⟩ := ry; exact eq_int (fin_bl I q dec_int)
    | str j => obtain ⟨t', rfl⟩ := ry; exact PySem.EqMixed.eq_int_str (fin_bl I q (by simp))
    | _ => exact absurd (show false = true from hs) Bool.false_ne_true
  | str i =>
    obtain ⟨t, rfl⟩ := rx
    cases y with
    | non => cases ry; exact PySem.EqNone.eq_str_none (fin_bl I q (by simp))
    | bl j => cases ry; exact PySem.EqMixed.eq_str_bool (fin_bl I q (by simp))
    | int j => obtain ⟨t', rfl⟩ := ry; exact PySem.EqMixed.eq_str_int (fin_bl I q (by simp))
    | str j => obtain ⟨t', rfl⟩ := ry; exact eq_str (fin_bl I q dec_str)
    | _ => exact absurd (show false = true from hs) Bool.false_ne_true
  | byt i =>
    obtain ⟨t, rfl⟩ := rx
    cases y with
    | byt j => obtain ⟨t', rfl⟩ := ry; exact PySem.W.eq_bytes (fin_bl I q dec_byt)
    | _ => exact absurd (show false = true from hs) Bool.false_ne_true
  | _ => cases y <;> exact absurd (show false = true from hs) Bool.false_ne_true
theorem op_ne : OpR X (compareOp .NotEq) rNe := by
  intro pins s σ H x y v u Q I rx ry h
  obtain ⟨hs, q⟩ := h
  cases x with
  | non =>
    cases rx
    cases y with
    | non => cases ry; exact PySem.EqNone.ne_none_none (fin_bl I q (by simp))
    | bl j => cases ry; exact PySem.EqNone.ne_none_bool (fin_bl I q (by simp))
    | int j => obtain ⟨t', rfl⟩ := ry; exact PySem.EqNone.ne_none_int (fin_bl I q (by simp))
    | str j => obtain ⟨t', rfl⟩ := ry; exact PySem.EqNone.ne_none_str (fin_bl I q (by simp))
    | _ => exact absurd (show false = true from hs) Bool.false_ne_true
  | bl i =>
    cases rx
    cases y with
    | non => cases ry; exact PySem.EqNone.ne_bool_none (fin_bl I q (by simp))
    | bl j => cases ry; exact ne_bool (fin_bl I q (congrArg not dec_bl))
    | str j => obtain ⟨t', rfl⟩ := ry; exact PySem.EqMixed.ne_bool_str (fin_bl I q (by simp))
    | _ => exact absurd (show false = true from hs) Bool.false_ne_true
  | int i =>
    obtain ⟨t, rfl⟩ := rx
    cases y with
    | non => cases ry; exact PySem.EqNone.ne_int_none (fin_bl I q (by simp))
    | int j => obtain ⟨t', rfl⟩ := ry; exact ne_int (fin_bl I q (congrArg not dec_int))
    | str j => obtain ⟨t', rfl⟩ := ry; exact PySem.EqMixed.ne_int_str (fin_bl I q (by simp))
    | _ => exact absurd (show false = true from hs) Bool.false_ne_true
  | str i =>
    obtain ⟨t, rfl⟩ := rx
    cases y with
    | non => cases ry; exact PySem.EqNone.ne_str_none (fin_bl I q (by simp))
    | bl j => cases ry; exact PySem.EqMixed.ne_str_bool (fin_bl I q (by simp))
    | int j => obtain ⟨t', rfl⟩ := ry; exact PySem.EqMixed.ne_str_int (fin_bl I q (by simp))
    | str j => obtain ⟨t', rfl⟩ := ry; exact ne_str (fin_bl I q (congrArg not dec_str))
    | _ => exact absurd (show false = true from hs) Bool.false_ne_true
  | byt i =>
    obtain ⟨t, rfl⟩ := rx
    cases y with
    | byt j => obtain ⟨t', rfl⟩ := ry; exact PySem.W.ne_bytes (fin_bl I q (congrArg not dec_byt))
    | _ => exact absurd (show false = true from hs) Bool.false_ne_true
  | _ => cases y <;> exact absurd (show false = true from hs) Bool.false_ne_true
theorem op_gt : OpR X (compareOp .Gt) (rI0 fun i j => .bl (decide (j < i))) := opB0 fun _ _ _ _ _ _ _ q => gt_int q
theorem nomark (b : Expr) {op : CmpOp} (h : op ≠ .In := by decide) (h2 : op ≠ .NotIn := by decide) : behindInMarks op b = false := by
  have e1 : (op == CmpOp.In) = false := by cases op <;> first | rfl | exact absurd rfl h
  have e2 : (op == CmpOp.NotIn) = false := by cases op <;> first | rfl | exact absurd rfl h2
  cases b <;> simp [behindInMarks, e1, e2]
def tTest (t : TE) : TT := fun σ H Q => t σ H fun x H' => ∃ k, x = .bl k ∧ Q k H'
theorem pt_cmpR {op : CmpOp} {r : R2} (ho : OpR X (compareOp op) r) (ha : PE X a ta) (hb : PE X b tb) (hm : behindInMarks op b = false) : PT X (.Compare a [op] [b] pos) (tTest (tOp r ta tb)) := by
  intro pins s σ H Q I h
  refine wpAny_isTrue_Compare1 (thn (ha pins s σ H _ I h) fun v s1 ⟨x, H1, I1, r1, q1⟩ => thn (hb pins s1 σ H1 _ I1 q1) fun u s2 ⟨y, H2, I2, r2, q2⟩ =>
    thn (ho pins s2 σ H2 x y v u _ I2 r1 r2 q2) fun c s3 ⟨z, H3, I3, r3, k, e, q3⟩ => ?_) hm
  subst e
  cases r3
  exact wpAny_truthy_bool ⟨H3, I3, q3⟩
def tChain (r r' : R2) (ta tb tc : TE) : TE := fun σ H Q => ta σ H fun x H1 => tb σ H1 fun y H2 => r x y H2 fun z H3 => ∃ k, z = .bl k ∧
  (if k = true then tc σ H3 fun w' H4 => r' y w' H4 Q else Q (.bl false) H3)
theorem line63 : (sizeLine : Nat) < 2 ^ 63 := by rw [sizeLine_eq]; decide
theorem vals1 {x : V} {us : List Value} (r : Vals [x] us) : ∃ u, us = [u] ∧ RelV x u := by
  cases r with
  | cons r1 r2 => cases r2; exact ⟨_, rfl, r1⟩
theorem vals2 {x y : V} {us : List Value} (r : Vals [x, y] us) : ∃ u w', us = [u, w'] ∧ RelV x u ∧ RelV y w' := by
  cases r with
  | cons r1 r2 =>
    cases r2 with
    | cons r3 r4 => cases r4; exact ⟨_, _, rfl, r1, r3⟩
end
end L2
namespace L2
open PySem PySem.Spec PyProof.Rows
structure ObjM (h : Heap) (x dx C : Addr) (mA : Str → Option Value) : Prop where
  obj : h.get? x = some (PySem.W.instObj C dx)
  ns : h.Ns1 dx mA
  ne : dx ≠ x
theorem lookIn_ns {h : Heap} {dx : Addr} {mA : Str → Option Value} (n : h.Ns1 dx mA) : ∃ od, h.get? dx = some od ∧ ∀ name, PySem.W.lookIn name od = some (mA name) := by
  obtain ⟨o, es, ep, ho, hd, hk, _, hm⟩ := n
  refine ⟨o, ho, fun name => ?_⟩
  have e := hm name
  unfold nsFind findBy at e
  rw [← Array.find?_toList] at e
  unfold PySem.W.lookIn
  rw [hd]
  dsimp only
  split
  · rename_i y q
    rw [q] at e
    exact congrArg some e
  · rename_i q
    rw [q] at e
    have a : es.toList.any (·.refKey) = false := by
      rw [List.any_eq_false]
      intro y hy
      obtain ⟨z, t, hkey⟩ := hk y (Array.mem_toList_iff.mp hy)
      simp [DictEntry.refKey, hkey]
    have a' : ¬ es.toList.any (·.refKey) = true := by rw [a]; exact Bool.false_ne_true
    rw [if_neg a']
    exact congrArg some e
theorem ObjM.look {h : Heap} {x dx C : Addr} {mA : Str → Option Value} (I : ObjM h x dx C mA) : ∃ od, PySem.W.InstAt h x (PySem.W.instObj C dx) C (some od) ∧ ∀ name, PySem.W.lookIn name od = some (mA name) :=
  let ⟨od, ho, hl⟩ := lookIn_ns I.ns
  ⟨od, ⟨I.obj, rfl, rfl, ho⟩, hl⟩
section
variable {prog : Program} {w : World} {A : Around} {E : Value → Shared → Prop} {s : Shared} {K : PySem.W.Frag} {x dx C f : Addr} {mA : Str → Option Value} {name : Str} {v : Value}
end
def putF (f : Str) (v : V) : List (Str × V) → List (Str × V)
  | [] => [(f, v)]
  | (g, x) :: r => if g = f then (g, v) :: r else (g, x) :: putF f v r
section
variable {P : Program} {w : World} {H H' : Hp} {h h' : Heap} {a C dx : Addr} {fs fs' : List (Str × V)}
theorem ins_get (hok : HOk P w H h) (e : H a = some (.ins C dx fs)) : ∃ mA, ObjM h a dx C mA ∧ (∀ f, RelO (fs.lookup f) (mA f)) ∧ PySem.Within mA (fs.map (·.1)) ∧ fs.length ≤ 1000 ∧ H dx = some (.own a) := by
  obtain ⟨d, z, ne, ob, mA, n, r, q⟩ := (show ObjOk P w H h a (.ins C dx fs) from hok a _ e)
  exact ⟨mA, ⟨ob, n, ne⟩, r, q, z, d⟩
end
structure Cls (K : PySem.W.Frag) (C : Addr) : Prop where
  pg : PySem.W.plainGet K C Str.empty = true
  hd : PySem.W.hasDictIn K C = true
  po : PySem.W.plainOver K C = true
  sa : PySem.W.findIn K (.ref C) "__setattr__" = some (some (.builtin "object.__setattr__"))
theorem Cls.get {K : PySem.W.Frag} {C : Addr} (c : Cls K C) (f : Str) : PySem.W.plainGet K C f = true := c.pg
def NoAttr (K : PySem.W.Frag) (C : Addr) (f : Str) : Prop := PySem.W.findIn K (.ref C) f = some none
structure Con (K : PySem.W.Frag) (C : Addr) (f : Str) (v : V) (u : Value) : Prop where
  at_ : PySem.W.findIn K (.ref C) f = some (some u)
  rel : RelV v u
  get : PySem.W.specialIn K u "__get__" = some none
  cp : PySem.W.copiedNames.contains f = false
structure Meth (K : PySem.W.Frag) (C : Addr) (m : Str) (f : Addr) : Prop where
  at_ : PySem.W.findIn K (.ref C) m = some (some (.ref f))
  fn : PySem.W.isFn K (.ref f) = true
  kp : PySem.W.keepIn K (.ref f) = true
section
variable {X : Cx} {pins : List (Addr × Obj)} {σ : St} {H : Hp} {s : Shared} {a C dx : Addr} {fs : List (Str × V)} {f : Str} {v : V} {A : Around} {E : Value → Shared → Prop}
end
def tFld (K : PySem.W.Frag) (ta : TE) (f : Str) : TE := fun σ H Q => ta σ H fun x H1 => ∃ a C dx fs v, x = .ref a ∧ H1 a = some (.ins C dx fs) ∧ Cls K C ∧ NoAttr K C f ∧ fs.lookup f = some v ∧ Q v H1
def tCon (K : PySem.W.Frag) (ta : TE) (f : Str) : TE := fun σ H Q => ta σ H fun x H1 => ∃ a C dx fs v u, x = .ref a ∧ H1 a = some (.ins C dx fs) ∧ Cls K C ∧ Con K C f v u ∧ fs.lookup f = none ∧ Q v H1
def sFld (K : PySem.W.Frag) (ta tv : TE) (f : Str) : TS := fun D σ H => tv σ H fun y H1 => ta σ H1 fun x H2 => ∃ a C dx fs, x = .ref a ∧ H2 a = some (.ins C dx fs) ∧ Cls K C ∧ NoAttr K C f ∧ fs.length < 1000 ∧
  D.nx σ (upd H2 a (.ins C dx (putF f y fs)))
def sFldAug (K : PySem.W.Frag) (ta tv : TE) (rd : V → V → Hp → VK → Prop) (f : Str) : TS := fun D σ H => ta σ H fun x H1 => ∃ a C dx fs v, x = .ref a ∧ H1 a = some (.ins C dx fs) ∧ Cls K C ∧ NoAttr K C f ∧ fs.lookup f = some v ∧
  tv σ H1 fun y H2 => rd v y H2 fun z H3 => ∃ dx' fs', H3 a = some (.ins C dx' fs') ∧ fs'.length < 1000 ∧ D.nx σ (upd H3 a (.ins C dx' (putF f z fs')))
section
variable {X : Cx} {o e value : Expr} {f : Str} {pos pos' tpos : Pos} {ta tv : TE}
def rAdd : V → V → Hp → VK → Prop := fun x y H Q => ∃ i j, x = .int i ∧ y = .int j ∧ Q (.int (i + j)) H
def rSub : V → V → Hp → VK → Prop := fun x y H Q => ∃ i j, x = .int i ∧ y = .int j ∧ Q (.int (i - j)) H
end
section
variable {X : Cx} {pins : List (Addr × Obj)} {σ : St} {H : Hp} {s : Shared} {A : Around} {E : Value → Shared → Prop} {Q : Value → Shared → Prop} {c : Value} {b : Bool}
inductive TyOf (K : PySem.W.Frag) (H : Hp) : V → Value → Prop where
  | non : TyOf K H .non (.type "NoneType")
  | bl (x : Bool) : TyOf K H (.bl x) (.type "bool")
  | int (i : Int) : TyOf K H (.int i) (.type "int")
  | str (x : Str) : TyOf K H (.str x) (.type "str")
  | flt (x : UInt64) : TyOf K H (.flt x) (.type "float")
  | lst {a : Addr} {xs : List V} (e : H a = some (.lst xs)) : TyOf K H (.ref a) (.type "list")
  | frz {a : Addr} {o : Obj} {xs : List V} (e : H a = some (.frz o (.lst xs))) : TyOf K H (.ref a) (.type "list")
  | tup {a : Addr} {xs : List V} (e : H a = some (.tup xs)) : TyOf K H (.ref a) (.type "tuple")
  | dK {a : Addr} {kvs : List (Key × V)} (e : H a = some (.dK kvs)) : TyOf K H (.ref a) (.type "dict")
  | dT {a : Addr} {kvs : List (List Key × V)} (e : H a = some (.dT kvs)) : TyOf K H (.ref a) (.type "dict")
  | ins {a C dx : Addr} {fs : List (Str × V)} (e : H a = some (.ins C dx fs)) (cl : Cls K C) (ha : PySem.W.findIn K (.ref C) "__class__" = some (some (.builtin "object.__class__")))
      (hn : PySem.W.specialIn K (.builtin "object.__class__") "__get__" = some (some (.builtin "getset_descriptor.__get__"))) (htk : PySem.W.takesIn K (.builtin "object.__class__") = some true)
      (hm : PySem.W.mroIn K C (.type "object") = some true) : TyOf K H (.ref a) (.ref C)
theorem isinst_ok {x : V} {u t : Value} (I : Inv X pins σ H s) (rx : RelV x u) (ty : TyOf X.K H x t) (e : PySem.W.kitOne X.K t c = some b) (h : ∀ tk, Q (.bool b) { s with toks := tk }) :
    wpAny (model X.prog X.w) A (call (.builtin "isinstance") [u, c]) Q E s := by
  cases ty with
  | non => cases (show u = Value.none from rx); exact PySem.W.kia_one PySem.W.kitx_none I.kIn True.intro e (fun z => nomatch z) h
  | bl y => cases (show u = Value.bool y from rx); exact PySem.W.kia_one PySem.W.kitx_bool I.kIn True.intro e (fun z => nomatch z) h
  | int i => obtain ⟨t, q⟩ := (show ∃ t, u = Value.int i t from rx); cases q; exact PySem.W.kia_one PySem.W.kitx_int I.kIn True.intro e (fun z => nomatch z) h
  | str y => obtain ⟨t, q⟩ := (show ∃ t, u = Value.str y t from rx); cases q; exact PySem.W.kia_one PySem.W.kitx_str I.kIn True.intro e (fun z => nomatch z) h
  | flt y => obtain ⟨t, q⟩ := (show ∃ t, u = Value.float y t from rx); cases q; exact PySem.W.kia_one PySem.W.kitx_float I.kIn True.intro e (fun z => nomatch z) h
  | @lst a xs ea =>
    cases (show u = Value.ref a from rx)
    obtain ⟨_, _, n, _, h1⟩ := (show ObjOk X.prog X.w H s.heap a (.lst xs) from I.hok a _ ea)
    exact PySem.W.kia_one PySem.W.kitx_list I.kIn ⟨_, h1, rfl⟩ e (fun z => nomatch z) h
  | @frz a ob xs ea =>
    cases (show u = Value.ref a from rx)
    obtain ⟨_, _, _, n, _, h1⟩ := (show ObjOk X.prog X.w H s.heap a (.frz ob (.lst xs)) from I.hok a _ ea)
    exact PySem.W.kia_one PySem.W.kitx_list I.kIn ⟨_, h1, rfl⟩ e (fun z => nomatch z) h
  | @tup a xs ea =>
    cases (show u = Value.ref a from rx)
    obtain ⟨_, _, _, p⟩ := (show ObjOk X.prog X.w H s.heap a (.tup xs) from I.hok a _ ea)
    obtain ⟨o, h1, h2, _⟩ := p
    exact PySem.W.kia_one PySem.W.kitx_tuple I.kIn ⟨o, h1, h2⟩ e (fun z => nomatch z) h
  | @dK a kvs ea =>
    cases (show u = Value.ref a from rx)
    obtain ⟨_, _, vs, _, p⟩ := (show ObjOk X.prog X.w H s.heap a (.dK kvs) from I.hok a _ ea)
    obtain ⟨o, es, ep, h1, h2, _⟩ := p
    exact PySem.W.kia_one PySem.W.kitx_dict I.kIn ⟨o, h1, h2.1⟩ e (fun z => nomatch z) h
  | @dT a kvs ea =>
    cases (show u = Value.ref a from rx)
    obtain ⟨_, _, xs, _, o, es, ep, h1, h2, _⟩ := (show ObjOk X.prog X.w H s.heap a (.dT kvs) from I.hok a _ ea)
    exact PySem.W.kia_one PySem.W.kitx_dict I.kIn ⟨o, h1, h2.1⟩ e (fun z => nomatch z) h
  | @ins a C dx fs ea cl ha hn htk hm =>
    cases (show u = Value.ref a from rx)
    obtain ⟨mA, O, _⟩ := ins_get I.hok ea
    obtain ⟨od, J, _⟩ := O.look
    exact PySem.W.kia_one (PySem.W.kitx_own (cl.get _) cl.hd ha hn htk hm) I.kIn J e (fun z => nomatch z) h
end
end L2
namespace L2
open PySem PySem.Spec PyProof.Rows
structure Room (k : Nat) (A : Around) : Prop where
  hd : A.handled = none
  dp : A.depth + 3 * k + 5 < recursionLimit
  un : A.units + 16 * k + 200 < cLine
theorem Room.mono {j k : Nat} {A : Around} (r : Room k A) (h : j ≤ k) : Room j A := ⟨r.hd, by have := r.dp; omega, by have := r.un; omega⟩
theorem Room.deeper {k : Nat} {A : Around} (r : Room (k + 1) A) (env : Env) : Room k (A.deeper env) :=
  ⟨r.hd, by have := r.dp; show A.depth + 1 + 3 * k + 5 < _; omega, by have := r.un; show A.units + 3 + 16 * k + 200 < _; omega⟩
theorem Room.in1 {k : Nat} {A : Around} (r : Room (k + 1) A) : Room k A.in1 :=
  ⟨r.hd, by have := r.dp; show A.depth + 3 * k + 5 < _; omega, by have := r.un; show A.units + 1 + 16 * k + 200 < _; omega⟩
theorem Room.depth {k : Nat} {A : Around} (r : Room k A) : A.depth < recursionLimit := by have := r.dp; omega
theorem Room.units {k : Nat} {A : Around} (r : Room k A) : A.units + 64 < cLine := by have := r.un; omega
def tNil : TA := fun _ H Q => Q [] H
def tCons (ta : TE) (tr : TA) : TA := fun σ H Q => ta σ H fun x H1 => tr σ H1 fun xs H2 => Q (x :: xs) H2
section
variable {X : Cx} {e : Expr} {es : List Expr} {te : TE} {t : TA} {pos : Pos}
theorem pa_nil : PA X [] tNil := fun _ _ _ _ H Q I h => Calls.spliced_nil ⟨[], H, I, .nil, h⟩
theorem pa_cons (ha : PE X e te) (hr : PA X es t) (hs : starEach (e :: es) X.env = (false, eval e X.env) :: starEach es X.env := by rfl) : PA X (e :: es) (tCons te t) := by
  intro pos pins s σ H Q I h
  rw [hs]
  show wpAny _ _ (spliced ((false, eval e X.env) :: backTo pos (starEach es X.env))) _ _ s
  refine Calls.spliced_cons (thn (ha pins s σ H _ I h) fun u s1 ⟨x, H1, I1, r1, q1⟩ => ?_)
  exact thn (hr pos pins s1 σ H1 _ I1 q1) fun us s2 ⟨xs, H2, I2, r2, q2⟩ => ⟨x :: xs, H2, I2, .cons r1 r2, q2⟩
def tTup (t : TA) : TE := fun σ H Q => t σ H fun xs H1 => xs.length ≤ sizeLine ∧ ∀ p, H1 p = none → Q (.ref p) (upd H1 p (.tup xs))
def tLst (t : TA) : TE := fun σ H Q => t σ H fun xs H1 => xs.length ≤ sizeLine ∧ ∀ p, H1 p = none → Q (.ref p) (upd H1 p (.lst xs))
theorem pe_lst (h : PA X es t) : PE X (.List es pos) (tLst t) := by
  intro pins s σ H Q I hq
  refine wpAny_List_spliced (thn (h pos pins s σ H _ I hq) fun us s1 ⟨xs, H1, I1, r, z, q⟩ => ⟨by rw [← r.length]; exact z, ?_⟩)
  have hf : H1 s1.heap.objs.size = none := I1.hok.fresh (Nat.le_refl _)
  refine ⟨.ref s1.heap.objs.size, upd H1 s1.heap.objs.size (.lst xs), I1.laid (t' := s1.toks) (fun b u e => Heap.get?_push_of_some _ e) (Nat.le_refl _) ?_, rfl, q _ hf⟩
  exact ⟨z, us, 0, r, Heap.get?_push_size _ rfl⟩
end
abbrev Sp := List V → Hp → VK → XK → Prop
abbrev CXT := List Env → Hp → Shared → XK → Value → Shared → Prop
structure Env0 (P : Program) (w : World) (K : PySem.W.Frag) (mg : Str → Option Value) (base : Heap) (A : Around) (outer : List Env) (s : Shared) (H : Hp) : Prop where
  frames : A.frames = some outer
  mod : Mod K mg base
  bs : ∀ b o, base.get? b = some o → s.heap.get? b = some o ∧ H b = none
  bsz : base.objs.size ≤ s.heap.objs.size
  funs : s.heap.FunFrames base outer
  frf : ∀ b ∈ frs outer, H b = none
  hok : HOk P w H s.heap
  bare : AllBare s.gens
def CE (outer : List Env) (P : Program) (w : World) (H : Hp) (s : Shared) (Q : VK) (u : Value) (s' : Shared) : Prop :=
  ∃ v H', s'.os = s.os ∧ AllBare s'.gens ∧ Un (frs outer) [] H H' s.heap s'.heap ∧ HOk P w H' s'.heap ∧ RelV v u ∧ Q v H'
def CR (CX : CXT) (outer : List Env) (P : Program) (w : World) (H : Hp) (s : Shared) (Q : VK) (E : XK) (r : Result) (s' : Shared) : Prop :=
  match r with
  | .ok (.ret u) => CE outer P w H s Q u s'
  | .ok _ => False
  | .error e => CX outer H s E e s'
structure FnOk (P : Program) (w : World) (K : PySem.W.Frag) (mg : Str → Option Value) (base : Heap) (CX : CXT) (k : Nat) (f : Addr) (fd : FuncData) (ps : List Str) (sp : Sp) : Prop where
  len : ∀ vs H Q E, sp vs H Q E → vs.length = ps.length
  run : ∀ (A : Around) (outer : List Env) (s : Shared) (H : Hp) (args : Args) (us : List Value) (vs : List V) (Q : VK) (E : XK), Room k A → Env0 P w K mg base A outer s H → BindsTo s fd args (ps.zip us) → Vals vs us → sp vs H Q E →
    codeAny (model P w) A (.call (.ref f) args) (CR CX outer P w H s Q E) s
theorem FnOk.mono {P : Program} {w : World} {K : PySem.W.Frag} {mg : Str → Option Value} {base : Heap} {CX : CXT} {j k : Nat} {f : Addr} {fd : FuncData} {ps : List Str} {sp : Sp} (F : FnOk P w K mg base CX j f fd ps sp) (h : j ≤ k) :
    FnOk P w K mg base CX k f fd ps sp := ⟨F.len, fun A outer s H args us vs Q E hr => F.run A outer s H args us vs Q E (hr.mono h)⟩
theorem Env0.in1 {P : Program} {w : World} {K : PySem.W.Frag} {mg : Str → Option Value} {base : Heap} {A : Around} {outer : List Env} {s : Shared} {H : Hp} (e : Env0 P w K mg base A outer s H) :
    Env0 P w K mg base A.in1 outer s H := ⟨e.frames, e.mod, e.bs, e.bsz, e.funs, e.frf, e.hok, e.bare⟩
section
variable {X : Cx} {pins : List (Addr × Obj)} {σ : St} {H : Hp} {s s' : Shared}
theorem Inv.env0 (I : Inv X pins σ H s) : Env0 X.prog X.w X.K X.mg X.base X.A X.stack s H :=
  ⟨I.ok.frames, I.ok.mod, I.bs, Nat.le_trans I.ok.bsz I.sz, I.stack, I.stkFree, I.hok, I.bare⟩
theorem Inv.after {Q : VK} {u : Value} (I : Inv X pins σ H s) (h : CE X.stack X.prog X.w H s Q u s') : EP X pins σ Q u s' := by
  obtain ⟨v, H', os, bare, un, hok, r, q⟩ := h
  obtain ⟨hh, g, d, t, os'⟩ := s'
  obtain rfl : os' = s.os := os
  exact ⟨v, H', I.call (h' := hh) (g' := g) (d' := d) (t' := t) (ch := []) un hok bare (fun b z => absurd z (by simp)), r, q⟩
end
def tCall (sp : Sp) (dvs : List V) (E : XK) (t : TA) : TE := fun σ H Q => t σ H fun vs H1 => sp (vs ++ dvs) H1 Q E
def tMeth (C : Addr) (m : Str) (sp : Sp) (dvs : List V) (E : XK) (ta : TE) (t : TA) : TE := fun σ H Q => ta σ H fun x H1 => ∃ a dx fs, x = .ref a ∧ H1 a = some (.ins C dx fs) ∧ fs.lookup m = none ∧
  t σ H1 fun vs H2 => sp (x :: (vs ++ dvs)) H2 Q E
def tMake (C : Addr) (sp : Sp) (dvs : List V) (E : XK) (t : TA) : TE := fun σ H Q => t σ H fun vs H1 => ∀ x dx, H1 x = none → H1 dx = none → dx ≠ x →
  sp (.ref x :: (vs ++ dvs)) (upd (upd H1 dx (.own x)) x (.ins C dx [])) (fun v H2 => v = .non ∧ Q (.ref x) H2) E
def Binds (K : PySem.W.Frag) (fd : FuncData) (ps : List Str) (ds : List Value) : Prop :=
  ∀ (s : Shared) (us : List Value), K.In s.heap → (us ++ ds).length = ps.length → BindsTo s fd ⟨us, []⟩ (ps.zip (us ++ ds))
theorem Binds.all {K : PySem.W.Frag} {fd : FuncData} {ps : List Str} (h : ∀ us : List Value, us.length = ps.length → bindArgs fd ⟨us, []⟩ = pure (ps.zip us)) : Binds K fd ps [] := fun s us _ hl => by
  rw [List.append_nil] at hl ⊢
  exact .of_eq (h us hl)
def Passes (CX : CXT) (X : Cx) (E : XK) : Prop := ∀ (pins : List (Addr × Obj)) (σ : St) (H : Hp) (s : Shared) (e : Value) (s' : Shared), Inv X pins σ H s → CX X.stack H s E e s' → X.xe e s'
section
variable {X : Cx} {CX : CXT} {k : Nat} {f C : Addr} {fd : FuncData} {ps : List Str} {sp : Sp} {dvs : List V} {ds : List Value} {E : XK} {x m : Str} {p pos apos : Pos} {e o : Expr} {es : List Expr} {ta : TE} {t : TA}
theorem run_fn {pins : List (Addr × Obj)} {σ : St} {H : Hp} {s : Shared} {Q : VK} {us : List Value} {vs : List V} (F : FnOk X.prog X.w X.K X.mg X.base CX k f fd ps sp) (hr : Room k X.A) (hb : Binds X.K fd ps ds) (hd : Vals dvs ds) (hx : Passes CX X E)
    (I : Inv X pins σ H s) (r : Vals vs us) (h : sp (vs ++ dvs) H Q E) : wpAny (model X.prog X.w) X.A (call (.ref f) us) (EP X pins σ Q) X.xe s := by
  have r2 : Vals (vs ++ dvs) (us ++ ds) := r.append hd
  have hl : (us ++ ds).length = ps.length := by rw [← r2.length]; exact F.len _ _ _ _ h
  refine wpAny_call (codeAny_mono (F.run X.A X.stack s H ⟨us, []⟩ (us ++ ds) (vs ++ dvs) Q E hr I.env0 (hb s us I.kIn hl) r2 h) fun r s' hq => ?_)
  cases r with
  | error e => exact hx pins σ H s e s' I hq
  | ok fl =>
    cases fl with
    | ret u => exact I.after hq
    | next => exact False.elim hq
    | brk => exact False.elim hq
    | cont => exact False.elim hq
theorem pe_call (F : FnOk X.prog X.w X.K X.mg X.base CX k f fd ps sp) (hr : Room k X.A) (hg : Gl X x) (hm : X.mg x = some (.ref f)) (hk : PySem.W.keepIn X.K (.ref f) = true) (hb : Binds X.K fd ps ds) (hd : Vals dvs ds) (hx : Passes CX X E)
    (ha : PA X (e :: es) t) (hdb : (x == ("__debug__" : Str)) = false := by decide) (he : starEach (e :: es) X.env = (false, eval e X.env) :: starEach es X.env := by rfl) (hpl : (backTo pos (starEach es X.env)).any (·.1) = false := by rfl) :
    PE X (.Call (.Name x p) (e :: es) [] pos) (tCall sp dvs E t) := by
  intro pins s σ H Q I h
  refine wpAny_Call_Name_kw (ld_glob I hg hm ?_ hdb)
  refine PySem.W.callWith_K (h₀ := X.base) I.ok.mod.kin hk (thn (ha pos pins s σ H _ I h) fun us s1 ⟨vs, H1, I1, r, q⟩ => ⟨I1.kIn, ?_⟩) he hpl
  exact run_fn F hr hb hd hx I1 r q
structure Mk (K : PySem.W.Frag) (C f : Addr) : Prop where
  makes : PySem.W.makesIn K C = true
  init : PySem.W.findIn K (.ref C) "__init__" = some (some (.ref f))
  fn : PySem.W.isFn K (.ref f) = true
  kp : PySem.W.keepIn K (.ref C) = true
end
section
variable {X : Cx} {CX : CXT} {k : Nat} {f C : Addr} {fd : FuncData} {ps ks : List Str} {sp : Sp} {E : XK} {x m : Str} {p pos apos kpos : Pos} {e o : Expr} {es : List Expr} {kws : List Keyword} {te ta : TE} {t tk : TA} {nm : Option Str}
structure KBinds (K : PySem.W.Frag) (fd : FuncData) (ps ks : List Str) (g : List Value → List Value → List Value) (gV : List V → List V → List V) : Prop where
  to : ∀ (s : Shared) (us ws : List Value), K.In s.heap → (g us ws).length = ps.length → BindsTo s fd ⟨us, ks.zip ws⟩ (ps.zip (g us ws))
  rel : ∀ {vs : List V} {us : List Value} {zs : List V} {ws : List Value}, Vals vs us → Vals zs ws → Vals (gV vs zs) (g us ws)
def tCallK (sp : Sp) (gV : List V → List V → List V) (E : XK) (t tk : TA) : TE := fun σ H Q => t σ H fun vs H1 => tk σ H1 fun zs H2 => sp (gV vs zs) H2 Q E
variable {g : List Value → List Value → List Value} {gV : List V → List V → List V}
end
structure FnScope (N P : List Str) (sc : Scope) : Prop where
  kind : sc.kind = .function
  co : sc.isCoroutine = false
  gen : sc.isGenerator = false
  nd : N.Nodup
  pre : N.take P.length = P
  par : ∀ x ∈ P, sc.names.lookup x = some .local ∨ sc.names.lookup x = some .cell
  nofree : ∀ y ∈ sc.names, y.2 ≠ .free
theorem bindL_out {kindOf : Str → Option NameKind} {x : Str} : ∀ {binds : List (Str × Value)} {m : Str → Option Value}, (∀ v, (x, v) ∉ binds) → bindL kindOf binds m x = m x
  | [], _, _ => rfl
  | (n, v) :: r, m, h => by
    unfold bindL
    rw [bindL_out fun w hw => h w (List.mem_cons_of_mem _ hw)]
    split
    · have : x ≠ n := by rintro rfl; exact h v List.mem_cons_self
      simp [this]
    · rfl
theorem bindC_out {kindOf : Str → Option NameKind} {x : Str} : ∀ {binds : List (Str × Value)} {m : Str → Option Value}, (∀ v, (x, v) ∉ binds) → bindC kindOf binds m x = m x
  | [], _, _ => rfl
  | (n, v) :: r, m, h => by
    unfold bindC
    rw [bindC_out fun w hw => h w (List.mem_cons_of_mem _ hw)]
    split
    · rfl
    · have : x ≠ n := by rintro rfl; exact h v List.mem_cons_self
      simp [this]
theorem bindL_get {kindOf : Str → Option NameKind} {x : Str} {v : Value} : ∀ {P : List Str} {vs : List Value} {i : Nat} {m : Str → Option Value}, P.Nodup → P[i]? = some x → vs[i]? = some v → kindOf x = some .local →
    bindL kindOf (P.zip vs) m x = some v
  | [], _, _, _, _, h, _, _ => by simp at h
  | _ :: _, [], _, _, _, _, h, _ => by simp at h
  | p :: P, w :: vs, 0, m, nd, h1, h2, hk => by
    simp at h1 h2; subst h1; subst h2
    show bindL kindOf ((p, w) :: P.zip vs) m p = _
    unfold bindL
    rw [bindL_out fun v hv => (List.nodup_cons.mp nd).1 (List.of_mem_zip hv).1, if_pos hk]
    simp
  | p :: P, w :: vs, i + 1, m, nd, h1, h2, hk => by
    show bindL kindOf ((p, w) :: P.zip vs) m x = _
    unfold bindL
    exact bindL_get (i := i) (List.nodup_cons.mp nd).2 (by simpa using h1) (by simpa using h2) hk
theorem bindC_get {kindOf : Str → Option NameKind} {x : Str} {v : Value} : ∀ {P : List Str} {vs : List Value} {i : Nat} {m : Str → Option Value}, P.Nodup → P[i]? = some x → vs[i]? = some v → kindOf x ≠ some .local →
    bindC kindOf (P.zip vs) m x = some v
  | [], _, _, _, _, h, _, _ => by simp at h
  | _ :: _, [], _, _, _, _, h, _ => by simp at h
  | p :: P, w :: vs, 0, m, nd, h1, h2, hk => by
    simp at h1 h2; subst h1; subst h2
    show bindC kindOf ((p, w) :: P.zip vs) m p = _
    unfold bindC
    rw [bindC_out fun v hv => (List.nodup_cons.mp nd).1 (List.of_mem_zip hv).1, if_neg hk]
    simp
  | p :: P, w :: vs, i + 1, m, nd, h1, h2, hk => by
    show bindC kindOf ((p, w) :: P.zip vs) m x = _
    unfold bindC
    exact bindC_get (i := i) (List.nodup_cons.mp nd).2 (by simpa using h1) (by simpa using h2) hk
def start (N : List Str) (vs : List V) : St := vs.map some ++ List.replicate (N.length - vs.length) none
def cxOf (CX : CXT) (P : Program) (w : World) (K : PySem.W.Frag) (mg : Str → Option Value) (base : Heap) (N : List Str) (qual : Str) (scope : Scope) (f : Addr) (cd : Value) (A : Around) (outer : List Env) (s : Shared) (H : Hp) (E : XK) : Cx where
  prog := P
  w := w
  K := K
  mg := mg
  base := base
  A := A.deeper (envOfC qual scope s.heap.objs.size f cd)
  N := N
  s₀ := s
  H₀ := H
  env := envOfC qual scope s.heap.objs.size f cd
  outer := outer
  stack := envOfC qual scope s.heap.objs.size f cd :: outer
  ex := []
  calm := true
  fn := fun _ => true
  pn := []
  xe := fun e s' => wpAny (model P w) (A.deeper (envOfC qual scope s.heap.objs.size f cd)) (leaving (envOfC qual scope s.heap.objs.size f cd) e) (fun _ s'' => CX outer H s E e s'') (fun e' s'' => CX outer H s E e' s'') s'
theorem cell_has {sc : Scope} {n : Nat} {x : Str} (h : sc.names.lookup x = some .cell) : ∃ c, (cellsFrom n sc.names []).lookup x = some c := by
  have q := PySem.W.cellsFrom_some sc.names n [] (.inl h)
  exact Option.isSome_iff_exists.mp q
theorem inv_start {CX : CXT} {P : Program} {w : World} {K : PySem.W.Frag} {mg : Str → Option Value} {base : Heap} {N ps : List Str} {qual : Str} {scope : Scope} {f : Addr} {cd : Value} {A : Around} {outer : List Env} {s s1 : Shared} {H : Hp} {E : XK} {us : List Value} {vs : List V}
    (S : FnScope N ps scope) (hd : A.handled = none) (e0 : Env0 P w K mg base A outer s H) (hl : vs.length = ps.length) (r : Vals vs us)
    (x : InCallC s s.heap.objs.size (bindL (envOfC qual scope s.heap.objs.size f cd).kindOf (ps.zip us) fun _ => none) (cellsFrom (s.heap.objs.size + 1) scope.names []) (bindC (envOfC qual scope s.heap.objs.size f cd).kindOf (ps.zip us) fun _ => none) s1) :
    Inv (cxOf CX P w K mg base N qual scope f cd A outer s H E) [] (start N vs) H s1 := by
  have hpl : ps.length ≤ N.length := by have := congrArg List.length S.pre; rw [List.length_take] at this; omega
  obtain ⟨h1, tk, rfl, hk⟩ := x.done
  have noA : ∀ b : Addr, b ∉ (cxOf CX P w K mg base N qual scope f cd A outer s H E).ex := fun b z => absurd (show b ∈ ([] : List Addr) from z) (by simp)
  refine ⟨⟨e0.mod, S.kind, rfl, rfl, Nat.le_refl _, fun y z c h1 h2 => ?_, fun y hy => ?_, fun y c _ h => ?_, fun _ => hd, Around.frames_deeper e0.frames, .inr ⟨rfl, rfl⟩, fun b z => absurd z (noA b), e0.bs, e0.bsz, fun b _ _ => noA b, fun b z => absurd z (noA b), e0.funs, e0.frf⟩,
    rfl, e0.bare, Un.kept hk, ⟨_, x.toInCall.ns, fun i y v h1 h2 h3 => ?_⟩, fun y c h => ⟨_, x.cell y c h⟩, e0.hok.fresh (Nat.le_refl _), fun y c h => ?_, fun p hp => absurd (show p ∈ ([] : List (Addr × Obj)) from hp) (by simp), e0.hok.kept hk, ?_⟩
  · exact name_of_addr x.apart (PySem.mem_of_lookup h1) (PySem.mem_of_lookup h2)
  · have hy : scope.names.lookup y = some .cell ∨ scope.names.lookup y = some .free := hy
    rcases hy with hy | hy
    · exact cell_has hy
    · exact absurd rfl (S.nofree _ (PySem.mem_of_lookup hy))
  · exact Nat.le_of_lt (x.above y c (PySem.mem_of_lookup h))
  · have hi : i < vs.length := by
      unfold start at h2
      by_cases hi : i < vs.length
      · exact hi
      · rw [List.getElem?_append_right (by simpa using hi)] at h2
        rw [List.getElem?_replicate] at h2
        split at h2 <;> cases h2
    have ha : vs[i]? = some v := by
      unfold start at h2
      rw [List.getElem?_append_left (by simpa using hi), List.getElem?_map] at h2
      cases e : vs[i]? with
      | none => rw [e] at h2; cases h2
      | some a => rw [e] at h2; cases h2; rfl
    obtain ⟨u, hu, rv⟩ := r.get ha
    have hp : ps[i]? = some y := by
      rw [← S.pre, List.getElem?_take_of_lt (by omega)]; exact h1
    have ndP : ps.Nodup := by rw [← S.pre]; exact S.nd.sublist (List.take_sublist _ _)
    refine ⟨u, rv, ?_⟩
    rcases S.par y (List.mem_of_getElem? hp) with k | k
    · exact .inl ⟨k, bindL_get ndP hp hu k⟩
    · obtain ⟨c, e⟩ := cell_has (n := s.heap.objs.size + 1) k
      refine .inr ⟨.inl k, c, e, ?_⟩
      have q := x.cell y c e
      rw [bindC_get ndP hp hu (by show scope.names.lookup y ≠ _; rw [k]; decide)] at q
      exact q
  · exact e0.hok.fresh (Nat.le_of_lt (x.above y c (PySem.mem_of_lookup h)))
  · unfold start
    show _ = N.length
    rw [List.length_append, List.length_map, List.length_replicate]
    omega
theorem fn_of {CX : CXT} {P : Program} {w : World} {K : PySem.W.Frag} {mg : Str → Option Value} {base : Heap} {k : Nat} {f : Addr} {name qual : Str} {params : Arguments} {body : List Stmt} {scope : Scope} {dV kV doc pm cdv ct oc : Value} {an od : Option Addr}
    {osl : Array (Option Value)} {N ps : List Str} {sp : Sp} (lk : K.lookup f = some ⟨oc, od, .func (PySem.W.fnOf name qual params body scope dV kV doc pm an cdv ct), osl⟩) (hcd : PySem.W.codeIn K cdv qual = true) (S : FnScope N ps scope)
    (len : ∀ vs H Q E, sp vs H Q E → vs.length = ps.length)
    (hbody : ∀ (A : Around) (outer : List Env) (s : Shared) (H : Hp) (vs : List V) (Q : VK) (E : XK), Room k (A.deeper (envOfC qual scope s.heap.objs.size f cdv)) → sp vs H Q E →
      ∃ t, PSs (cxOf CX P w K mg base N qual scope f cdv A outer s H E) body t ∧ t { nx := fun _ H' => Q .non H', rt := Q } (start N vs) H) :
    FnOk P w K mg base CX (k + 1) f (PySem.W.fnOf name qual params body scope dV kV doc pm an cdv ct) ps sp := by
  refine ⟨len, fun A outer s H args us vs Q E hr e0 hb r hsp => ?_⟩
  have hl := len _ _ _ _ hsp
  have KX : K.In s.heap := e0.mod.kin.keeps fun b o e => (e0.bs b o e).1
  have lim : s.heap.NoLimit := e0.mod.nolimit.keeps fun b o e => (e0.bs b o e).1
  have hkind : ∀ y ∈ ps.zip us, scope.names.lookup y.1 = some .local ∨ (scope.names.lookup y.1 = some .cell ∧ ((cellsFrom (s.heap.objs.size + 1) scope.names []).lookup y.1).isSome = true) := fun ⟨n, v⟩ hy => by
    rcases S.par n (List.of_mem_zip hy).1 with q | q
    · exact .inl q
    · exact .inr ⟨q, PySem.W.cellsFrom_some _ _ _ (.inl q)⟩
  refine codeAny_call_function hr.depth (KX _ _ lk) rfl S.co S.gen rfl (PySem.W.codeRec_of KX hcd) (hb _ _ _ _ ?_)
  refine wpAny_newFunctionEnv_cells S.kind hkind fun env he s1 x => ?_
  subst he
  refine ⟨lim.keeps x.toInCall.keep, codeAny_func ?_⟩
  obtain ⟨t, ht, hq⟩ := hbody A outer s H vs Q E (hr.deeper _) hsp
  have I : Inv (cxOf CX P w K mg base N qual scope f cdv A outer s H E) [] (start N vs) H s1 := inv_start S hr.hd e0 hl r x
  refine wpAny_mono (ht [] s1 (start N vs) H _ I hq) (fun fl s' hs => ?_) fun e s' hs => hs
  have fin : ∀ {σ' : St} {H' : Hp} {v : V} {u : Value}, Inv (cxOf CX P w K mg base N qual scope f cdv A outer s H E) [] σ' H' s' → RelV v u → Q v H' → CE outer P w H s Q u s' :=
    fun {σ' H' v u} J rv q => ⟨v, H', J.os, J.bare, J.base, J.hok, rv, q⟩
  cases fl with
  | ret u =>
    obtain ⟨v, σ', H', J, rv, q⟩ := hs
    exact fin J rv q
  | next =>
    obtain ⟨σ', H', J, q⟩ := hs
    exact fin (v := V.non) (u := Value.none) J rfl q
  | brk =>
    obtain ⟨_, _, _, q⟩ := hs
    exact False.elim q
  | cont =>
    obtain ⟨_, _, _, q⟩ := hs
    exact False.elim q
end L2
namespace L2
open PySem PySem.Spec PyProof.Rows
section
variable {X : Cx} {x : Str} {p pos : Pos} {e : Expr} {es : List Expr} {t : TA} {id T : String} {r : List V → Hp → VK → Prop}
def tCB (r : List V → Hp → VK → Prop) (t : TA) : TE := fun σ H Q => t σ H fun vs H1 => r vs H1 Q
theorem pe_callB (hc : CallR X (.builtin id) r) (hg : Gl X x) (hm : X.mg x = none) (hv : bootBuiltins x = some (.builtin id)) (ha : PA X (e :: es) t) (hn : x ≠ "__name__" := by decide) (hdb : (x == ("__debug__" : Str)) = false := by decide)
    (he : starEach (e :: es) X.env = (false, eval e X.env) :: starEach es X.env := by rfl) (hpl : (backTo pos (starEach es X.env)).any (·.1) = false := by rfl) : PE X (.Call (.Name x p) (e :: es) [] pos) (tCB r t) := by
  intro pins s σ H Q I h
  refine wpAny_Call_Name_kw (ld_blt I hg hm hv ?_ hn hdb)
  exact PyProof.Rows.callWith_builtin1 (thn (ha pos pins s σ H _ I h) fun us s1 ⟨vs, H1, I1, r1, q1⟩ => hc pins s1 σ H1 vs us Q I1 r1 q1) he hpl
theorem pe_callTy (hc : CallR X (.type T) r) (hg : Gl X x) (hm : X.mg x = none) (hv : bootBuiltins x = some (.type T)) (ha : PA X (e :: es) t) (hn : x ≠ "__name__" := by decide) (hdb : (x == ("__debug__" : Str)) = false := by decide)
    (he : starEach (e :: es) X.env = (false, eval e X.env) :: starEach es X.env := by rfl) (hpl : (backTo pos (starEach es X.env)).any (·.1) = false := by rfl) : PE X (.Call (.Name x p) (e :: es) [] pos) (tCB r t) := by
  intro pins s σ H Q I h
  refine wpAny_Call_Name_kw (ld_blt I hg hm hv ?_ hn hdb)
  exact PyProof.Rows.callWith_type1 (thn (ha pos pins s σ H _ I h) fun us s1 ⟨vs, H1, I1, r1, q1⟩ => hc pins s1 σ H1 vs us Q I1 r1 q1) he hpl
end
end L2
namespace HT
open PySem PyProof.Rows
def lexLt : List Int → List Int → Bool
  | [], [] => false
  | [], _ :: _ => true
  | _ :: _, [] => false
  | x :: xs, y :: ys => if x = y then lexLt xs ys else decide (x < y)
section
open PySem.SeqAt
open PySem.AutoSeq1 (wpAny_loadPart')
open PySem.MeetsSeq PySem.MeetsSeq2 PySem.MeetsSeq3
end
section
variable {prog : Program} {w : World} {A : Around} {E : Value → Shared → Prop} {s : Shared}
def sIx (n d : Nat) : Option Int → Nat
  | none => d
  | some v => if v < 0 then (v + (n : Int)).toNat else min v.toNat n
end
end HT
namespace L2
open PySem PySem.Spec PyProof.Rows
abbrev TO := St → Hp → (Option Int → Hp → Prop) → Prop
def tNoPart : TO := fun _ H Q => Q none H
def tPart (t : TE) : TO := fun σ H Q => t σ H fun x H1 => ∃ i, x = .int i ∧ Q (some i) H1
section
variable {X : Cx} {e : Expr} {te : TE} {lo hi : Option Expr} {tl th : TO} {pos p2 : Pos}
def tSl (r : V → Option Int → Option Int → Hp → VK → Prop) (te : TE) (tl th : TO) : TE := fun σ H Q => te σ H fun x H1 => tl σ H1 fun l H2 => th σ H2 fun u H3 => r x l u H3 Q
def cutV (xs : List V) (lo hi : Option Int) : List V := (xs.drop (HT.sIx xs.length 0 lo)).take (HT.sIx xs.length xs.length hi - HT.sIx xs.length 0 lo)
def rSlT (K : PySem.W.Frag) : V → Option Int → Option Int → Hp → VK → Prop := fun x lo hi H Q => ∃ a xs, x = .ref a ∧ SqT K H a xs ∧
  ¬ (HT.sIx xs.length 0 lo = 0 ∧ HT.sIx xs.length xs.length hi = xs.length) ∧ ∀ p, H p = none → Q (.ref p) (upd H p (.tup (cutV xs lo hi)))
def rLtT (K : PySem.W.Frag) : R2 := fun x y H Q => ∃ a b ns ms, x = .ref a ∧ y = .ref b ∧ SqT K H a (ns.map V.int) ∧ SqT K H b (ms.map V.int) ∧ Q (.bl (HT.lexLt ns ms)) H
def rCatT (K : PySem.W.Frag) : R2 := fun x y H Q => ∃ a b xs ys, x = .ref a ∧ y = .ref b ∧ SqT K H a xs ∧ SqT K H b ys ∧ xs ≠ [] ∧ xs.length + ys.length ≤ sizeLine ∧
  (ys = [] → Q (.ref a) H) ∧ (ys ≠ [] → ∀ p, H p = none → Q (.ref p) (upd H p (.tup (xs ++ ys))))
end
end L2
namespace L2
open PySem PySem.Spec PyProof.Rows
def ixN (n : Nat) (i : Int) : Option Nat := if 0 ≤ i then (if i < n then some i.toNat else none) else if -(n : Int) ≤ i then some (i + n).toNat else none
def atI {α : Type} (xs : List α) (i : Int) : Option α := (ixN xs.length i).bind fun j => xs[j]?
theorem ixN_seq {n : Nat} {i : Int} {j : Nat} (h : ixN n i = some j) : seqIndex? i n = some j ∧ j < n ∧ -(n : Int) ≤ i ∧ i < n := by
  unfold ixN at h
  by_cases h0 : 0 ≤ i
  · rw [if_pos h0] at h
    by_cases h1 : i < n
    · rw [if_pos h1] at h
      have e : i.toNat = j := Option.some.inj h
      exact ⟨by rw [seqIndex_of h0 h1, e], by omega, by omega, h1⟩
    · rw [if_neg h1] at h; cases h
  · rw [if_neg h0] at h
    by_cases h1 : -(n : Int) ≤ i
    · rw [if_pos h1] at h
      have e : (i + n).toNat = j := Option.some.inj h
      exact ⟨by rw [seqIndex_neg (by omega) h1, e], by omega, h1, by omega⟩
    · rw [if_neg h1] at h; cases h
theorem atI_get {α : Type} {xs : List α} {i : Int} {v : α} (h : atI xs i = some v) : ∃ j, seqIndex? i xs.length = some j ∧ xs[j]? = some v ∧ j < xs.length ∧ -(xs.length : Int) ≤ i ∧ i < xs.length := by
  unfold atI at h
  cases e : ixN xs.length i with
  | none => rw [e] at h; cases h
  | some j =>
    rw [e] at h
    obtain ⟨h1, h2, h3, h4⟩ := ixN_seq e
    exact ⟨j, h1, h, h2, h3, h4⟩
theorem atI_nat {α : Type} {xs : List α} {j : Nat} {v : α} (h : xs[j]? = some v) : atI xs (j : Int) = some v := by
  have hj : j < xs.length := (List.getElem?_eq_some_iff.mp h).1
  have e : ixN xs.length (j : Int) = some j := by
    unfold ixN
    rw [if_pos (by omega), if_pos (by omega)]; simp
  unfold atI; rw [e]; exact h
def PlainIx (b : Expr) : Prop := ∀ o i, subscripted b false o i = operate [o, i] (getItem o i)
def IxR (X : Cx) (r : R2) : Prop :=
  ∀ (value slice : Expr) (pins : List (Addr × Obj)) (s : Shared) (σ : St) (H : Hp) (x y : V) (v u : Value) (Q : VK), Inv X pins σ H s → RelV x v → RelV y u → r x y H Q →
    subscripted slice false v u = operate [v, u] (getItem v u) → wpAny (model X.prog X.w) X.A (subscriptTail value slice v u) (EP X pins σ Q) X.xe s
def MtR (X : Cx) (id : String) (r : V → List V → Hp → VK → Prop) : Prop :=
  ∀ (pins : List (Addr × Obj)) (s : Shared) (σ : St) (H : Hp) (x : V) (xs : List V) (v : Value) (us : List Value) (Q : VK), Inv X pins σ H s → RelV x v → Vals xs us → r x xs H Q →
    wpAny (model X.prog X.w) X.A (call (.builtin id) (v :: us)) (EP X pins σ Q) X.xe s
section
variable {X : Cx} {a b : Expr} {ta tb : TE} {pos : Pos}
theorem pe_ix {r : R2} (hr : IxR X r) (ha : PE X a ta) (hb : PE X b tb) (hs : PlainIx b) : PE X (.Subscript a b pos) (tOp r ta tb) := by
  intro pins s σ H Q I h
  exact Subscript_ (binT ha hb I h fun v u s2 x y H2 I2 rx ry q => hr a b pins s2 σ H2 x y v u Q I2 rx ry q (hs _ _))
def rIxL (K : PySem.W.Frag) : R2 := fun x y H Q => ∃ p xs i v, x = .ref p ∧ y = .int i ∧ SqL K H p xs ∧ atI xs i = some v ∧ Q v H
def rIxT (K : PySem.W.Frag) : R2 := fun x y H Q => ∃ p xs i v, x = .ref p ∧ y = .int i ∧ SqT K H p xs ∧ atI xs i = some v ∧ Q v H
def rIxS : R2 := fun x y H Q => ∃ z i c, x = .str z ∧ y = .int i ∧ z.length ≤ sizeLine ∧ atI z.cps.toList i = some c ∧ Q (.str ⟨#[c]⟩) H
theorem ix_list : IxR X (rIxL X.K) := by
  intro value slice pins s σ H x y v u Q I rx ry h hs
  obtain ⟨p, xs, i, z, rfl, rfl, hq, he, q⟩ := h
  cases rx
  obtain ⟨t, rfl⟩ := ry
  obtain ⟨its, r, pl, hz⟩ := I.list hq
  obtain ⟨j, h1, h2, h3, h4, h5⟩ := atI_get he
  obtain ⟨w, ew, rw'⟩ := r.get h2
  have hl := r.length
  have hn := line63
  have fin : EP X pins σ Q w s := ⟨z, H, I, rw', q⟩
  by_cases h0 : 0 ≤ i
  · have hj : i.toNat = j := by
      rw [seqIndex_of h0 h5] at h1
      exact Option.some.inj h1
    exact item_listR pl.isList h0 (by omega) (by rw [hj]; simpa using ew) fin hs
  · have hj : (i + (its.toArray.size : Int)).toNat = j := by
      rw [seqIndex_neg (by omega) h4] at h1
      rw [List.size_toArray, ← hl]
      exact Option.some.inj h1
    exact subscriptTail_builtinR (x := w) pl.isList.typeIs slot_list_getitem.lookup
      (wpAny_getItem_list_neg (Q := fun r s' => r = w ∧ EP X pins σ Q r s') pl.isList (by omega) (by rw [List.size_toArray] <;> omega) (by omega) (by rw [hj]; simpa using ew) ⟨rfl, fin⟩) hs
def rIx (K : PySem.W.Frag) : R2 := fun x y H Q => rIxL K x y H Q ∨ rIxT K x y H Q ∨ rIxS x y H Q
theorem mapSeq_set (its : List Value) (n j : Nat) (u : Value) : Obj.mapSeq (·.setIfInBounds j u) { cls := .type "list", data := .seq its.toArray n } = { cls := .type "list", data := .seq (its.set j u).toArray n } := by
  simp [Obj.mapSeq]
theorem Inv.lst {pins : List (Addr × Obj)} {σ : St} {H : Hp} {s : Shared} {p : Addr} {xs : List V} (I : Inv X pins σ H s) (h : H p = some (.lst xs)) :
    ∃ (its : List Value) (n : Nat), Vals xs its ∧ s.heap.get? p = some { cls := .type "list", data := .seq its.toArray n } ∧ xs.length ≤ sizeLine := by
  obtain ⟨z, its, n, r, e⟩ := I.hok p _ h
  exact ⟨its, n, r, e, z⟩
theorem Inv.lstUpd {pins : List (Addr × Obj)} {σ : St} {H : Hp} {s : Shared} {p : Addr} {xs ys : List V} {its its' : List Value} {n n' : Nat} {f : Obj → Obj} (I : Inv X pins σ H s) (h : H p = some (.lst xs))
    (ho : s.heap.get? p = some { cls := .type "list", data := .seq its.toArray n }) (hf : f { cls := .type "list", data := .seq its.toArray n } = { cls := .type "list", data := .seq its'.toArray n' }) (r : Vals ys its') (hz : ys.length ≤ sizeLine) (t : Nat) :
    Inv X pins σ (upd H p (.lst ys)) { s with heap := s.heap.update p f, toks := t } := by
  have e : (s.heap.update p f).get? p = some { cls := .type "list", data := .seq its'.toArray n' } := by
    rw [Heap.get?_update_self f ho (by rw [hf] <;> rfl), hf]
  refine I.write (x := p) (e := p) (by rw [h]; trivial) (.inl rfl) (fun b u hb q => (Heap.get?_update_other _ _ (Ne.symm hb)).trans q) ⟨_, e⟩ ?_
  exact ⟨hz, its', n', r, e⟩
def rSetL : V → V → V → Hp → (Hp → Prop) → Prop := fun o i v H Q => ∃ p xs k j, o = .ref p ∧ i = .int k ∧ H p = some (.lst xs) ∧ ixN xs.length k = some j ∧ Q (upd H p (.lst (xs.set j v)))
theorem set_list : PSet X rSetL := by
  intro pins s σ H o i v ov iv u Q I ro ri rv h
  obtain ⟨p, xs, k, j, rfl, rfl, hp, hj, q⟩ := h
  cases ro
  obtain ⟨t, rfl⟩ := ri
  obtain ⟨its, n, r, ho, hz⟩ := I.lst hp
  obtain ⟨h1, h2, h3, h4⟩ := ixN_seq hj
  have hl := r.length
  have hn := line63
  have I' : Inv X pins σ (upd H p (.lst (xs.set j v))) { s with heap := s.heap.update p (Obj.mapSeq (·.setIfInBounds j u)) } :=
    I.lstUpd hp ho (mapSeq_set its n j u) (r.set rv j) (by rw [List.length_set]; exact hz) s.toks
  by_cases h0 : 0 ≤ k
  · have hk : k.toNat = j := by
      rw [seqIndex_of h0 h4] at h1
      exact Option.some.inj h1
    exact PySem.W.ki_setAt ho h0 (by omega) (by rw [List.size_toArray, ← hl]; exact h4) (by rw [hk]; exact ⟨_, I', q⟩)
  · have hk : (k + (its.toArray.size : Int)).toNat = j := by
      rw [seqIndex_neg (by omega) h3] at h1
      rw [List.size_toArray, ← hl]
      exact Option.some.inj h1
    exact PySem.W.ki_setBack ho (by omega) (by rw [List.size_toArray, ← hl]; exact h3) (by omega) (by rw [hk]; exact ⟨_, I', q⟩)
def rSlL (K : PySem.W.Frag) : V → Option Int → Option Int → Hp → VK → Prop := fun x lo hi H Q => ∃ a xs, x = .ref a ∧ SqL K H a xs ∧ ∀ p, H p = none → Q (.ref p) (upd H p (.lst (cutV xs lo hi)))
def flatV : V → Bool
  | .non => true
  | .bl _ => true
  | .int _ => true
  | .str _ => true
  | _ => false
def eqV : V → V → Bool
  | .non, .non => true
  | .bl a, .bl b => a == b
  | .bl a, .int b => (if a then 1 else 0) == b
  | .int a, .bl b => a == (if b then 1 else 0)
  | .int a, .int b => a == b
  | .str a, .str b => a == b
  | _, _ => false
theorem eqAt_V {A : Around} {s : Shared} {y x : V} {u v : Value} (ry : RelV y u) (rx : RelV x v) (fy : flatV y = true) (fx : flatV x = true) : SeqAt.EqAt A s u v (eqV y x) := by
  cases y with
  | non =>
    cases ry
    cases x with
    | non => cases rx; exact SeqAt.EqAt.same _
    | bl b => cases rx; exact SeqAt.EqAt.none_bool b
    | int b => obtain ⟨t, rfl⟩ := rx; exact SeqAt.EqAt.none_int b t
    | str b => obtain ⟨t, rfl⟩ := rx; exact SeqAt.EqAt.none_str b t
    | _ => exact absurd (show false = true from fx) Bool.false_ne_true
  | bl a =>
    cases ry
    cases x with
    | non => cases rx; exact SeqAt.EqAt.bool_none a
    | bl b => cases rx; exact SeqAt.EqAt.bool_bool a b
    | int b => obtain ⟨t, rfl⟩ := rx; exact SeqAt.EqAt.bool_int a b t
    | str b => obtain ⟨t, rfl⟩ := rx; exact SeqAt.EqAt.bool_str a b t
    | _ => exact absurd (show false = true from fx) Bool.false_ne_true
  | int a =>
    obtain ⟨t', rfl⟩ := ry
    cases x with
    | non => cases rx; exact SeqAt.EqAt.int_none a t'
    | bl b => cases rx; exact SeqAt.EqAt.int_bool a t' b
    | int b => obtain ⟨t, rfl⟩ := rx; exact SeqAt.EqAt.int_int a t' b t
    | str b => obtain ⟨t, rfl⟩ := rx; exact SeqAt.EqAt.int_str a t' b t
    | _ => exact absurd (show false = true from fx) Bool.false_ne_true
  | str a =>
    obtain ⟨t', rfl⟩ := ry
    cases x with
    | non => cases rx; exact SeqAt.EqAt.str_none a t'
    | bl b => cases rx; exact SeqAt.EqAt.str_bool a t' b
    | int b => obtain ⟨t, rfl⟩ := rx; exact SeqAt.EqAt.str_int a t' b t
    | str b => obtain ⟨t, rfl⟩ := rx; exact SeqAt.EqAt.str_str a t' b t
    | _ => exact absurd (show false = true from fx) Bool.false_ne_true
  | _ => exact absurd (show false = true from fy) Bool.false_ne_true
def inV (x : V) (xs : List V) : Bool := xs.any fun y => eqV y x
def rIn (K : PySem.W.Frag) (neg : Bool) : R2 := fun x y H Q => ∃ p xs, y = .ref p ∧ (SqL K H p xs ∨ SqT K H p xs) ∧ flatV x = true ∧ xs.all flatV = true ∧ Q (.bl (if neg then !inV x xs else inV x xs)) H
theorem call_len_seq : CallR X (.builtin "len") (fun xs H Q => ∃ p ys, xs = [.ref p] ∧ (SqL X.K H p ys ∨ SqT X.K H p ys) ∧ Q (.int ys.length) H) := by
  intro pins s σ H xs us Q I r h
  obtain ⟨p, ys, rfl, hq, q⟩ := h
  obtain ⟨u, rfl, rx⟩ := vals1 r
  cases rx
  have hn := line63
  rcases hq with hq | hq
  · obtain ⟨its, r', pl, hz⟩ := I.list hq
    have hlen := r'.length
    exact Calls.call_len_list pl.isList (by simp only [List.size_toArray] <;> omega) ⟨.int ys.length, H, I.tok _, ⟨s.toks + 1, by rw [List.size_toArray, hlen]⟩, q⟩
  · obtain ⟨its, r', pl, hz⟩ := I.tuple hq
    have hlen := r'.length
    exact len_tuple pl (by simp only [List.size_toArray] <;> omega) ⟨.int ys.length, H, I.tok _, ⟨s.toks + 1, by rw [List.size_toArray, hlen]⟩, q⟩
theorem call_list_of : CallR X (.type "list") (fun xs H Q => ∃ p ys, xs = [.ref p] ∧ (SqL X.K H p ys ∨ SqT X.K H p ys) ∧ ∀ l, H l = none → Q (.ref l) (upd H l (.lst ys))) := by
  intro pins s σ H xs us Q I r h
  obtain ⟨p, ys, rfl, hq, q⟩ := h
  obtain ⟨u, rfl, rx⟩ := vals1 r
  cases rx
  have fin : ∀ (its : List Value), Vals ys its → ys.length ≤ sizeLine → ∀ (h' : Heap) (c' : Nat), (∀ b o', s.heap.get? b = some o' → h'.get? b = some o') →
      h'.get? s.heap.objs.size = some { cls := .type "list", dict := none, data := .seq its.toArray c', slots := #[] } → EP X pins σ Q (.ref s.heap.objs.size) { s with heap := h' } := fun its r' hz h' c' kp e =>
    ⟨.ref s.heap.objs.size, _, I.laid (t' := s.toks) kp (Nat.le_refl _) (show ObjOk X.prog X.w _ h' _ (.lst ys) from ⟨hz, its, c', r', e⟩), rfl, q _ (I.hok.fresh (Nat.le_refl _))⟩
  rcases hq with hq | hq
  · obtain ⟨its, r', pl, hz⟩ := I.list hq
    have hlen := r'.length
    obtain ⟨o, ho, hc, n, hd⟩ := pl.isList
    exact call_list_seq p (.inl rfl) ho hc hd (fun h' c' kp e => fin its r' hz h' c' kp e) (by simp only [List.size_toArray] <;> omega)
  · obtain ⟨its, r', pl, hz⟩ := I.tuple hq
    have hlen := r'.length
    obtain ⟨o, ho, hc, n, hd⟩ := pl
    exact call_list_seq p (.inr rfl) ho hc hd (fun h' c' kp e => fin its r' hz h' c' kp e) (by simp only [List.size_toArray] <;> omega)
def tyV (K : PySem.W.Frag) (T : String) (x : V) (H : Hp) : Prop := match x with
  | .str _ => T = "str"
  | .int _ => T = "int"
  | .ref p => (T = "list" ∧ ∃ xs, SqL K H p xs) ∨ (T = "tuple" ∧ ∃ o, K.lookup p = some o ∧ o.cls = .type "tuple" ∧ o.dict = none) ∨
      (T = "dict" ∧ ((∃ kvs, H p = some (.dK kvs)) ∨ ∃ kvs, H p = some (.dT kvs))) ∨ (T = "set" ∧ ∃ S n, H p = some (.set S n))
  | _ => False
theorem tyV_is {pins : List (Addr × Obj)} {σ : St} {H : Hp} {s : Shared} {T : String} {x : V} {v : Value} (I : Inv X pins σ H s) (r : RelV x v) (ty : tyV X.K T x H) :
    s.TypeIs v T ∧ ∀ a, v = .ref a → ∃ ob, s.heap.get? a = some ob ∧ ob.dict = none := by
  cases x with
  | str z =>
    obtain ⟨t, rfl⟩ := r
    cases (show T = "str" from ty)
    exact ⟨typeIs_str s z t, fun _ e => nomatch e⟩
  | int i =>
    obtain ⟨t, rfl⟩ := r
    cases (show T = "int" from ty)
    exact ⟨typeIs_int s i t, fun _ e => nomatch e⟩
  | ref p =>
    cases r
    rcases ty with ⟨rfl, xs, hq⟩ | ⟨rfl, o, hk, hc, hd⟩ | ⟨rfl, hk⟩ | ⟨rfl, S, n, hk⟩
    · obtain ⟨its, _, pl, _⟩ := I.list hq
      refine ⟨pl.isList.typeIs, fun a e => ?_⟩
      cases e
      obtain ⟨o, n, e, c, hd, _⟩ := pl
      exact ⟨o, e, hd⟩
    · refine ⟨⟨o, I.kIn p o hk, hc⟩, fun a e => ?_⟩
      cases e
      exact ⟨o, I.kIn _ o hk, hd⟩
    · have z : ∃ o, s.heap.get? p = some o ∧ o.ExactDict := by
        rcases hk with ⟨kvs, hk⟩ | ⟨kvs, hk⟩
        · obtain ⟨_, _, _, _, o, _, _, e, ex, _⟩ := I.hok p _ hk
          exact ⟨o, e, ex⟩
        · obtain ⟨_, _, _, _, o, _, _, e, ex, _⟩ := I.hok p _ hk
          exact ⟨o, e, ex⟩
      obtain ⟨o, e, ex⟩ := z
      refine ⟨⟨o, e, ex.1⟩, fun a e2 => ?_⟩
      cases e2
      exact ⟨o, e, ex.2.1⟩
    · obtain ⟨o, _, _, _, e, ex, _⟩ := I.hok p _ hk
      refine ⟨⟨o, e, ex.1⟩, fun a e2 => ?_⟩
      cases e2
      exact ⟨o, e, ex.2.1⟩
  | _ => exact False.elim ty
def tBM0 (K : PySem.W.Frag) (T : String) (r : V → List V → Hp → VK → Prop) (to : TE) : TE := fun σ H Q => to σ H fun x H1 => tyV K T x H1 ∧ r x [] H1 Q
def tBM (K : PySem.W.Frag) (T : String) (r : V → List V → Hp → VK → Prop) (to : TE) (t : TA) : TE := fun σ H Q => to σ H fun x H1 => tyV K T x H1 ∧ t σ H1 fun xs H2 => r x xs H2 Q
variable {o e : Expr} {es : List Expr} {to : TE} {t : TA} {name : Str} {apos cpos : Pos} {T id : String} {r : V → List V → Hp → VK → Prop}
theorem pe_bm0 (pa : PlainAttrs T) (slot : Slot T name id) (hty : typeOf (.builtin id) = pure (.type "method_descriptor")) (hm : MtR X id r) (ho : PE X o to)
    (hbase : attributeBase o name X.env (eval o X.env) = eval o X.env := by rfl) (hline : (apos.endLine == cpos.line) = true := by rfl) : PE X (.Call (.Attribute o name apos) [] [] cpos) (tBM0 X.K T r to) := by
  intro pins s σ H Q I h
  refine wpAny_Call_method0_late hbase hline (thn (ho pins s σ H _ I h) fun v s1 ⟨x, H1, I1, r1, ty, q1⟩ => ?_)
  obtain ⟨h1, h2⟩ := tyV_is I1 r1 ty
  exact ⟨T, id, pa, slot, hty, h1, h2, Calls.callWith_builtin rfl (PySem.evalArgs_none (hm pins s1 σ H1 x [] v [] Q I1 r1 .nil q1))⟩
theorem pe_bm (pa : PlainAttrs T) (slot : Slot T name id) (hty : typeOf (.builtin id) = pure (.type "method_descriptor")) (hm : MtR X id r) (ho : PE X o to) (ha : PA X (e :: es) t)
    (hbase : attributeBase o name X.env (eval o X.env) = eval o X.env := by rfl)
    (hfew : ((backTo cpos (starEach (e :: es) X.env)).all (fun x => !x.1) && (backToKw cpos (keywordEach [] X.env)).all (fun x => x.1.isSome)
      && decide ((e :: es).length + ([] : List Keyword).length + (if ([] : List Keyword).isEmpty then 0 else 1) < 30)) = true := by rfl)
    (hline : (apos.endLine == cpos.line) = true := by rfl) (hs : starEach (e :: es) X.env = (false, eval e X.env) :: starEach es X.env := by rfl) (hplain : (backTo cpos (starEach es X.env)).any (·.1) = false := by rfl) :
    PE X (.Call (.Attribute o name apos) (e :: es) [] cpos) (tBM X.K T r to t) := by
  intro pins s σ H Q I h
  refine wpAny_Call_method_late hbase hfew hline rfl (thn (ho pins s σ H _ I h) fun v s1 ⟨x, H1, I1, r1, ty, q1⟩ => ?_)
  obtain ⟨h1, h2⟩ := tyV_is I1 r1 ty
  refine ⟨T, id, pa, slot, hty, h1, h2, ?_⟩
  have hA := ha cpos pins s1 σ H1 _ I1 q1
  rw [hs] at hA ⊢
  refine Calls.callWith_builtin (by show (false || (backTo cpos (starEach es X.env)).any (·.1)) = false; rw [hplain] <;> rfl) (Calls.evalArgs_plain ?_)
  exact thn hA fun us s2 ⟨vs, H2, I2, r2, q2⟩ => hm pins s2 σ H2 x vs v us Q I2 r1 r2 q2
end
end L2
namespace L2
open PySem PySem.Spec PyProof.Rows
def MtM (X : Cx) (id : String) (r : V → List V → Hp → VK → Prop) : Prop :=
  ∀ (pins : List (Addr × Obj)) (s : Shared) (σ : St) (H : Hp) (x : V) (xs : List V) (v : Value) (us : List Value) (Q : VK), Inv X pins σ H s → RelV x v → Vals xs us → r x xs H Q →
    wpAny (model X.prog X.w) X.A (call (.builtin id) (v :: us)) (EP X pins σ Q) X.xe s
theorem Vals.one : ∀ {x : V} {us : List Value}, Vals [x] us → ∃ u, us = [u] ∧ RelV x u
  | _, _, .cons r .nil => ⟨_, rfl, r⟩
theorem Vals.zero : ∀ {us : List Value}, Vals [] us → us = []
  | _, .nil => rfl
theorem Vals.dropLast {xs : List V} {us : List Value} (h : Vals xs us) : Vals xs.dropLast us.dropLast := by
  induction h with
  | nil => exact .nil
  | cons r t ih =>
    cases t with
    | nil => exact .nil
    | cons q t' => exact .cons r ih
theorem Vals.eraseIdx : ∀ {xs : List V} {us : List Value} (i : Nat), Vals xs us → Vals (xs.eraseIdx i) (us.eraseIdx i)
  | _, _, _, .nil => .nil
  | _, _, 0, .cons _ t => t
  | _, _, i + 1, .cons r t => .cons r (Vals.eraseIdx i t)
theorem Vals.reverse {xs : List V} {us : List Value} (h : Vals xs us) : Vals xs.reverse us.reverse := by
  induction h with
  | nil => exact .nil
  | cons r t ih => rw [List.reverse_cons, List.reverse_cons]; exact Vals.append ih (.cons r .nil)
section
variable {X : Cx} {pins : List (Addr × Obj)} {σ : St} {H : Hp} {s : Shared} {l b : Addr} {xs ys zs : List V}
theorem Inv.lset {its its' : List Value} {n : Nat} {f : Array Value → Array Value} {t' : Nat} (I : Inv X pins σ H s) (hH : H l = some (.lst xs))
    (e : s.heap.get? l = some { cls := .type "list", data := .seq its.toArray n }) (hf : f its.toArray = its'.toArray) (hv : Vals ys its') (hz : ys.length ≤ sizeLine) :
    Inv X pins σ (upd H l (.lst ys)) { s with heap := s.heap.update l (Obj.mapSeq f), toks := t' } := by
  have q := PySem.IsL.update e f
  rw [hf] at q
  refine I.write (x := l) (e := l) (by rw [hH]; exact trivial) (.inl rfl) (fun b' u hb hu => (Heap.get?_update_other s.heap (Obj.mapSeq f) (Ne.symm hb)).trans hu) ⟨_, q⟩ ?_
  exact ⟨hz, its', _, hv, q⟩
theorem Inv.fresh (I : Inv X pins σ H s) : H s.heap.objs.size = none := I.hok.fresh (Nat.le_refl _)
theorem Inv.lstM (I : Inv X pins σ H s) (hH : H l = some (.lst xs)) : xs.length ≤ sizeLine ∧ ∃ (its : List Value) (n : Nat), Vals xs its ∧ xs.length = its.length ∧ s.heap.get? l = some { cls := .type "list", data := .seq its.toArray n } := by
  obtain ⟨z, its, n, r, e⟩ := I.hok l _ hH
  exact ⟨z, its, n, r, r.length, e⟩
end
section
variable {X : Cx}
def rAppend : V → List V → Hp → VK → Prop := fun x vs H Q => ∃ l xs y, x = .ref l ∧ vs = [y] ∧ H l = some (.lst xs) ∧ xs.length < sizeLine ∧ Q .non (upd H l (.lst (xs ++ [y])))
theorem mt_append : MtM X "list.append" rAppend := by
  intro pins s σ H x vs v us Q I rx rv h
  obtain ⟨l, xs, y, rfl, rfl, hH, hz, q⟩ := h
  cases rx
  obtain ⟨u, rfl, ru⟩ := rv.one
  obtain ⟨z, its, n, r, hl, e⟩ := I.lstM hH
  refine call_meets F.slot_list_append ⟨_, e, rfl⟩ F.entry_list_append (F.args_list_append_2 _ _) (PySem.list_append l its.toArray n u (by rw [List.size_toArray]; omega)) ⟨e, ?_⟩
  refine ⟨.non, _, I.lset (its' := its ++ [u]) hH e (by simp) (r.append (.cons ru .nil)) ?_, rfl, q⟩
  rw [List.length_append, List.length_singleton]
  omega
def rExtend : V → List V → Hp → VK → Prop := fun x vs H Q => ∃ l b xs zs, x = .ref l ∧ vs = [.ref b] ∧ H l = some (.lst xs) ∧ H b = some (.lst zs) ∧ xs.length + zs.length ≤ sizeLine ∧ Q .non (upd H l (.lst (xs ++ zs)))
def rPop : V → List V → Hp → VK → Prop := fun x vs H Q => ∃ l xs y, x = .ref l ∧ vs = [] ∧ H l = some (.lst xs) ∧ xs[xs.length - 1]? = some y ∧ Q y (upd H l (.lst xs.dropLast))
def rPopAt : V → List V → Hp → VK → Prop := fun x vs H Q => ∃ l xs i k y, x = .ref l ∧ vs = [.int i] ∧ H l = some (.lst xs) ∧ -(2 ^ 63) ≤ i ∧ i < 2 ^ 63 ∧ seqIndex? i xs.length = some k ∧ xs[k]? = some y ∧ Q y (upd H l (.lst (xs.eraseIdx k)))
def rReverse : V → List V → Hp → VK → Prop := fun x vs H Q => ∃ l xs, x = .ref l ∧ vs = [] ∧ H l = some (.lst xs) ∧ Q .non (upd H l (.lst xs.reverse))
def rClear : V → List V → Hp → VK → Prop := fun x vs H Q => ∃ l xs, x = .ref l ∧ vs = [] ∧ H l = some (.lst xs) ∧ Q .non (upd H l (.lst []))
theorem mt_clear : MtM X "list.clear" rClear := by
  intro pins s σ H x vs v us Q I rx rv h
  obtain ⟨l, xs, rfl, rfl, hH, q⟩ := h
  cases rx
  have hus := rv.zero
  subst hus
  obtain ⟨z, its, n, r, hl, e⟩ := I.lstM hH
  refine call_meets F.slot_list_clear ⟨_, e, rfl⟩ F.entry_list_clear (F.args_list_clear_1 _) (AutoSeq1.list_clear_list_0 l its.toArray n (by rw [List.size_toArray]; omega)) ⟨e, ?_⟩
  exact ⟨.non, _, I.lset (its' := []) (ys := []) hH e rfl .nil (Nat.zero_le _), rfl, q⟩
def rCat : R2 := fun x y H Q => ∃ l b xs zs, x = .ref l ∧ y = .ref b ∧ H l = some (.lst xs) ∧ H b = some (.lst zs) ∧ xs.length + zs.length ≤ sizeLine ∧ ∀ p, H p = none → Q (.ref p) (upd H p (.lst (xs ++ zs)))
def rRep : R2 := fun x y H Q => ∃ l k xs, x = .ref l ∧ y = .int k ∧ H l = some (.lst xs) ∧ -(2 ^ 63) ≤ k ∧ k < 2 ^ 63 ∧ xs.length * k.toNat ≤ sizeLine ∧
  ∀ p, H p = none → Q (.ref p) (upd H p (.lst (List.replicate k.toNat xs).flatten))
end
section
variable {prog : Program} {w : World} {A : Around} {E : Value → Shared → Prop} {s : Shared}
end
section
variable {X : Cx}
end
end L2
namespace L2
open PySem PySem.Spec PyProof.Rows
section
variable {κ : Type} [DecidableEq κ]
def valV (kvs : List (κ × V)) (k : κ) : Option V := (kvs.find? fun kv => decide (kv.1 = k)).map (·.2)
def putK (kvs : List (κ × V)) (k : κ) (v : V) : List (κ × V) :=
  if (kvs.any fun kv => decide (kv.1 = k)) = true then kvs.map (fun kv => if kv.1 = k then (kv.1, v) else kv) else kvs ++ [(k, v)]
def dropK (kvs : List (κ × V)) (k : κ) : List (κ × V) := kvs.filter fun kv => decide (kv.1 ≠ k)
theorem valV_pos {p : κ × V} {r : List (κ × V)} {k : κ} (e : p.1 = k) : valV (p :: r) k = some p.2 := by simp [valV, List.find?_cons, e]
theorem valV_neg {p : κ × V} {r : List (κ × V)} {k : κ} (e : ¬ p.1 = k) : valV (p :: r) k = valV r k := by simp [valV, List.find?_cons, e]
theorem valV_any (k : κ) : ∀ kvs : List (κ × V), (kvs.any fun kv => decide (kv.1 = k)) = (valV kvs k).isSome
  | [] => rfl
  | p :: r => by
    rw [List.any_cons]
    by_cases e : p.1 = k
    · simp only [valV_pos e, decide_eq_true e, Bool.true_or, Option.isSome_some]
    · rw [valV_neg e, decide_eq_false e, Bool.false_or]; exact valV_any k r
theorem RelO.isSome_eq {o : Option V} {u : Option Value} (r : RelO o u) : o.isSome = u.isSome := by
  cases o with
  | none => cases u with
    | none => rfl
    | some _ => exact (show False from r).elim
  | some _ => cases u with
    | none => exact (show False from r).elim
    | some _ => rfl
theorem RelO.getD {o : Option V} {u : Option Value} {d : V} {d' : Value} (r : RelO o u) (rd : RelV d d') : RelV (o.getD d) (u.getD d') := by
  cases o with
  | none => cases u with
    | none => exact rd
    | some _ => exact (show False from r).elim
  | some _ => cases u with
    | none => exact (show False from r).elim
    | some _ => exact r
theorem KV.val {kvs : List (κ × V)} {vs : List (κ × Value)} (r : KV kvs vs) (k : κ) : RelO (valV kvs k) (valueAt vs k) := by
  unfold KV at r
  induction r with
  | nil => exact True.intro
  | @cons p q ps qs h t ih =>
    obtain ⟨h1, h2⟩ := h
    by_cases e : p.1 = k
    · have e' : q.1 = k := h1.symm.trans e
      have b : valueAt (q :: qs) k = some q.2 := by simp [valueAt, List.find?_cons, e']
      rw [valV_pos e, b]; exact h2
    · have e' : ¬ q.1 = k := fun z => e (h1.trans z)
      have b : valueAt (q :: qs) k = valueAt qs k := by simp [valueAt, List.find?_cons, e']
      rw [valV_neg e, b]; exact ih
theorem KV.any {kvs : List (κ × V)} {vs : List (κ × Value)} (r : KV kvs vs) (k : κ) : (kvs.any fun kv => decide (kv.1 = k)) = vs.any fun kv => decide (kv.1 = k) := by
  unfold KV at r
  induction r with
  | nil => rfl
  | cons h t ih => rw [List.any_cons, List.any_cons, ih, h.1]
theorem KV.repl {kvs : List (κ × V)} {vs : List (κ × Value)} (r : KV kvs vs) (k : κ) {y : V} {u : Value} (ry : RelV y u) :
    KV (kvs.map fun kv => if kv.1 = k then (kv.1, y) else kv) (vs.map fun kv => if kv.1 = k then (kv.1, u) else kv) := by
  unfold KV at r ⊢
  induction r with
  | nil => exact .nil
  | @cons p q ps qs h t ih =>
    rw [List.map_cons, List.map_cons]
    refine .cons ?_ ih
    obtain ⟨h1, h2⟩ := h
    by_cases e : p.1 = k
    · rw [if_pos e, if_pos (h1.symm.trans e)]; exact ⟨h1, ry⟩
    · rw [if_neg e, if_neg (fun z => e (h1.trans z))]; exact ⟨h1, h2⟩
theorem KV.put {kvs : List (κ × V)} {vs : List (κ × Value)} (r : KV kvs vs) (k : κ) {y : V} {u : Value} (ry : RelV y u) : KV (putK kvs k y) (stored vs k u) := by
  unfold putK stored
  rw [r.any k]
  by_cases e : (vs.any fun kv => decide (kv.1 = k)) = true
  · rw [if_pos e, if_pos e]; exact r.repl k ry
  · rw [if_neg e, if_neg e]; exact Paired.snoc r ⟨rfl, ry⟩
theorem KV.drop {kvs : List (κ × V)} {vs : List (κ × Value)} (r : KV kvs vs) (k : κ) : KV (dropK kvs k) (without vs k) := by
  unfold KV at r ⊢
  unfold dropK without
  induction r with
  | nil => exact .nil
  | @cons p q ps qs h t ih =>
    obtain ⟨h1, h2⟩ := h
    rw [List.filter_cons, List.filter_cons]
    by_cases e : p.1 = k
    · have a : ¬ decide (p.1 ≠ k) = true := by simp [e]
      have b : ¬ decide (q.1 ≠ k) = true := by simp [h1.symm.trans e]
      rw [if_neg a, if_neg b]; exact ih
    · have e' : ¬ q.1 = k := fun z => e (h1.trans z)
      have a : decide (p.1 ≠ k) = true := by simp [e]
      have b : decide (q.1 ≠ k) = true := by simp [e']
      rw [if_pos a, if_pos b]; exact .cons ⟨h1, h2⟩ ih
theorem KV.length {kvs : List (κ × V)} {vs : List (κ × Value)} (r : KV kvs vs) : kvs.length = vs.length := Paired.length r
end
abbrev KT (H : Hp) : List (List Key × V) → List (List Key × Addr × Value) → Prop := Paired fun p q => p.1 = q.1 ∧ H q.2.1 = some (.tup (p.1.map kV)) ∧ RelV p.2 q.2.2
theorem KT.val {H : Hp} {kvs : List (List Key × V)} {xs : List (List Key × Addr × Value)} (r : KT H kvs xs) (k : List Key) : RelO (valV kvs k) ((atKey xs k).map (·.2)) := by
  induction r with
  | nil => exact True.intro
  | @cons p q ps qs h t ih =>
    obtain ⟨h1, _, h2⟩ := h
    by_cases e : p.1 = k
    · have e' : q.1 = k := h1.symm.trans e
      have b : atKey (q :: qs) k = some q.2 := by simp [atKey, List.find?_cons, e']
      rw [valV_pos e, b]; exact h2
    · have e' : ¬ q.1 = k := fun z => e (h1.trans z)
      have b : atKey (q :: qs) k = atKey qs k := by simp [atKey, List.find?_cons, e']
      rw [valV_neg e, b]; exact ih
theorem KT.repl {H : Hp} {kvs : List (List Key × V)} {xs : List (List Key × Addr × Value)} (r : KT H kvs xs) (k : List Key) {y : V} {u : Value} (ry : RelV y u) :
    KT H (kvs.map fun kv => if kv.1 = k then (kv.1, y) else kv) (xs.map (putAt k u)) := by
  induction r with
  | nil => exact .nil
  | @cons p q ps qs h t ih =>
    rw [List.map_cons, List.map_cons]
    refine .cons ?_ ih
    obtain ⟨h1, h2, h3⟩ := h
    unfold putAt
    by_cases e : p.1 = k
    · rw [if_pos e, if_pos (h1.symm.trans e)]; exact ⟨h1, h2, ry⟩
    · rw [if_neg e, if_neg (fun z => e (h1.trans z))]; exact ⟨h1, h2, h3⟩
theorem KT.put {H : Hp} {kvs : List (List Key × V)} {xs : List (List Key × Addr × Value)} (r : KT H kvs xs) (k : List Key) {b : Addr} {y : V} {u : Value} (hb : H b = some (.tup (k.map kV))) (ry : RelV y u) :
    KT H (putK kvs k y) (storedH xs k b u) := by
  have e : (kvs.any fun kv => decide (kv.1 = k)) = (atKey xs k).isSome := by
    rw [valV_any, (r.val k).isSome_eq, Option.isSome_map]
  unfold putK storedH
  rw [e]
  by_cases q : (atKey xs k).isSome = true
  · rw [if_pos q, if_pos q]; exact r.repl k ry
  · rw [if_neg q, if_neg q]; exact Paired.snoc r ⟨rfl, hb, ry⟩
theorem KT.keeps {H H' : Hp} {kvs : List (List Key × V)} {xs : List (List Key × Addr × Value)} (r : KT H kvs xs) (ht : ∀ b ys, H b = some (.tup ys) → H' b = some (.tup ys)) : KT H' kvs xs :=
  Paired.mapP r fun _ _ z => ⟨z.1, ht _ _ z.2.1, z.2.2⟩
section
variable {P : Program} {w : World} {H : Hp} {h : Heap} {a : Addr}
end
def DGet (H : Hp) (a : Addr) (y : V) (r : Option V) : Prop :=
  (∃ kvs k, Rd H a (.dK kvs) ∧ y = kV k ∧ r = valV kvs k) ∨ ∃ kvs k b, Rd H a (.dT kvs) ∧ y = .ref b ∧ H b = some (.tup (k.map kV)) ∧ r = valV kvs k
def DPut (H : Hp) (a : Addr) (y v : V) (H' : Hp) : Prop :=
  (∃ kvs k, H a = some (.dK kvs) ∧ y = kV k ∧ kvs.length < sizeLine ∧ H' = upd H a (.dK (putK kvs k v))) ∨
  ∃ kvs k b, H a = some (.dT kvs) ∧ y = .ref b ∧ H b = some (.tup (k.map kV)) ∧ kvs.length < sizeLine ∧ H' = upd H a (.dT (putK kvs k v))
theorem DGet.k {H : Hp} {a : Addr} {kvs : List (Key × V)} {k : Key} (e : H a = some (.dK kvs)) : DGet H a (kV k) (valV kvs k) := .inl ⟨kvs, k, .inl e, rfl, rfl⟩
theorem DGet.t {H : Hp} {a b : Addr} {kvs : List (List Key × V)} {k : List Key} (e : H a = some (.dT kvs)) (eb : H b = some (.tup (k.map kV))) : DGet H a (.ref b) (valV kvs k) := .inr ⟨kvs, k, b, .inl e, rfl, eb, rfl⟩
theorem DPut.k {H : Hp} {a : Addr} {kvs : List (Key × V)} {k : Key} {v : V} (e : H a = some (.dK kvs)) (hl : kvs.length < sizeLine) : DPut H a (kV k) v (upd H a (.dK (putK kvs k v))) := .inl ⟨kvs, k, e, rfl, hl, rfl⟩
theorem DPut.t {H : Hp} {a b : Addr} {kvs : List (List Key × V)} {k : List Key} {v : V} (e : H a = some (.dT kvs)) (eb : H b = some (.tup (k.map kV))) (hl : kvs.length < sizeLine) :
    DPut H a (.ref b) v (upd H a (.dT (putK kvs k v))) := .inr ⟨kvs, k, b, e, rfl, eb, hl, rfl⟩
section
variable {X : Cx} {pins : List (Addr × Obj)} {σ : St} {H : Hp} {s : Shared} {a : Addr} {y v : V} {u r : Value} {o : Option V} {A : Around} {E : Value → Shared → Prop}
end
section
variable {X : Cx} {pins : List (Addr × Obj)} {σ : St} {H : Hp} {s : Shared} {a : Addr} {kvs : List (Key × V)} {k : Key} {u : Value} {A : Around} {E : Value → Shared → Prop}
end
def tDGet (td ty : TE) : TE := fun σ H Q => td σ H fun x H1 => ty σ H1 fun y H2 => ∃ a v, x = .ref a ∧ DGet H2 a y (some v) ∧ Q v H2
def tDIn (ty td : TE) : TE := fun σ H Q => ty σ H fun y H1 => td σ H1 fun x H2 => ∃ a o, x = .ref a ∧ DGet H2 a y o ∧ Q (.bl o.isSome) H2
def tDNotIn (ty td : TE) : TE := fun σ H Q => ty σ H fun y H1 => td σ H1 fun x H2 => ∃ a o, x = .ref a ∧ DGet H2 a y o ∧ Q (.bl (!o.isSome)) H2
def sDPut (td ty tv : TE) : TS := fun D σ H => tv σ H fun v H1 => td σ H1 fun x H2 => ty σ H2 fun y H3 => ∃ a H4, x = .ref a ∧ DPut H3 a y v H4 ∧ D.nx σ H4
def sDAug (td ty tv : TE) (rd : V → V → Hp → VK → Prop) : TS := fun D σ H => td σ H fun x H1 => ty σ H1 fun y H2 => ∃ a v, x = .ref a ∧ DGet H2 a y (some v) ∧
  tv σ H2 fun y2 H3 => rd v y2 H3 fun z H4 => ∃ H5, DPut H4 a y z H5 ∧ D.nx σ H5
def sDDel (td ty : TE) : TS := fun D σ H => td σ H fun x H1 => ty σ H1 fun y H2 => ∃ a kvs k, x = .ref a ∧ H2 a = some (.dK kvs) ∧ y = kV k ∧ (valV kvs k).isSome = true ∧ D.nx σ (upd H2 a (.dK (dropK kvs k)))
section
variable {X : Cx} {o i e value : Expr} {pos pos' tpos : Pos} {td ty tv : TE}
end
def tDNewK : TE := fun _ H Q => ∀ p, H p = none → Q (.ref p) (upd H p (.dK []))
def tDNewT : TE := fun _ H Q => ∀ p, H p = none → Q (.ref p) (upd H p (.dT []))
section
variable {X : Cx} {pos : Pos}
end
def tPairs : List (TE × TE) → St → Hp → (List (V × V) → Hp → Prop) → Prop
  | [], _, H, Q => Q [] H
  | (tk, tv) :: r, σ, H, Q => tk σ H fun x H1 => tv σ H1 fun y H2 => tPairs r σ H2 fun ps H3 => Q ((x, y) :: ps) H3
def mergeK (kvs more : List (Key × V)) : List (Key × V) := more.foldl (fun acc kv => putK acc kv.1 kv.2) kvs
def tDisp (trs : List (TE × TE)) : TE := fun σ H Q => ∀ p, H p = none → tPairs trs σ (upd H p (.dK [])) fun ps H2 => H2 p = some (.dK []) ∧ ∃ kvs : List (Key × V), ps = kvs.map (fun kv => (kV kv.1, kv.2)) ∧ kvs.length ≤ 15 ∧ Q (.ref p) (upd H2 p (.dK (mergeK [] kvs)))
structure M1 (X : Cx) (o : Expr) (m : Str) (apos : Pos) (e : Expr) (cpos : Pos) : Prop where
  base : attributeBase o m X.env (eval o X.env) = eval o X.env
  few : ((backTo cpos (starEach [e] X.env)).all (fun x => !x.1) && (backToKw cpos (keywordEach [] X.env)).all (fun x => x.1.isSome)
    && decide (([e] : List Expr).length + ([] : List Keyword).length + (if ([] : List Keyword).isEmpty then 0 else 1) < 30)) = true
  line : (apos.endLine == cpos.line) = true
  trees : backTo cpos (starEach [e] X.env) = [(false, eval e X.env)]
structure M2 (X : Cx) (o : Expr) (m : Str) (apos : Pos) (e f : Expr) (cpos : Pos) : Prop where
  base : attributeBase o m X.env (eval o X.env) = eval o X.env
  few : ((backTo cpos (starEach [e, f] X.env)).all (fun x => !x.1) && (backToKw cpos (keywordEach [] X.env)).all (fun x => x.1.isSome)
    && decide (([e, f] : List Expr).length + ([] : List Keyword).length + (if ([] : List Keyword).isEmpty then 0 else 1) < 30)) = true
  line : (apos.endLine == cpos.line) = true
  trees : backTo cpos (starEach [e, f] X.env) = [(false, eval e X.env), (false, eval f X.env)]
def IsD (H : Hp) (a : Addr) : Prop := (∃ kvs, Rd H a (.dK kvs)) ∨ ∃ kvs, Rd H a (.dT kvs)
section
variable {X : Cx} {pins : List (Addr × Obj)} {σ : St} {H : Hp} {s : Shared} {a : Addr} {y d : V} {u r : Value} {o : Option V} {A : Around} {E : Value → Shared → Prop}
end
def tDGet1 (td ty : TE) : TE := fun σ H Q => td σ H fun x H1 => ∃ a, x = .ref a ∧ IsD H1 a ∧ ty σ H1 fun y H2 => ∃ o, DGet H2 a y o ∧ Q (o.getD .non) H2
def tDGet2 (td ty tx : TE) : TE := fun σ H Q => td σ H fun x H1 => ∃ a, x = .ref a ∧ IsD H1 a ∧ ty σ H1 fun y H2 => tx σ H2 fun z H3 => ∃ o, DGet H3 a y o ∧ Q (o.getD z) H3
def tDPop1 (td ty : TE) : TE := fun σ H Q => td σ H fun x H1 => ∃ a, x = .ref a ∧ IsD H1 a ∧ ty σ H1 fun y H2 => ∃ kvs k v, H2 a = some (.dK kvs) ∧ y = kV k ∧ valV kvs k = some v ∧ Q v (upd H2 a (.dK (dropK kvs k)))
def tDPop2 (td ty tx : TE) : TE := fun σ H Q => td σ H fun x H1 => ∃ a, x = .ref a ∧ IsD H1 a ∧ ty σ H1 fun y H2 => tx σ H2 fun z H3 => ∃ kvs k, H3 a = some (.dK kvs) ∧ y = kV k ∧
  (∀ v, valV kvs k = some v → Q v (upd H3 a (.dK (dropK kvs k)))) ∧ (valV kvs k = none → Q z H3)
section
variable {X : Cx} {o e f : Expr} {apos cpos : Pos} {td ty tx : TE}
end
section
variable {X : Cx} {pins : List (Addr × Obj)} {σ : St} {H : Hp} {s : Shared} {a : Addr} {kvs : List (Key × V)} {A : Around} {E : Value → Shared → Prop}
end
section
variable {X : Cx} {pins : List (Addr × Obj)} {σ : St} {H : Hp} {s : Shared} {a : Addr} {y : V} {u : Value} {A : Around} {E : Value → Shared → Prop}
end
end L2
namespace Att
open PySem PySem.W PySem.Calls PyProof.Rows
theorem ints_of_wellAll {P : Params} {h : Heap} : ∀ (ns : List Int) (vs : List Value), WellAll P h vs (ns.map WData.int) → IntsAre vs ns := by
  intro ns
  induction ns with
  | nil =>
    intro vs w
    rw [List.map_nil] at w
    cases w
    exact .nil
  | cons n ns ih =>
    intro vs w
    rw [List.map_cons] at w
    cases w with
    | cons a b =>
      cases a
      exact .cons _ _ (ih _ b)
theorem script_of {l : OpenLaw} {n : Nat} (hn : l.most = some n) {P : Params} {h : Heap} {args : List WData} {vals : List Value}
    (hpre : l.row.toRowW.claim.pre args = true) (hwl : WellAll P h vals args) :
    ∃ a vs ns, vals = [Value.ref a] ∧ args = [WData.list (ns.map WData.int)] ∧ h.get? a = some { cls := .type "list", data := .seq vs.toArray } ∧ IntsAre vs ns ∧ ns.length ≤ n := by
  have hsh : WShape.hasAll [] args [.list .int] = true := (pre_splitW hpre).1
  have hc : l.pre.holds [] { args := args } = true := (pre_splitW hpre).2
  obtain ⟨d, r, rfl, h1, h2⟩ := hasAllW_cons hsh
  obtain rfl := hasAllW_nil h2
  obtain ⟨xs, rfl, h3⟩ := hasW_list h1
  obtain ⟨ns, rfl⟩ := items_int h3
  have hlen : ns.length ≤ n := by
    unfold OpenLaw.pre at hc
    have h4 : (WTm.not (.lt (.lit (.int (n : Int))) (.len (.arg 0)))).holds [] { args := [.list (ns.map .int)] } = true := by
      have h4 := (holds_andW hc).1
      rw [hn] at h4
      exact h4
    have h5 := condW_of h4 (w_not (w_lt w_lit (w_len_list (w_arg rfl))))
    rw [List.length_map] at h5
    refine Nat.le_of_not_lt fun q => ?_
    have q' : (n : Int) < ((ns.length : Nat) : Int) := by omega
    first
      | (rw [decide_eq_true q'] at h5; exact absurd h5 (by decide))
      | (simp at h5; omega)
  cases hwl with
  | cons w1 w2 =>
    cases w2
    cases w1 with
    | list ho hall => exact ⟨_, _, ns, rfl, rfl, ho, ints_of_wellAll ns _ hall, hlen⟩
theorem post_true (l : OpenLaw) (args : List WData) : l.row.toRowW.claim.post args (.bool true) args = true :=
  postW_of (r := l.row.toRowW) (X := (true == true))
    (show WShape.has [] (.bool true) .bool = true by first | rfl | decide | simp [WShape.has, WShape.arms, WShape.armsAll])
    (show (WTm.eq .res (.lit (.bool true))).value [] { args := args, res := some (.bool true), after := args } = some (.bool (true == true)) from w_eq_bool (w_res rfl) w_lit) rfl
theorem attach_call {l : OpenLaw} {n : Nat} {q : Program} {loose : List Str} {XP : (Str → Option Value) → Heap → Prop} {YP : World → Heap → Prop} {d : DefRec}
    (hn : l.most = some n) (hdf : d.params.defaults = [])
    (call : ∀ (w : World) (s₀ s₁ : Shared) (mg mb : Str → Option Value) (fa : Addr) (o : Obj) (pm cd doc : Value) (a : Addr) (vs : List Value) (ns : List Int),
      Ground q loose [] XP w s₀ mg mb s₁.heap → YP w s₁.heap →
      s₁.heap.get? fa = some o → o.data = .func (docDef d.name d.params d.body d.scope pm cd doc) → s₁.heap.CodeRec cd d.name → mg d.name = some (.ref fa) →
      s₁.heap.get? a = some { cls := .type "list", data := .seq vs.toArray } → IntsAre vs ns → ns.length ≤ n → s₁.gens = #[] →
      codeAny (model l.prog w) callerA (.call (.ref fa) ⟨[.ref a], []⟩) (fun r s' => r = .ok (.ret (.bool true)) ∧ OldK s₁.heap s'.heap ∧ s'.os = s₁.os ∧ AllBare s'.gens) s₁) :
    WalkO q loose XP YP l.row.toRowW d [] (fun f vs => PySem.call f vs) := by
  intro w s₀ s₁ mg mb G Y fa o pm cd doc dV kV ho hd hcd hD hmg hg args vals as hpre hlay hrd hwl hlo
  obtain rfl : dV = .none := Dflts.none hD hdf
  obtain rfl : kV = .none := Dflts.noKw hD
  obtain ⟨a, vs, ns, rfl, rfl, hobj, hints, hlen⟩ := script_of hn hpre hwl
  refine enter_call (codeAny_mono (call w s₀ s₁ mg mb fa o pm cd doc a vs ns G Y ho (fd_plain hd) hcd hmg hobj hints hlen hg) fun r s' hq => ?_)
  obtain ⟨rfl, h2, h3, h4⟩ := hq
  exact ⟨.inl ⟨.bool true, .bool true, [], rfl, fun _ => rfl, .bool true, post_true l _, fun _ => ⟨List.Pairwise.nil, fun _ hm => (nomatch hm)⟩⟩, h2, h3, h4⟩
section
variable {prog : Program} {w : World} {A : Around} {E : Value → Shared → Prop} {s : Shared} {K : Frag}
end
end Att
namespace L2
open PySem PySem.Spec PyProof.Rows
theorem vals_ints : ∀ {vs : List Value} {ns : List Int}, IntsAre vs ns → Vals (ns.map V.int) vs
  | _, _, .nil => .nil
  | _, _, .cons n t h => .cons ⟨t, rfl⟩ (vals_ints h)
end L2
namespace L2
open PySem PySem.Spec PyProof.Rows
abbrev KOf {K : PySem.W.Frag} {h : Heap} (_ : K.In h) : PySem.W.Frag := K
end L2
namespace L2
open PySem PySem.Spec PyProof.Rows
def defArgs (s : Stmt) : Arguments := match s with
  | .FunctionDef _ a _ _ _ _ _ _ _ _ => a
  | _ => { posonlyargs := [], args := [], vararg := none, kwonlyargs := [], kw_defaults := [], kwarg := none, defaults := [] }
def defBody (s : Stmt) : List Stmt := match s with
  | .FunctionDef _ _ b _ _ _ _ _ _ _ => b
  | _ => []
def defScope (s : Stmt) : Scope := match s with
  | .FunctionDef _ _ _ _ _ _ sc _ _ _ => sc
  | _ => { kind := .function, names := [], isGenerator := false, isCoroutine := false }
abbrev CX0 : CXT := fun _ _ _ _ _ _ => False
abbrev E0 : XK := fun _ _ _ => False
theorem pass0 {X : Cx} : Passes CX0 X E0 := fun _ _ _ _ _ _ _ h => h.elim
structure Fun (K : PySem.W.Frag) (x qual : Str) (st : Stmt) (f : Addr) (fd : FuncData) : Prop where
  ex : ∃ (oc : Value) (od : Option Addr) (kV doc pm : Value) (an : Option Addr) (cdv ct : Value) (osl : Array (Option Value)),
    fd = PySem.W.fnOf x qual (defArgs st) (defBody st) (defScope st) .none kV doc pm an cdv ct ∧ K.lookup f = some ⟨oc, od, .func fd, osl⟩ ∧ PySem.W.codeIn K cdv qual = true
  kp : PySem.W.keepIn K (.ref f) = true
section
variable {P : Program} {w : World} {K : PySem.W.Frag} {mg : Str → Option Value} {base : Heap}
theorem Fun.ok {x qual : Str} {st : Stmt} {f : Addr} {fd : FuncData} {N ps : List Str} {k : Nat} {sp : Sp} (F : Fun K x qual st f fd) (S : FnScope N ps (defScope st)) (len : ∀ vs H Q E, sp vs H Q E → vs.length = ps.length)
    (hbody : ∀ (cdv : Value) (A : Around) (outer : List Env) (s : Shared) (H : Hp) (vs : List V) (Q : VK) (E : XK), Room k (A.deeper (envOfC qual (defScope st) s.heap.objs.size f cdv)) → sp vs H Q E →
      ∃ t, PSs (cxOf CX0 P w K mg base N qual (defScope st) f cdv A outer s H E).nox (defBody st) t ∧ t { nx := fun _ H' => Q .non H', rt := Q } (start N vs) H) : FnOk P w K mg base CX0 (k + 1) f fd ps sp := by
  obtain ⟨oc, od, kV, doc, pm, an, cdv, ct, osl, rfl, lk, hcd⟩ := F.ex
  refine fn_of lk hcd S len fun A outer s H vs Q E hr hsp => ?_
  obtain ⟨t, h, q⟩ := hbody cdv A outer s H vs Q E hr hsp
  exact ⟨t, h.nox, q⟩
theorem Fun.binds {x qual : Str} {st : Stmt} {f : Addr} {fd : FuncData} {ps : List Str} (F : Fun K x qual st f fd)
    (h : ∀ (kV doc pm : Value) (an : Option Addr) (cdv ct : Value) (us : List Value), us.length = ps.length → bindArgs (PySem.W.fnOf x qual (defArgs st) (defBody st) (defScope st) .none kV doc pm an cdv ct) ⟨us, []⟩ = pure (ps.zip us)) : Binds K fd ps [] := by
  obtain ⟨oc, od, kV, doc, pm, an, cdv, ct, osl, rfl, lk, hcd⟩ := F.ex
  exact .all (h kV doc pm an cdv ct)
theorem fun_mk {x qual : Str} {st : Stmt} {f : Addr} {oc : Value} {od an : Option Addr} {osl : Array (Option Value)} {kV doc pm cdv ct : Value} (l : K.lookup f = some ⟨oc, od, .func (PySem.W.fnOf x qual (defArgs st) (defBody st) (defScope st) .none kV doc pm an cdv ct), osl⟩)
    (c : PySem.W.codeIn K cdv qual = true) (k : PySem.W.keepIn K (.ref f) = true) : Fun K x qual st f (PySem.W.fnOf x qual (defArgs st) (defBody st) (defScope st) .none kV doc pm an cdv ct) := ⟨⟨oc, od, kV, doc, pm, an, cdv, ct, osl, rfl, l, c⟩, k⟩
end
section
variable {X : Cx}
theorem pv (i : Nat) {x : Str} {pos : Pos} (hN : X.N[i]? = some x := by rfl) (hv : Vis X.env.scope x := by first | exact Or.inl rfl | exact Or.inr (Or.inl rfl) | exact Or.inr (Or.inr rfl)) (hd : (x == ("__debug__" : Str)) = false := by decide)
    (hcd : (x == ("__classdict__" : Str)) = false := by decide) : PE X (.Name x pos) (tVar i) := pe_var hN hv hd hcd
end
def Same (H H' : Hp) : Prop := ∀ b o, H b = some o → H' b = some o
theorem Same.refl (H : Hp) : Same H H := fun _ _ h => h
theorem Same.trans {H H1 H2 : Hp} (a : Same H H1) (b : Same H1 H2) : Same H H2 := fun c o h => b c o (a c o h)
theorem Same.free {H H' : Hp} (e : Same H H') {l : Addr} (h : H' l = Option.none) : H l = Option.none := by
  cases q : H l with
  | none => rfl
  | some o =>
    rw [e l o q] at h
    cases h
theorem Same.seq {K : PySem.W.Frag} {H H' : Hp} {a : Addr} {xs : List V} (e : Same H H') (h : SqL K H a xs) : SqL K H' a xs := by
  rcases h with (h | ⟨o, h⟩) | h
  · exact .inl (.inl (e _ _ h))
  · exact .inl (.inr ⟨o, e _ _ h⟩)
  · exact .inr h
section
variable {κ : Type} [DecidableEq κ]
end
end L2
set_option maxHeartbeats 4000000
namespace L2
open PySem PySem.Spec PyProof.Rows
def clOf (cells : List (Str × Addr)) : List (Str × NameKind) → List (Str × Addr) → List (Str × Addr)
  | [], acc => acc
  | (n, k) :: r, acc => if k == .free then (match cells.lookup n with | some c => clOf cells r ((n, c) :: acc) | none => clOf cells r acc) else clOf cells r acc
abbrev Cx.block (X : Cx) (scope : Scope) (C : Addr) (N : List Str) (s : Shared) (H : Hp) (fp : List Addr) : Cx where
  prog := X.prog
  w := X.w
  K := X.K
  mg := X.mg
  base := X.base
  A := X.A
  N := N
  s₀ := s
  H₀ := H
  env := compEnvC scope (clOf X.env.cells scope.names []) C X.env
  outer := X.stack
  stack := X.stack
  ex := fp
  fn := fun _ => false
  calm := X.calm
  pn := []
  xe := fun _ _ => False
structure CScope (env : Env) (scope : Scope) : Prop where
  kind : scope.kind = .function
  nocell : ∀ y ∈ scope.names, y.2 ≠ .cell
  fr : ∀ y ∈ scope.names, y.2 = .free → env.kindOf y.1 = some .cell ∨ env.kindOf y.1 = some .free
  loc : ∀ x ∈ scope.names, x.2 = .local → scope.names.lookup x.1 = some .local
def blk (sel : List (Option Nat)) (σ : St) : St := sel.map fun o => o.bind fun j => (σ[j]?).join
section
variable {X : Cx} {pins : List (Addr × Obj)} {σ : St} {H : Hp} {s : Shared} {scope : Scope} {fp : List Addr} {C : Addr} {N : List Str}
theorem CScope.cells (S : CScope X.env scope) (ok : X.Ok) : ∀ y ∈ scope.names, y.2 = .free → ∃ c, X.env.cells.lookup y.1 = some c := fun y hy e => ok.has y.1 (S.fr y hy e)
end
def PTs (X : Cx) (ifs : List Expr) (t : TT) : Prop :=
  ∀ (pins : List (Addr × Obj)) (s : Shared) (σ : St) (H : Hp) (Q : Bool → Hp → Prop), Inv X pins σ H s → t σ H Q →
    wpAny (model X.prog X.w) X.A (forIn ifs true fun c r => if r = true then do let ok ← isTrue c X.env (eval c X.env); pure (ForInStep.yield ok) else pure (ForInStep.yield r)) (TP X pins σ Q) X.xe s
def tTrue : TT := fun _ H Q => Q true H
def Sub (σ σ' : St) : Prop := σ'.length = σ.length ∧ ∀ (i : Nat) (v : V), σ[i]? = some (some v) → σ'[i]? = some (some v)
theorem Sub.refl (σ : St) : Sub σ σ := ⟨rfl, fun _ _ h => h⟩
theorem Sub.set {σ σ' : St} {i : Nat} {x : Option V} (h : Sub σ σ') (e : σ[i]? = some none) : Sub σ (σ'.set i x) := by
  refine ⟨by rw [List.length_set]; exact h.1, fun j v q => ?_⟩
  have hj : i ≠ j := fun z => by subst z; rw [e] at q; cases q
  rw [List.getElem?_set_ne hj]
  exact h.2 j v q
def CompW (J : It) (g : TG) (tc : TT) (te : TE) (σb : St) (Q : VK) (W : Nat → Nat → List V → Hp → Prop) : Prop := ∀ i m ys H, W i m ys H →
  (J.stop i H ∧ ∀ p, H p = none → Q (.ref p) (upd H p (.lst ys))) ∨
  (J.go i H ∧ ys.length < sizeLine ∧ ∀ x H', J.yld i H x H' → g x σb H' fun σ2 H2 => Sub σb σ2 ∧ tc σ2 H2 fun c H3 => if c = true then te σ2 H3 fun y H4 => ∃ m', m' < m ∧ W (i + 1) m' (ys ++ [y]) H4 else ∃ m', m' < m ∧ W (i + 1) m' ys H3)
def tComp (wi : TI) (g : TG) (tc : TT) (te : TE) (sel : List (Option Nat)) : TE := fun σ H Q => wi σ H fun J H1 => ∃ W : Nat → Nat → List V → Hp → Prop, (∃ m, W 0 m [] H1) ∧ CompW J g tc te (blk sel σ) Q W
section
variable {X : Cx} {elt tg iter : Expr} {ifs : List Expr} {scope : Scope} {pos : Pos} {wi : TI} {g : TG} {tc : TT} {te : TE} {N : List Str} {sel : List (Option Nat)}
structure Blk (X : Cx) (scope : Scope) (N : List Str) (tg elt : Expr) (ifs : List Expr) (g : TG) (tc : TT) (te : TE) : Prop where
  tgt : ∀ C s H fp, PG (X.block scope C N s H fp) tg g
  tests : ∀ C s H fp, PTs (X.block scope C N s H fp) ifs tc
  elem : ∀ C s H fp, PE (X.block scope C N s H fp) elt te
theorem Blk.of {X : Cx} {scope : Scope} {N : List Str} {tg elt : Expr} {ifs : List Expr} {g : TG} {tc : TT} {te : TE} (h1 : ∀ C s H fp, PG (X.block scope C N s H fp) tg g)
    (h2 : ∀ C s H fp, ∃ t, PTs (X.block scope C N s H fp) ifs t ∧ t = tc) (h3 : ∀ C s H fp, ∃ t, PE (X.block scope C N s H fp) elt t ∧ t = te) : Blk X scope N tg elt ifs g tc te :=
  ⟨h1, fun C s H fp => by obtain ⟨t, h, rfl⟩ := h2 C s H fp; exact h, fun C s H fp => by obtain ⟨t, h, rfl⟩ := h3 C s H fp; exact h⟩
end
def CompTurn (Pv : Nat → List V → Hp → Prop) (g : TG) (tc : TT) (te : TE) (σb : St) (i : Nat) (x : V) (ys : List V) (H : Hp) : Prop :=
  ∀ N : List V → Hp → Prop, (∀ ys' H', Pv (i + 1) ys' H' → N ys' H') → g x σb H fun σ2 H2 => Sub σb σ2 ∧ tc σ2 H2 fun c H3 => if c = true then te σ2 H3 fun y H4 => N (ys ++ [y]) H4 else N ys H3
theorem comp_list {K : PySem.W.Frag} {a : Addr} {xs : List V} {g : TG} {tc : TT} {te : TE} {σb : St} {Q : VK} {H : Hp} (Pv : Nat → List V → Hp → Prop) (hz : xs.length ≤ sizeLine) (h0 : Pv 0 [] H) (hl : ∀ i ys H, i ≤ xs.length → Pv i ys H → SqL K H a xs ∧ ys.length ≤ i)
    (hs : ∀ i x ys H, xs[i]? = some x → Pv i ys H → CompTurn Pv g tc te σb i x ys H) (hd : ∀ ys H, Pv xs.length ys H → ∀ p, H p = none → Q (.ref p) (upd H p (.lst ys))) :
    ∃ W : Nat → Nat → List V → Hp → Prop, (∃ m, W 0 m [] H) ∧ CompW (Itl K a) g tc te σb Q W := by
  refine ⟨fun i m ys H => m = xs.length - i ∧ i ≤ xs.length ∧ Pv i ys H, ⟨xs.length, by simp, Nat.zero_le _, h0⟩, ?_⟩
  rintro i m ys H ⟨rfl, hi, p⟩
  have q := (hl i ys H hi p).1
  have hyl := (hl i ys H hi p).2
  by_cases hlt : i < xs.length
  · refine .inr ⟨⟨xs, xs[i], q, by simp [hlt]⟩, by omega, fun x H' y => ?_⟩
    obtain ⟨e, y⟩ := y
    subst e
    exact hs i x ys _ (y xs q) p (fun ys' H' => ∃ m', m' < xs.length - i ∧ m' = xs.length - (i + 1) ∧ i + 1 ≤ xs.length ∧ Pv (i + 1) ys' H') fun ys' H' r => ⟨xs.length - (i + 1), by omega, rfl, hlt, r⟩
  · have e : i = xs.length := by omega
    subst e
    exact .inl ⟨⟨xs, q, Nat.le_refl _⟩, hd ys H p⟩
theorem comp_range {lo : Int} {n : Nat} {g : TG} {tc : TT} {te : TE} {σb : St} {Q : VK} {H : Hp} (Pv : Nat → List V → Hp → Prop) (hz : n ≤ sizeLine) (h0 : Pv 0 [] H) (hl : ∀ i ys H, i ≤ n → Pv i ys H → ys.length ≤ i)
    (hs : ∀ i ys H, i < n → Pv i ys H → CompTurn Pv g tc te σb i (.int (lo + i)) ys H) (hd : ∀ ys H, Pv n ys H → ∀ p, H p = none → Q (.ref p) (upd H p (.lst ys))) :
    ∃ W : Nat → Nat → List V → Hp → Prop, (∃ m, W 0 m [] H) ∧ CompW (Itr lo n) g tc te σb Q W := by
  refine ⟨fun i m ys H => m = n - i ∧ i ≤ n ∧ Pv i ys H, ⟨n, by simp, Nat.zero_le _, h0⟩, ?_⟩
  rintro i m ys H ⟨rfl, hi, p⟩
  have hyl := hl i ys H hi p
  by_cases hlt : i < n
  · refine .inr ⟨hlt, by omega, fun x H' y => ?_⟩
    obtain ⟨e, y⟩ := y
    subst e y
    exact hs i ys _ hlt p (fun ys' H' => ∃ m', m' < n - i ∧ m' = n - (i + 1) ∧ i + 1 ≤ n ∧ Pv (i + 1) ys' H') fun ys' H' r => ⟨n - (i + 1), by omega, rfl, hlt, r⟩
  · have e : i = n := by omega
    subst e
    exact .inl ⟨Nat.le_refl _, hd ys H p⟩
end L2
namespace L2
open PySem PySem.Spec PyProof.Rows
def Its (xs : List V) : It := ⟨fun i _ => i < xs.length, fun i H x H' => H' = H ∧ xs[i]? = some x, fun i _ => xs.length ≤ i⟩
def sign (c : Nat) : Str := ⟨#[c]⟩
def signsV (x : Str) : List V := x.cps.toList.map fun c => V.str (sign c)
section
variable {X : Cx} {tg : Expr}
def iStr (tl : TE) : TI := fun σ H R => tl σ H fun x H1 => ∃ z, x = .str z ∧ R (Its (signsV z)) H1
end
theorem for_its {xs : List V} {g : TG} {tb : TS} {D : Ends} {σ : St} {H : Hp} (Pv : Nat → St → Hp → Prop) (h0 : Pv 0 σ H)
    (hs : ∀ i x σ H, xs[i]? = some x → Pv i σ H → g x σ H fun σ2 H2 => tb { D with nx := Pv (i + 1), ct := Pv (i + 1), bk := D.nx } σ2 H2) (hd : ∀ σ H, Pv xs.length σ H → D.nx σ H) :
    ∃ W : Nat → Nat → St → Hp → Prop, (∃ m, W 0 m σ H) ∧ ∀ i m σ H, W i m σ H →
      ((Its xs).stop i H ∧ D.nx σ H) ∨ ((Its xs).go i H ∧ ∃ N : St → Hp → Prop, (∀ σ' H', N σ' H' → ∃ m', m' < m ∧ W (i + 1) m' σ' H') ∧ ∀ x H', (Its xs).yld i H x H' → g x σ H' fun σ2 H2 => tb { D with nx := N, ct := N, bk := D.nx } σ2 H2) := by
  refine ⟨fun i m σ H => m = xs.length - i ∧ i ≤ xs.length ∧ Pv i σ H, ⟨xs.length, by simp, Nat.zero_le _, h0⟩, ?_⟩
  rintro i m σ H ⟨rfl, hi, p⟩
  by_cases hlt : i < xs.length
  · refine .inr ⟨hlt, Pv (i + 1), fun σ' H' p' => ⟨xs.length - (i + 1), by omega, rfl, hlt, p'⟩, fun x H' y => ?_⟩
    obtain ⟨e, y⟩ := y
    subst e
    exact hs i x σ _ y p
  · have e : i = xs.length := by omega
    subst e
    exact .inl ⟨Nat.le_refl _, hd σ H p⟩
theorem comp_its {xs : List V} {g : TG} {tc : TT} {te : TE} {σb : St} {Q : VK} {H : Hp} (Pv : Nat → List V → Hp → Prop) (hz : xs.length ≤ sizeLine) (h0 : Pv 0 [] H) (hl : ∀ i ys H, i ≤ xs.length → Pv i ys H → ys.length ≤ i)
    (hs : ∀ i x ys H, xs[i]? = some x → Pv i ys H → CompTurn Pv g tc te σb i x ys H) (hd : ∀ ys H, Pv xs.length ys H → ∀ p, H p = none → Q (.ref p) (upd H p (.lst ys))) :
    ∃ W : Nat → Nat → List V → Hp → Prop, (∃ m, W 0 m [] H) ∧ CompW (Its xs) g tc te σb Q W := by
  refine ⟨fun i m ys H => m = xs.length - i ∧ i ≤ xs.length ∧ Pv i ys H, ⟨xs.length, by simp, Nat.zero_le _, h0⟩, ?_⟩
  rintro i m ys H ⟨rfl, hi, p⟩
  have hyl := hl i ys H hi p
  by_cases hlt : i < xs.length
  · refine .inr ⟨hlt, by omega, fun x H' y => ?_⟩
    obtain ⟨e, y⟩ := y
    subst e
    exact hs i x ys _ y p (fun ys' H' => ∃ m', m' < xs.length - i ∧ m' = xs.length - (i + 1) ∧ i + 1 ≤ xs.length ∧ Pv (i + 1) ys' H') fun ys' H' r => ⟨xs.length - (i + 1), by omega, rfl, hlt, r⟩
  · have e : i = xs.length := by omega
    subst e
    exact .inl ⟨Nat.le_refl _, hd ys H p⟩
section
variable {X : Cx}
def rSlS : V → Option Int → Option Int → Hp → VK → Prop := fun x lo hi H Q => ∃ z, x = .str z ∧ z.length ≤ sizeLine ∧ Q (.str (Txt.slice z lo hi)) H
def strsV (ys : List Str) : List V := ys.map V.str
def rJoin (K : PySem.W.Frag) : V → List V → Hp → VK → Prop := fun x vs H Q => ∃ sep p ys, x = .str sep ∧ vs = [.ref p] ∧ SqL K H p (strsV ys) ∧ (ys.map (·.length)).sum + ys.length * sep.length ≤ 16777216 ∧ Q (.str (Txt.join sep ys)) H
end
section
variable {X : Cx}
def rSplit : V → List V → Hp → VK → Prop := fun x vs H Q => ∃ z y, x = .str z ∧ vs = [.str y] ∧ y.length ≠ 0 ∧ z.length + 2 ≤ sizeLine ∧ (Txt.split z y).length ≤ sizeLine ∧ ∀ p, H p = none → Q (.ref p) (upd H p (.lst (strsV (Txt.split z y))))
def rIndexS : V → List V → Hp → VK → Prop := fun x vs H Q => ∃ z y i rest, x = .str z ∧ vs = [.str y] ∧ Builtin.Str.occurrences z y 0 z.length 1 = i :: rest ∧ Q (.int (i : Nat)) H
theorem call_isi : CallR X (.builtin "isinstance") (fun xs H Q => ∃ x T t b, xs = [x, .ty T] ∧ TyOf X.K H x t ∧ PySem.W.kitOne X.K t (.type T) = some b ∧ Q (.bl b) H) := by
  intro pins s σ H xs us Q I r h
  obtain ⟨x, T, t, b, rfl, ty, e, q⟩ := h
  obtain ⟨u, u2, rfl, rx, r2⟩ := vals2 r
  cases r2
  exact isinst_ok I rx ty e fun tk => ⟨.bl b, H, I.tok _, rfl, q⟩
end
end L2
namespace L2
open PySem PySem.Spec PyProof.Rows
def noT : HO → Bool
  | .dT _ => false
  | .frz _ u => noT u
  | _ => true
def NoT (H : Hp) : Prop := ∀ b o, H b = some o → noT o = true
theorem ObjOk.back {P : Program} {w : World} {H H' : Hp} {h h' : Heap} {a : Addr} : ∀ (o : HO), noT o = true → ObjOk P w H' h' a o → ObjOk P w H h a o → ObjOk P w H h' a o
  | .lst _, _, x, _ => x
  | .tup _, _, x, _ => x
  | .dK _, _, x, _ => x
  | .dT _, e, _, _ => absurd e (by unfold noT; decide)
  | .set _ _, _, x, _ => x
  | .ins _ _ _, _, x, y => ⟨y.1, x.2⟩
  | .own _, _, x, _ => x
  | .xd _, _, x, _ => x
  | .met _ _, _, x, _ => x
  | .rng _ _, _, x, _ => x
  | .frz ob u, e, x, y => ⟨x.1, ObjOk.back u (by unfold noT at e; exact e) x.2 y.2⟩
  | .tbl _, _, x, _ => x
  | .ext _, _, x, _ => x
section
variable {P : Program} {w : World} {K : PySem.W.Frag} {mg : Str → Option Value} {base : Heap}
theorem FnOk.forget {k : Nat} {f : Addr} {fd : FuncData} {ps : List Str} {sp sp' : Sp} (F : FnOk P w K mg base CX0 k f fd ps sp)
    (h : ∀ vs H Q E, sp' vs H Q E → NoT H ∧ sp vs H (fun v H' => Same H H' ∧ Q v H) E) : FnOk P w K mg base CX0 k f fd ps sp' := by
  refine ⟨fun vs H Q E q => F.len vs H _ E (h vs H Q E q).2, fun A outer s H args us vs Q E hr he hb hv hs => ?_⟩
  obtain ⟨nt, q⟩ := h vs H Q E hs
  refine codeAny_mono (F.run A outer s H args us vs _ E hr he hb hv q) fun r s' hq => ?_
  cases r with
  | error e => exact hq
  | ok fl =>
    cases fl with
    | next => exact hq
    | brk => exact hq
    | cont => exact hq
    | ret u =>
      obtain ⟨v, H', os, bare, un, hok, rv, sm, q'⟩ := hq
      exact ⟨v, H, os, bare, ⟨un.keep, un.slot, fun _ _ _ n _ => n, un.there, fun _ _ z => z, fun _ _ _ z => z, fun _ ps z => ⟨#[], by rw [z]; simp⟩⟩, fun a o e => (hok a o (sm a o e)).back o (nt a o e) (he.hok a o e), rv, q'⟩
end
theorem same_new {H : Hp} {p : Addr} {o : HO} (h : H p = none) : Same H (upd H p o) := fun b u q => by rw [upd_ne (ne_of_none q h)]; exact q
theorem Same.updN {H H1 : Hp} {p : Addr} {o : HO} (s : Same H H1) (h : H p = none) : Same H (upd H1 p o) := fun b u q => by rw [upd_ne (ne_of_none q h)]; exact s b u q
structure Sc (K : PySem.W.Frag) (a : Addr) (ns : List Int) (H : Hp) : Prop where
  sq : (∃ o, H a = some (.frz o (.lst (ns.map V.int)))) ∨ ∃ (o : Obj) (its : Array Value) (n : Nat), K.lookup a = some o ∧ o.cls = .type "list" ∧ o.dict = none ∧ o.data = .seq its n ∧ its.size ≤ sizeLine ∧ Vals (ns.map V.int) its.toList
  nt : NoT H
section
variable {K : PySem.W.Frag} {a p : Addr} {ns : List Int} {H H' : Hp} {o : HO}
theorem Sc.seq (s : Sc K a ns H) : SqL K H a (ns.map V.int) := by
  rcases s.sq with ⟨o, h⟩ | h
  · exact .inl (.inr ⟨o, h⟩)
  · exact .inr h
theorem Sc.new (s : Sc K a ns H) (hp : H p = none) (ho : noT o = true := by rfl) : Sc K a ns (upd H p o) := by
  refine ⟨?_, fun b u e => ?_⟩
  · rcases s.sq with ⟨ob, h⟩ | h
    · exact .inl ⟨ob, by rw [upd_ne (ne_of_none h hp)]; exact h⟩
    · exact .inr h
  · by_cases hb : b = p
    · subst hb; rw [upd_same] at e; cases e; exact ho
    · rw [upd_ne hb] at e; exact s.nt b u e
theorem Sc.set {u : HO} (s : Sc K a ns H) (hp : H p = some u) (hu : ∀ ob z, u ≠ .frz ob z) (ho : noT o = true := by rfl) : Sc K a ns (upd H p o) := by
  refine ⟨?_, fun b x e => ?_⟩
  · rcases s.sq with ⟨ob, h⟩ | h
    · refine .inl ⟨ob, ?_⟩
      have hne : a ≠ p := fun z => by subst z; rw [hp] at h; exact hu _ _ (Option.some.inj h)
      rw [upd_ne hne]; exact h
    · exact .inr h
  · by_cases hb : b = p
    · subst hb; rw [upd_same] at e; cases e; exact ho
    · rw [upd_ne hb] at e; exact s.nt b x e
end
theorem boot_b_len : bootBuiltins "len" = some (.builtin "len") := PySem.boot_len
theorem boot_b_isinstance : bootBuiltins "isinstance" = some (.builtin "isinstance") := by decide +kernel
theorem boot_t_int : bootBuiltins "int" = some (.type "int") := by decide +kernel
theorem boot_t_bool : bootBuiltins "bool" = some (.type "bool") := by decide +kernel
theorem boot_t_list : bootBuiltins "list" = some (.type "list") := by decide +kernel
theorem Rd.same {H H' : Hp} {a : Addr} {o : HO} (h : Rd H a o) (s : Same H H') : Rd H' a o := by
  rcases h with h | ⟨ob, h⟩
  · exact .inl (s _ _ h)
  · exact .inr ⟨ob, s _ _ h⟩
theorem SqL.same {K : PySem.W.Frag} {H H' : Hp} {a : Addr} {xs : List V} (h : SqL K H a xs) (s : Same H H') : SqL K H' a xs := by
  rcases h with h | h
  · exact .inl (h.same s)
  · exact .inr h
theorem SqT.same {K : PySem.W.Frag} {H H' : Hp} {a : Addr} {xs : List V} (h : SqT K H a xs) (s : Same H H') : SqT K H' a xs := by
  rcases h with h | h
  · exact .inl (h.same s)
  · exact .inr h
theorem NoT.upd {H : Hp} {p : Addr} {o : HO} (h : NoT H) (ho : noT o = true := by rfl) : NoT (upd H p o) := fun b u e => by
  by_cases hb : b = p
  · subst hb; rw [upd_same] at e; cases e; exact ho
  · rw [upd_ne hb] at e; exact h b u e
theorem Sc.same {K : PySem.W.Frag} {a : Addr} {ns : List Int} {H H' : Hp} (s : Sc K a ns H) (sm : Same H H') (nt : NoT H') : Sc K a ns H' := by
  refine ⟨?_, nt⟩
  rcases s.sq with ⟨o, h⟩ | h
  · exact .inl ⟨o, sm _ _ h⟩
  · exact .inr h
end L2
namespace L2
open PySem PySem.Spec PyProof.Rows
structure ClsM (K : PySem.W.Frag) (C : Addr) (m : Str) (f : Addr) : Prop where
  rd : PySem.W.readsIn K C (.type "type") = true
  fd : PySem.W.findCls K (.ref C) (.type "type") m = some (.val (.ref f))
  ga : PySem.W.specialIn K (.ref C) "__getattribute__" = some (some (.builtin "type.__getattribute__"))
  kp : PySem.W.keepIn K (.ref f) = true
structure Virt (P : Program) (w : World) (K : PySem.W.Frag) (mg : Str → Option Value) (base : Heap) (CX : CXT) (k : Nat) (OK : Addr → Prop) (m : Str) (ps : List Str) (SPV : Addr → Sp) : Prop where
  ok : ∀ C, OK C → ∃ f fd, Cls K C ∧ Meth K C m f ∧ FnOk P w K mg base CX k f fd ps (SPV C) ∧ Binds K fd ps []
def tMethV (OK : Addr → Prop) (m : Str) (SPV : Addr → Sp) (E : XK) (ta : TE) (t : TA) : TE := fun σ H Q => ta σ H fun x H1 => ∃ a C dx fs, x = .ref a ∧ H1 a = some (.ins C dx fs) ∧ OK C ∧ fs.lookup m = none ∧
  t σ H1 fun vs H2 => SPV C (x :: vs) H2 Q E
section
variable {X : Cx} {CX : CXT} {k : Nat} {f C : Addr} {fd : FuncData} {ps : List Str} {sp : Sp} {dvs : List V} {ds : List Value} {E : XK} {x m : Str} {p pos apos : Pos} {e o : Expr} {es : List Expr} {ta : TE} {t : TA}
variable {OK : Addr → Prop} {SPV : Addr → Sp}
end
abbrev SVs := List (Str × V)
def tDGetK (kvs : SVs) (ty : TE) : TE := fun σ H Q => ty σ H fun y H1 => ∃ x v, y = .str x ∧ kvs.lookup x = some v ∧ Q v H1
section
variable {X : Cx} {x : Str} {p pos : Pos} {i : Expr} {ty : TE} {u : Value} {kvs : List (Str × V)}
end
def FldAt (K : PySem.W.Frag) (H : Hp) (a : Addr) (f : Str) (v : V) : Prop := ∃ C dx fs, H a = some (.ins C dx fs) ∧ Cls K C ∧ NoAttr K C f ∧ fs.lookup f = some v
end L2
namespace L2
open PySem PySem.Spec PyProof.Rows
def Ite (K : PySem.W.Frag) (a : Addr) : It :=
  ⟨fun i H => ∃ xs x, SqL K H a xs ∧ xs[i]? = some x, fun i H v H' => ∃ p y, H p = none ∧ v = .ref p ∧ (∀ xs, SqL K H a xs → xs[i]? = some y) ∧ H' = upd H p (.tup [.int i, y]), fun i H => ∃ xs, SqL K H a xs ∧ xs.length ≤ i⟩
def Itz (K : PySem.W.Frag) (a b : Addr) : It :=
  ⟨fun i H => ∃ xs ys x y, SqL K H a xs ∧ SqL K H b ys ∧ xs[i]? = some x ∧ ys[i]? = some y,
   fun i H v H' => ∃ p x y, H p = none ∧ v = .ref p ∧ (∀ xs, SqL K H a xs → xs[i]? = some x) ∧ (∀ ys, SqL K H b ys → ys[i]? = some y) ∧ H' = upd H p (.tup [x, y]),
   fun i H => ∃ xs ys, SqL K H a xs ∧ SqL K H b ys ∧ (xs.length ≤ i ∨ ys.length ≤ i)⟩
def Itv (K : PySem.W.Frag) (a : Addr) (n : Nat) : It :=
  ⟨fun i H => i < n ∧ ∃ xs, SqL K H a xs ∧ xs.length = n, fun i H x H' => H' = H ∧ ∀ xs, SqL K H a xs → xs[n - 1 - i]? = some x, fun i _ => n ≤ i⟩
section
variable {X : Cx}
def iEnum (K : PySem.W.Frag) (ta : TA) : TI := fun σ H R => ta σ H fun vs H1 => ∃ a, vs = [.ref a] ∧ (∃ xs, SqL K H1 a xs) ∧ R (Ite K a) H1
def iZip (K : PySem.W.Frag) (ta : TA) : TI := fun σ H R => ta σ H fun vs H1 => ∃ a b, vs = [.ref a, .ref b] ∧ (∃ xs, SqL K H1 a xs) ∧ (∃ ys, SqL K H1 b ys) ∧ R (Itz K a b) H1
def iRev (K : PySem.W.Frag) (ta : TA) : TI := fun σ H R => ta σ H fun vs H1 => ∃ a xs, vs = [.ref a] ∧ SqL K H1 a xs ∧ R (Itv K a xs.length) H1
end
section
variable {X : Cx}
def rInsert : V → List V → Hp → VK → Prop := fun x vs H Q => ∃ l xs i y, x = .ref l ∧ vs = [.int i, y] ∧ H l = some (.lst xs) ∧ 0 ≤ i ∧ i < 2 ^ 62 ∧ i ≤ (xs.length : Int) ∧ xs.length < sizeLine ∧ Q .non (upd H l (.lst (xs.take i.toNat ++ y :: xs.drop i.toNat)))
end
end L2
namespace L2
open PySem PySem.Spec PyProof.Rows
inductive EqH (K : PySem.W.Frag) (H : Hp) : Nat → V → V → Bool → Prop
  | flat {k : Nat} {x y : V} (hx : flatV x = true) (hy : flatV y = true) : EqH K H k x y (eqV x y)
  | lst {k : Nat} {p q : Addr} {xs ys : List V} {e : Nat → Bool} (hp : SqL K H p xs) (hq : SqL K H q ys) (hl : xs.length = ys.length) (he : ∀ (j : Nat) (x y : V), xs[j]? = some x → ys[j]? = some y → EqH K H k x y (e j)) : EqH K H (k + 1) (.ref p) (.ref q) ((List.range xs.length).all e)
  | lstN {k : Nat} {p q : Addr} {xs ys : List V} (hp : SqL K H p xs) (hq : SqL K H q ys) (hl : xs.length ≠ ys.length) : EqH K H (k + 1) (.ref p) (.ref q) false
  | tup {k : Nat} {p q : Addr} {xs ys : List V} {e : Nat → Bool} (hp : SqT K H p xs) (hq : SqT K H q ys) (he : ∀ (j : Nat) (x y : V), xs[j]? = some x → ys[j]? = some y → EqH K H k x y (e j)) : EqH K H (k + 1) (.ref p) (.ref q) ((List.range (min xs.length ys.length)).all e && xs.length == ys.length)
theorem eqV_self {x : V} (h : flatV x = true) : eqV x x = true := by
  cases x <;> first | rfl | (simp [eqV]; done) | cases h
theorem all_of_get {n : Nat} {e : Nat → Bool} (h : ∀ j, j < n → e j = true) : (List.range n).all e = true := by
  rw [List.all_eq_true]
  exact fun j hj => h j (List.mem_range.mp hj)
section
variable {X : Cx} {pins : List (Addr × Obj)} {σ : St} {H : Hp} {s : Shared}
theorem EqH.self (I : Inv X pins σ H s) {k : Nat} {x y : V} {b : Bool} (h : EqH X.K H k x y b) (e : x = y) : b = true := by
  induction h with
  | flat hx hy => subst e; exact eqV_self hx
  | @lst k p q xs ys f hp hq hl he ih =>
    injection e with e
    subst e
    have := I.list_inj hp hq
    subst this
    refine all_of_get fun j hj => ?_
    exact ih j xs[j] xs[j] (List.getElem?_eq_getElem hj) (List.getElem?_eq_getElem hj) rfl
  | lstN hp hq hl =>
    injection e with e
    subst e
    have := I.list_inj hp hq
    subst this
    exact absurd rfl hl
  | @tup k p q xs ys f hp hq he ih =>
    injection e with e
    subst e
    have := I.tuple_inj hp hq
    subst this
    rw [Bool.and_eq_true]
    refine ⟨all_of_get fun j hj => ?_, by simp⟩
    have hj' : j < xs.length := by omega
    exact ih j xs[j] xs[j] (List.getElem?_eq_getElem hj') (List.getElem?_eq_getElem hj') rfl
theorem units_in1 (A : Around) : A.in1.units = A.units + 1 := rfl
theorem eqH_both (I : Inv X pins σ H s) {k : Nat} {x y : V} {b : Bool} (h : EqH X.K H k x y b) : ∀ (A : Around) (v u : Value), A.units + k < cLine → RelV x v → RelV y u →
    SeqAt.EqAt A s v u b ∧ (∀ p q, x = .ref p → y = .ref q → SeqAt.RcAt A s v u b) := by
  induction h with
  | flat hx hy =>
    intro A v u hu rx ry
    refine ⟨eqAt_V rx ry hx hy, fun p q e _ => ?_⟩
    subst e
    cases hx
  | @lst k p q xs ys f hp hq hl he ih =>
    intro A v u hu rx ry
    cases rx
    cases ry
    obtain ⟨its, r, pl, hz⟩ := I.list hp
    obtain ⟨jts, r', pl', hz'⟩ := I.list hq
    have l1 := r.length
    have l2 := r'.length
    have rc : SeqAt.RcAt A s (.ref p) (.ref q) ((List.range xs.length).all f) := by
      have := SeqAt.RcAt.lists (A := A) (e := f) pl.isList pl'.isList (by simp only [List.size_toArray]; omega) (by omega) fun j h1 h2 => by
        simp only [List.size_toArray] at h1 h2
        have hj : j < xs.length := by omega
        have hj' : j < ys.length := by omega
        obtain ⟨a, ha, ra⟩ := r.get (List.getElem?_eq_getElem hj)
        obtain ⟨c, hc, rc⟩ := r'.get (List.getElem?_eq_getElem hj')
        have ea : its.toArray[j] = a := by
          have := List.getElem?_eq_getElem h1
          rw [ha] at this
          simpa using (Option.some.inj this).symm
        have ec : jts.toArray[j] = c := by
          have := List.getElem?_eq_getElem h2
          rw [hc] at this
          simpa using (Option.some.inj this).symm
        rw [ea, ec]
        exact (ih j _ _ (List.getElem?_eq_getElem hj) (List.getElem?_eq_getElem hj') A.in1 a c (by rw [units_in1]; omega) ra rc).1
      rwa [List.size_toArray, ← l1] at this
    refine ⟨?_, fun _ _ _ _ => rc⟩
    by_cases hne : p = q
    · have hb := (EqH.lst hp hq hl he).self I (congrArg V.ref hne)
      rw [hb, hne]
      exact SeqAt.EqAt.same _
    · exact SeqAt.EqAt.of_refs hne rc
  | @lstN k p q xs ys hp hq hl =>
    intro A v u hu rx ry
    cases rx
    cases ry
    obtain ⟨its, r, pl, hz⟩ := I.list hp
    obtain ⟨jts, r', pl', hz'⟩ := I.list hq
    have l1 := r.length
    have l2 := r'.length
    have rc : SeqAt.RcAt A s (.ref p) (.ref q) false := SeqAt.RcAt.lists_lengths pl.isList pl'.isList (by simp only [List.size_toArray, bne_iff_ne, ne_eq]; omega) (by omega)
    refine ⟨SeqAt.EqAt.of_refs (fun e => hl ?_) rc, fun _ _ _ _ => rc⟩
    subst e
    rw [I.list_inj hp hq]
  | @tup k p q xs ys f hp hq he ih =>
    intro A v u hu rx ry
    cases rx
    cases ry
    obtain ⟨its, r, pl, hz⟩ := I.tuple hp
    obtain ⟨jts, r', pl', hz'⟩ := I.tuple hq
    have l1 := r.length
    have l2 := r'.length
    have rc : SeqAt.RcAt A s (.ref p) (.ref q) ((List.range (min xs.length ys.length)).all f && xs.length == ys.length) := by
      have := SeqAt.RcAt.tuples (A := A) (e := f) pl pl' (by omega) fun j h1 h2 => by
        simp only [List.size_toArray] at h1 h2
        have hj : j < xs.length := by omega
        have hj' : j < ys.length := by omega
        obtain ⟨a, ha, ra⟩ := r.get (List.getElem?_eq_getElem hj)
        obtain ⟨c, hc, rc⟩ := r'.get (List.getElem?_eq_getElem hj')
        have ea : its.toArray[j] = a := by
          have := List.getElem?_eq_getElem h1
          rw [ha] at this
          simpa using (Option.some.inj this).symm
        have ec : jts.toArray[j] = c := by
          have := List.getElem?_eq_getElem h2
          rw [hc] at this
          simpa using (Option.some.inj this).symm
        rw [ea, ec]
        exact (ih j _ _ (List.getElem?_eq_getElem hj) (List.getElem?_eq_getElem hj') A.in1 a c (by rw [units_in1]; omega) ra rc).1
      rwa [List.size_toArray, List.size_toArray, ← l1, ← l2] at this
    refine ⟨?_, fun _ _ _ _ => rc⟩
    by_cases hne : p = q
    · have hb := (EqH.tup hp hq he).self I (congrArg V.ref hne)
      rw [hb, hne]
      exact SeqAt.EqAt.same _
    · exact SeqAt.EqAt.of_refs hne rc
end
section
variable {X : Cx} {pins : List (Addr × Obj)} {σ : St} {H : Hp} {s : Shared}
theorem eqH_items (I : Inv X pins σ H s) {k : Nat} {A : Around} {xs ys : List V} {its jts : List Value} {f : Nat → Bool} (hu : A.units + k < cLine) (r : Vals xs its) (r' : Vals ys jts)
    (he : ∀ (j : Nat) (x y : V), xs[j]? = some x → ys[j]? = some y → EqH X.K H k x y (f j)) : ∀ j (h1 : j < its.toArray.size) (h2 : j < jts.toArray.size), SeqAt.EqAt A s its.toArray[j] jts.toArray[j] (f j) := fun j h1 h2 => by
  simp only [List.size_toArray] at h1 h2
  have l1 := r.length
  have l2 := r'.length
  have hj : j < xs.length := by omega
  have hj' : j < ys.length := by omega
  obtain ⟨a, ha, ra⟩ := r.get (List.getElem?_eq_getElem hj)
  obtain ⟨c, hc, rc⟩ := r'.get (List.getElem?_eq_getElem hj')
  have ea : its.toArray[j] = a := by
    have := List.getElem?_eq_getElem h1
    rw [ha] at this
    simpa using (Option.some.inj this).symm
  have ec : jts.toArray[j] = c := by
    have := List.getElem?_eq_getElem h2
    rw [hc] at this
    simpa using (Option.some.inj this).symm
  rw [ea, ec]
  exact (eqH_both I (he j _ _ (List.getElem?_eq_getElem hj) (List.getElem?_eq_getElem hj')) A a c hu ra rc).1
theorem eqH_ne (I : Inv X pins σ H s) {k : Nat} {p q : Addr} {b : Bool} (h : EqH X.K H k (.ref p) (.ref q) b) (A : Around) (hu : A.units + k < cLine) : SeqAt.RcNeAt A s (.ref p) (.ref q) (!b) := by
  cases h with
  | flat hx hy => cases hx
  | @lst k _ _ xs ys f hp hq hl he =>
    obtain ⟨its, r, pl, hz⟩ := I.list hp
    obtain ⟨jts, r', pl', hz'⟩ := I.list hq
    have l1 := r.length
    have l2 := r'.length
    have := SeqAt.RcNeAt.lists (A := A) (e := f) pl.isList pl'.isList (by simp only [List.size_toArray]; omega) (by omega) (eqH_items I (A := A.in1) (k := k) (by rw [units_in1]; omega) r r' he)
    rwa [List.size_toArray, ← l1] at this
  | @lstN k _ _ xs ys hp hq hl =>
    obtain ⟨its, r, pl, hz⟩ := I.list hp
    obtain ⟨jts, r', pl', hz'⟩ := I.list hq
    have l1 := r.length
    have l2 := r'.length
    exact SeqAt.RcNeAt.lists_lengths pl.isList pl'.isList (by simp only [List.size_toArray, bne_iff_ne, ne_eq]; omega) (by omega)
  | @tup k _ _ xs ys f hp hq he =>
    obtain ⟨its, r, pl, hz⟩ := I.tuple hp
    obtain ⟨jts, r', pl', hz'⟩ := I.tuple hq
    have l1 := r.length
    have l2 := r'.length
    have := SeqAt.RcNeAt.tuples (A := A) (e := f) pl pl' (by omega) (eqH_items I (A := A.in1) (k := k) (by rw [units_in1]; omega) r r' he)
    rwa [List.size_toArray, List.size_toArray, ← l1, ← l2] at this
end
section
variable {X : Cx}
def rNeL (K : PySem.W.Frag) : R2 := fun x y H Q => ∃ p q b, x = .ref p ∧ y = .ref q ∧ EqH K H 8 (.ref p) (.ref q) b ∧ Q (.bl (!b)) H
theorem op_neL (hU : X.A.units + 64 < cLine) : OpR X (compareOp .NotEq) (rNeL X.K) := by
  intro pins s σ H x y v u Q I rx ry h
  obtain ⟨p, q, b, rfl, rfl, hE, q'⟩ := h
  cases rx
  cases ry
  exact eqH_ne I hE X.A (by omega) _ _ _ _ ⟨.bl (!b), H, I, rfl, q'⟩
def rEqL (K : PySem.W.Frag) : R2 := fun x y H Q => ∃ p q b, x = .ref p ∧ y = .ref q ∧ EqH K H 8 (.ref p) (.ref q) b ∧ Q (.bl b) H
end
theorem EqH.mono {K : PySem.W.Frag} {H : Hp} {j k : Nat} {x y : V} {b : Bool} (h : EqH K H j x y b) : j ≤ k → EqH K H k x y b := by
  induction h generalizing k with
  | flat hx hy => exact fun _ => .flat hx hy
  | lst hp hq hl he ih =>
    intro hk
    obtain ⟨m, rfl⟩ : ∃ m, k = m + 1 := ⟨k - 1, by omega⟩
    exact .lst hp hq hl fun j x y h1 h2 => ih j x y h1 h2 (by omega)
  | lstN hp hq hl =>
    intro hk
    obtain ⟨m, rfl⟩ : ∃ m, k = m + 1 := ⟨k - 1, by omega⟩
    exact .lstN hp hq hl
  | tup hp hq he ih =>
    intro hk
    obtain ⟨m, rfl⟩ : ∃ m, k = m + 1 := ⟨k - 1, by omega⟩
    exact .tup hp hq fun j x y h1 h2 => ih j x y h1 h2 (by omega)
def oneK : V → V → Bool
  | .int _, .int _ => true
  | .str _, .str _ => true
  | .bl _, .bl _ => true
  | .non, .non => true
  | _, _ => false
theorem oneK_eq {x y : V} (h : oneK x y = true) : flatV x = true ∧ flatV y = true ∧ eqV x y = decide (x = y) := by
  cases x <;> cases y <;> first | (exfalso; simp [oneK] at h; done) | (refine ⟨rfl, rfl, ?_⟩; rfl) | (refine ⟨rfl, rfl, ?_⟩; rw [Bool.eq_iff_iff]; simp [eqV]; done)
theorem EqH.flats {K : PySem.W.Frag} {H : Hp} {k : Nat} {p q : Addr} {xs ys : List V} (hp : SqL K H p xs) (hq : SqL K H q ys) (h : ∀ x ∈ xs, ∀ y ∈ ys, oneK x y = true) : EqH K H (k + 1) (.ref p) (.ref q) (decide (xs = ys)) := by
  by_cases hl : xs.length = ys.length
  · have hd : decide (xs = ys) = (List.range xs.length).all fun j => eqV (xs.getD j .non) (ys.getD j .non) := by
      rw [Bool.eq_iff_iff, decide_eq_true_eq, List.all_eq_true]
      constructor
      · rintro rfl j hj
        have hj' := List.mem_range.mp hj
        have hm : xs.getD j .non ∈ xs := by rw [List.getD_eq_getElem?_getD, List.getElem?_eq_getElem hj']; exact List.getElem_mem hj'
        rw [(oneK_eq (h _ hm _ hm)).2.2, decide_eq_true rfl]
      · intro z
        refine List.ext_getElem hl fun j h1 h2 => ?_
        have := z j (List.mem_range.mpr h1)
        rw [List.getD_eq_getElem?_getD, List.getD_eq_getElem?_getD, List.getElem?_eq_getElem h1, List.getElem?_eq_getElem h2] at this
        have w : eqV xs[j] ys[j] = true := this
        rw [(oneK_eq (h _ (List.getElem_mem h1) _ (List.getElem_mem h2))).2.2, decide_eq_true_eq] at w
        exact w
    rw [hd]
    refine .lst hp hq hl fun j x y h1 h2 => ?_
    have e := oneK_eq (h x (List.mem_of_getElem? h1) y (List.mem_of_getElem? h2))
    rw [List.getD_eq_getElem?_getD, List.getD_eq_getElem?_getD, h1, h2]
    exact .flat e.1 e.2.1
  · rw [decide_eq_false (fun z => hl (by rw [z]))]
    exact .lstN hp hq hl
end L2
namespace L2
open PySem PySem.Spec PyProof.Rows PySem.Builtin PySem.Builtin.ObjectAttr
abbrev bmV : List Value := [.type "ValueError", .type "Exception", .type "BaseException", .type "object"]
def excInI (K : PySem.W.Frag) (C fI : Addr) : Bool :=
  match K.lookup C with
  | some ⟨.type "type", _, .cls cd, sl⟩ =>
    match cd.mro, sl.toList with
    | .ref D :: tl, [_, _, _, _, some (.builtin n), _] =>
      (D == C) && (n == "ValueError.__new__") && (cd.hasDel == false) && (cd.hasDict == true) && PySem.W.tailIn K bmV tl && PySem.W.nsOkIn K cd.ns && (PySem.W.nsIn K cd.ns "__init__" == some (some (.ref fI)))
    | _, _ => false
  | _ => false
section
variable {P : Program} {w : World} {A : Around} {h : Heap} {g : Array GenState} {d : Drawn} {t : Nat} {os : OsState} {K : PySem.W.Frag} {C fI : Addr} {R : Result → Shared → Prop}
end
def overV : List Value → Bool
  | .ref _ :: r => overV r
  | l => l == bmV
structure XCls (K : PySem.W.Frag) (C : Addr) : Prop where
  hd : PySem.W.hasDictIn K C = true
  ov : ((PySem.W.clsIn K C).any fun cd => overV cd.mro) = true
  sa : PySem.W.findIn K (.ref C) "__setattr__" = some (some (.builtin "object.__setattr__"))
  ga : PySem.W.findIn K (.ref C) "__getattribute__" = some (some (.builtin "BaseException.__getattribute__"))
  gt : PySem.W.findIn K (.ref C) "__getattr__" = some none
  ex : ∃ fI, excInI K C fI = true
def XF (x C : Addr) (od : Option Addr) : Heap → Prop := fun h => ∃ vs sl, h.get? x = some ⟨.ref C, od, .fields vs, sl⟩ ∧ 1 < vs.size ∧ vs[1]? = some .none
def XD (dx : Addr) (fs : List (Str × V)) : Heap → Prop := fun h => ∃ mA, h.Ns1 dx mA ∧ (∀ f, RelO (fs.lookup f) (mA f)) ∧ PySem.Within mA (fs.map (·.1))
theorem XF.at {x C : Addr} {od : Option Addr} {h h' : Heap} (z : XF x C od h) (k : ∀ o, h.get? x = some o → h'.get? x = some o) : XF x C od h' := let ⟨vs, sl, e, r⟩ := z; ⟨vs, sl, k _ e, r⟩
theorem XD.at {dx : Addr} {fs : List (Str × V)} {h h' : Heap} (z : XD dx fs h) (k : ∀ o, h.get? dx = some o → h'.get? dx = some o) : XD dx fs h' := let ⟨mA, e, r⟩ := z; ⟨mA, e.at k, r⟩
theorem XF.ok {P : Program} {w : World} {H : Hp} {h : Heap} {x C : Addr} {od : Option Addr} (z : XF x C od h) : ObjOk P w H h x (.ext (XF x C od)) := by
  obtain ⟨vs, sl, e, r⟩ := id z
  exact ⟨z, ⟨_, e⟩, fun h1 h2 q k => q.at k⟩
theorem XD.ok {P : Program} {w : World} {H : Hp} {h : Heap} {dx : Addr} {fs : List (Str × V)} (z : XD dx fs h) : ObjOk P w H h dx (.ext (XD dx fs)) := by
  obtain ⟨mA, ⟨o, es, ep, e, _⟩, _⟩ := id z
  exact ⟨z, ⟨_, e⟩, fun h1 h2 q k => q.at k⟩
section
variable {prog : Program} {w : World} {A : Around} {E : Value → Shared → Prop} {K : PySem.W.Frag} {C x : Addr} {s : Shared} {R : Result → Shared → Prop}
end
section
variable {X : Cx} {pins : List (Addr × Obj)} {σ : St} {H : Hp} {s : Shared} {x C dx : Addr} {fs : List (Str × V)} {f : Str} {y : V} {u : Value} {A : Around} {E : Value → Shared → Prop} {Q : Unit → Shared → Prop}
def XA (x C : Addr) (od : Option Addr) : Heap → Prop := fun h => ∃ vs sl, h.get? x = some ⟨.ref C, od, .fields vs, sl⟩
theorem XA.at {x C : Addr} {od : Option Addr} {h h' : Heap} (z : XA x C od h) (k : ∀ o, h.get? x = some o → h'.get? x = some o) : XA x C od h' := let ⟨vs, sl, e⟩ := z; ⟨vs, sl, k _ e⟩
theorem XA.ok {P : Program} {w : World} {H : Hp} {h : Heap} {x C : Addr} {od : Option Addr} (z : XA x C od h) : ObjOk P w H h x (.ext (XA x C od)) := by
  obtain ⟨vs, sl, e⟩ := id z
  exact ⟨z, ⟨_, e⟩, fun h1 h2 q k => q.at k⟩
end
abbrev TJ := St → Hp → (Hp → Prop) → Prop
def tJ0 : TJ := fun _ H Q => Q H
def tJI (te : TE) (t : TJ) : TJ := fun σ H Q => te σ H fun v H1 => ∃ i, v = .int i ∧ i.natAbs.log2 < 1920 ∧ t σ H1 Q
def tJS (te : TE) (t : TJ) : TJ := fun σ H Q => te σ H fun v H1 => ∃ x, v = .str x ∧ x.length ≤ 1000 ∧ t σ H1 Q
def tJR (te : TE) (t : TJ) : TJ := fun σ H Q => te σ H fun v H1 => ∃ x, v = .str x ∧ x.length ≤ 1000 ∧ (∀ c ∈ x.cps.toList, c < 16 ^ 8) ∧ t σ H1 Q
def tJoined (t : TJ) : TE := fun σ H Q => t σ H fun H1 => ∀ y : Str, Q (.str y) H1
section
variable {X : Cx} {e : Expr} {es : List Expr} {n : Nat} {t : TJ} {te : TE} {pos : Pos}
end
structure ClsB (K : PySem.W.Frag) (L : Addr) (m : Str) : Prop where
  rd : PySem.W.readsIn K L (.type "type") = true
  fd : PySem.W.findCls K (.ref L) (.type "type") m = some (.val (.builtin "ValueError.__init__"))
  ga : PySem.W.specialIn K (.ref L) "__getattribute__" = some (some (.builtin "type.__getattribute__"))
def tXInit (K : PySem.W.Frag) (t : TA) : TE := fun σ H Q => t σ H fun vs H1 => ∃ x C od v, vs = [.ref x, v] ∧ H1 x = some (.ext (XF x C od)) ∧ XCls K C ∧ Q .non H1
section
variable {X : Cx} {L : Addr} {x : Str} {p pos apos : Pos} {e : Expr} {es : List Expr} {t : TA}
end
structure MkX (K : PySem.W.Frag) (C fI : Addr) : Prop where
  e : excInI K C fI = true
  fn : PySem.W.typeIn K (.ref fI) = some (.type "function")
  kp : PySem.W.keepIn K (.ref C) = true
def tMakeX (C : Addr) (sp : Sp) (t : TA) : TE := fun σ H Q => t σ H fun vs H1 => vs.length ≤ sizeLine ∧ ∀ x, H1 x = none → sp (.ref x :: vs) (upd H1 x (.ext (XF x C none))) (fun v H2 => v = .non ∧ Q (.ref x) H2) (fun _ _ _ => False)
def sFldX0 (K : PySem.W.Frag) (ta tv : TE) (f : Str) : TS := fun D σ H => tv σ H fun y H1 => ta σ H1 fun x H2 => ∃ a C, x = .ref a ∧ H2 a = some (.ext (XF a C none)) ∧ XCls K C ∧ NoAttr K C f ∧
  ∀ dx, H2 dx = none → dx ≠ a → D.nx σ (upd (upd H2 a (.ext (XF a C (some dx)))) dx (.ext (XD dx [(f, y)])))
def sFldX1 (K : PySem.W.Frag) (ta tv : TE) (f : Str) : TS := fun D σ H => tv σ H fun y H1 => ta σ H1 fun x H2 => ∃ a C dx fs, x = .ref a ∧ H2 a = some (.ext (XF a C (some dx))) ∧ H2 dx = some (.ext (XD dx fs)) ∧ XCls K C ∧ NoAttr K C f ∧ fs.length < 1000 ∧
  D.nx σ (upd H2 dx (.ext (XD dx (putF f y fs))))
def tFldX (K : PySem.W.Frag) (ta : TE) (f : Str) : TE := fun σ H Q => ta σ H fun x H1 => ∃ a C dx fs v, x = .ref a ∧ H1 a = some (.ext (XA a C (some dx))) ∧ H1 dx = some (.ext (XD dx fs)) ∧ XCls K C ∧ NoAttr K C f ∧ fs.lookup f = some v ∧ Q v H1
section
variable {X : Cx} {k : Nat} {f C : Addr} {fd : FuncData} {ps : List Str} {sp : Sp} {x g : Str} {p pos pos' apos : Pos} {e o value : Expr} {es : List Expr} {ta tv : TE} {t : TA}
end
end L2
namespace L2
open PySem PySem.Spec PyProof.Rows PySem.Builtin PySem.Builtin.ObjectAttr
def FlA (x C : Addr) (od : Option Addr) (T : Addr) (fl : Value) (h : Heap) : Prop :=
  T ≠ x ∧ ∃ vs sl oT ts, h.get? x = some ⟨.ref C, od, .fields vs, sl⟩ ∧ vs[1]? = some (.ref T) ∧ h.get? T = some oT ∧ oT.data = .fields ts ∧ ts[3]? = some fl
structure Kp (fs : List Addr) (x : Addr) (To : Option Addr) (h h' : Heap) : Prop where
  keep : ∀ b o, h.get? b = some o → b ∉ fs → b ≠ x → some b ≠ To → h'.get? b = some o
  slot : ∀ b o, h.get? b = some o → b ∈ fs → ∃ sl, h'.get? b = some { o with slots := sl }
  there : ∀ b o, h.get? b = some o → ∃ o', h'.get? b = some o'
section
variable {M : Model} {A : Around} {E : Value → Shared → Prop} {s : Shared}
theorem nofr {base h : Heap} {l : List Env} {b : Addr} {o : Obj} {vs : Array Value} (hl : h.FunFrames base l) (e : h.get? b = some o) (d : o.data = .fields vs) : b ∉ frs l := fun hm => by
  obtain ⟨_, o', e', nf⟩ := hl.mem hm
  rw [e] at e'
  cases e'
  exact nf vs d
end
section
variable {P : Program} {w : World} {H : Hp} {h h' : Heap} {fs : List Addr} {x C T : Addr} {od : Option Addr} {fl : Value} {To : Option Addr} {o : HO}
theorem Kp.hok (k : Kp fs x To h h') (ok : HOk P w H h) (hfs : ∀ b ∈ fs, H b = none) (hT : ∀ t, To = some t → H t = none) (mu : Mut (H x)) (new : XA x C od h') : HOk P w (upd H x (.ext (XA x C od))) h' := fun b u q => by
  have nown : ∀ c y, H c = some (.own y) → c ≠ x := fun c y r z => by subst z; rw [r] at mu; exact mu
  have ntup : ∀ c xs, H c = some (.tup xs) → c ≠ x := fun c xs r z => by subst z; rw [r] at mu; exact mu
  have kk : ∀ c v, c ≠ x → H c ≠ none → h.get? c = some v → h'.get? c = some v := fun c v n1 n2 r => k.keep c v r (fun z => n2 (hfs c z)) n1 fun z => n2 (hT c z.symm)
  by_cases hb : b = x
  · subst hb; rw [upd_same] at q; cases q; exact new.ok
  · rw [upd_ne hb] at q
    refine (ok b u q).stay (fun c v hc r => ?_) (fun c r => by rw [upd_ne (nown c b r)]; exact r) fun c xs r => by rw [upd_ne (ntup c xs r)]; exact r
    rcases hc with rfl | hc
    · exact kk c v hb (by rw [q]; exact fun z => by cases z) r
    · exact kk c v (nown c b hc) (by rw [hc]; exact fun z => by cases z) r
theorem Kp.un (k : Kp fs x To h h') (hT : ∀ t, To = some t → H t = none) (mu : Mut (H x)) : Un fs To.toList H (upd H x o) h h' := by
  have hx : ∀ b, H b = none → b ≠ x := fun b n z => by subst z; rw [n] at mu; exact mu
  have hm : ∀ b u, H b = some u → ¬ Mut (some u) → b ≠ x := fun b u q nm z => by subst z; rw [q] at mu; exact nm mu
  refine ⟨fun b u q n n1 n2 => k.keep b u q n1 (hx b n) fun z => n2 (by rw [← z]; simp), fun b u q n n1 n2 => k.slot b u q n1, fun b u q n _ => by rw [upd_ne (hx b n)]; exact n, fun b u q _ => k.there b u q,
    fun b xs q => by rw [upd_ne (hm b _ q fun z => z)]; exact q, fun b u xs q => by rw [upd_ne (hm b _ q fun z => z)]; exact q, fun b ps q => ⟨#[], by rw [upd_ne (hm b _ q fun z => z), q]; simp⟩⟩
end
def CX1 (P : Program) (w : World) : CXT := fun outer H s E e s' =>
  ∃ x C od H' T, e = .ref x ∧ s'.os = s.os ∧ AllBare s'.gens ∧ Un (frs outer) [] H H' s.heap s'.heap ∧ HOk P w H' s'.heap ∧ H' x = some (.ext (XA x C od)) ∧ s.heap.objs.size ≤ T ∧ H' T = none ∧ FlA x C od T .none s'.heap ∧ E (.ref C) od H'
structure Fr1 (X : Cx) : Prop where
  st : X.stack = X.env :: X.outer
  fr : X.env.frame = some X.env.locals
def NewT (X : Cx) (pins : List (Addr × Obj)) (T : Addr) : Prop := (T ∈ X.ex ∨ X.s₀.heap.objs.size ≤ T) ∧ T ≠ X.env.locals ∧ (∀ x c, X.env.cells.lookup x = some c → c ≠ T) ∧ ∀ p ∈ X.pn ++ pins, p.1 ≠ T
section
variable {X : Cx} {pins : List (Addr × Obj)} {σ : St} {H : Hp} {s : Shared} {T x C : Addr} {od : Option Addr} {E : St → XK} {M : Model} {A : Around} {E' : Value → Shared → Prop} {Q : Unit → Shared → Prop} {e fl : Value} {h' : Heap}
end
section
variable {P : Program} {w : World} {K : PySem.W.Frag} {mg : Str → Option Value} {base : Heap} {N : List Str} {qual : Str} {scope : Scope} {f : Addr} {cd : Value} {A : Around} {outer : List Env} {s : Shared} {H : Hp} {E : XK}
end
def tCallX (sp : Sp) (dvs : List V) (E : St → XK) (t : TA) : TE := fun σ H Q => t σ H fun vs H1 => sp (vs ++ dvs) H1 Q (E σ)
def tMethX (C : Addr) (m : Str) (sp : Sp) (dvs : List V) (E : St → XK) (ta : TE) (t : TA) : TE := fun σ H Q => ta σ H fun x H1 => ∃ a dx fs, x = .ref a ∧ H1 a = some (.ins C dx fs) ∧ fs.lookup m = none ∧
  t σ H1 fun vs H2 => sp (x :: (vs ++ dvs)) H2 Q (E σ)
section
variable {X : Cx} {CX : CXT} {k : Nat} {f C : Addr} {fd : FuncData} {ps : List Str} {sp : Sp} {dvs : List V} {ds : List Value} {E : St → XK} {x m : Str} {p pos apos : Pos} {e o : Expr} {es : List Expr} {ta : TE} {t : TA}
end
abbrev Cx.tr (X : Cx) (pn : List (Addr × Obj)) (E : Value → Shared → Prop) : Cx := { X with pn := X.pn ++ pn, xe := E }
abbrev Cx.hn (X : Cx) (e : Value) : Cx := { X with A := X.A.mark (some e), calm := false, xe := fun _ _ => False }
section
variable {X : Cx} {pins pins' : List (Addr × Obj)} {σ : St} {H : Hp} {s : Shared} {E : Value → Shared → Prop} {e : Value}
theorem Cx.Ok.tr (ok : X.Ok) (pn : List (Addr × Obj)) (E : Value → Shared → Prop) : (X.tr pn E).Ok :=
  ⟨ok.mod, ok.kind, ok.glob, ok.blt, ok.above, ok.inj, ok.has, ok.cab, ok.hd, ok.frames, ok.stk, ok.exf, ok.bs, ok.bsz, ok.noex, ok.exfs, ok.funs, ok.frf⟩
theorem Cx.Ok.hn (ok : X.Ok) (e : Value) : (X.hn e).Ok :=
  ⟨ok.mod, ok.kind, ok.glob, ok.blt, ok.above, ok.inj, ok.has, ok.cab, (fun z => Bool.noConfusion z), ok.frames, ok.stk, ok.exf, ok.bs, ok.bsz, ok.noex, ok.exfs, ok.funs, ok.frf⟩
theorem Inv.tr (I : Inv X pins σ H s) (E : Value → Shared → Prop) : Inv (X.tr pins E) [] σ H s := ⟨I.ok.tr pins E, I.os, I.bare, I.base, I.loc, I.cell, I.free, I.freeC, fun p hp => I.pin p (by simpa using hp), I.hok, I.len⟩
theorem Inv.hn (I : Inv X pins σ H s) (e : Value) : Inv (X.hn e) pins σ H s := ⟨I.ok.hn e, I.os, I.bare, I.base, I.loc, I.cell, I.free, I.freeC, I.pin, I.hok, I.len⟩
end
def Ends.gone (D : Ends) (i : Nat) : Ends := { nx := fun σ H => D.nx (σ.set i none) H, rt := D.rt, bk := fun σ H => D.bk (σ.set i none) H, ct := fun σ H => D.ct (σ.set i none) H }
def eHan (K : PySem.W.Frag) (c : Addr) (i : Nat) (th : TS) (D : Ends) : St → XK := fun σ C od H => ∃ C', C = .ref C' ∧ PySem.W.exmOne K C (.ref c) = some true ∧ ∀ x, H x = some (.ext (XA x C' od)) → th (D.gone i) (σ.set i (some (.ref x))) H
def sTry (K : PySem.W.Frag) (c : Addr) (i : Nat) (tb : (St → XK) → TS) (th : TS) : TS := fun D σ H => tb (eHan K c i th D) D σ H
section
variable {X : Cx} {body suite : List Stmt} {b0 : Stmt} {x n : Str} {c : Addr} {i : Nat} {tb : (St → XK) → TS} {th : TS} {xp hp pos : Pos}
end
theorem sTry_ap (K : PySem.W.Frag) (c : Addr) (i : Nat) (tb : (St → XK) → TS) (th : TS) (D : Ends) (σ : St) (H : Hp) : sTry K c i tb th D σ H = tb (eHan K c i th D) D σ H := rfl
theorem eHan_ap (K : PySem.W.Frag) (c : Addr) (i : Nat) (th : TS) (D : Ends) (σ : St) (C : Value) (od : Option Addr) (H : Hp) :
    eHan K c i th D σ C od H = ∃ C', C = .ref C' ∧ PySem.W.exmOne K C (.ref c) = some true ∧ ∀ x, H x = some (.ext (XA x C' od)) → th (D.gone i) (σ.set i (some (.ref x))) H := rfl
theorem gone_nx (D : Ends) (i : Nat) (σ : St) (H : Hp) : (D.gone i).nx σ H = D.nx (σ.set i none) H := rfl
theorem gone_rt (D : Ends) (i : Nat) (v : V) (H : Hp) : (D.gone i).rt v H = D.rt v H := rfl
theorem OwnTail.has {h : Heap} {bm tl : List Value} {v : Value} (T : OwnTail h bm tl) (e : bm.contains v = true) : tl.contains v = true := by
  induction T with
  | base => exact e
  | own _ _ _ _ ih => rw [List.contains_cons, ih, Bool.or_true]
def sRaise (K : PySem.W.Frag) (E : St → XK) (te : TE) : TS := fun D σ H => te σ H fun v H1 => ∃ x C od, v = .ref x ∧ H1 x = some (.ext (XF x C od)) ∧ XCls K C ∧ E σ (.ref C) od (upd H1 x (.ext (XA x C od)))
section
variable {X : Cx} {e : Expr} {te : TE} {pos : Pos} {E : St → XK}
theorem PS.nox {X : Cx} {st : Stmt} {t : TS} (h : PS X.nox st t) : PS X st t := fun pins s σ H D I hw =>
  wpAny_mono (h pins s σ H D (I.wish _) hw) (fun _ _ q => q.unwish) fun _ _ z => False.elim z
end
def xeB (B : Cx) (E : XK) (e : Value) (s' : Shared) : Prop :=
  ∃ pins fl σ' H' x C od T, e = .ref x ∧ Inv B pins σ' H' s' ∧ H' x = some (.ext (XA x C od)) ∧ H' T = none ∧ NewT B pins T ∧ B.s₀.heap.objs.size ≤ T ∧ FlA x C od T fl s'.heap ∧ E (.ref C) od H'
structure BlkX (X : Cx) (scope : Scope) (N : List Str) (tg elt : Expr) (ifs : List Expr) (g : TG) (tc : TT) (te : XK → TE) : Prop where
  tgt : ∀ E C s H fp, PG ((X.block scope C N s H fp).wish (xeB (X.block scope C N s H fp) E)) tg g
  tests : ∀ E C s H fp, PTs ((X.block scope C N s H fp).wish (xeB (X.block scope C N s H fp) E)) ifs tc
  elem : ∀ E C s H fp, PE ((X.block scope C N s H fp).wish (xeB (X.block scope C N s H fp) E)) elt (te E)
theorem BlkX.of {X : Cx} {scope : Scope} {N : List Str} {tg elt : Expr} {ifs : List Expr} {g : TG} {tc : TT} {te : XK → TE} (h1 : ∀ E C s H fp, PG ((X.block scope C N s H fp).wish (xeB (X.block scope C N s H fp) E)) tg g)
    (h2 : ∀ E C s H fp, ∃ t, PTs ((X.block scope C N s H fp).wish (xeB (X.block scope C N s H fp) E)) ifs t ∧ t = tc) (h3 : ∀ E C s H fp, ∃ t, PE ((X.block scope C N s H fp).wish (xeB (X.block scope C N s H fp) E)) elt t ∧ t = te E) : BlkX X scope N tg elt ifs g tc te :=
  ⟨h1, fun E C s H fp => by obtain ⟨t, h, rfl⟩ := h2 E C s H fp; exact h, fun E C s H fp => by obtain ⟨t, h, e⟩ := h3 E C s H fp; rw [← e]; exact h⟩
def CompR0 (J : It) (g : TG) (tc : TT) (te : TE) (σb : St) (Q : VK) (H : Hp) : Prop := ∃ W : Nat → Nat → List V → Hp → Prop, (∃ m, W 0 m [] H) ∧ CompW J g tc te σb Q W
def tCompX (wi : TI) (g : TG) (tc : TT) (te : XK → TE) (sel : List (Option Nat)) (E : St → XK) : TE := fun σ H Q => wi σ H fun J H1 => CompR0 J g tc (te (E σ)) (blk sel σ) Q H1
section
variable {X : Cx} {elt tg iter : Expr} {ifs : List Expr} {scope : Scope} {pos : Pos} {wi : TI} {g : TG} {tc : TT} {te : XK → TE} {N : List Str} {sel : List (Option Nat)}
end
structure IsiC (K : PySem.W.Frag) (C : Addr) : Prop where
  cl : Cls K C
  ha : PySem.W.findIn K (.ref C) "__class__" = some (some (.builtin "object.__class__"))
  hn : PySem.W.specialIn K (.builtin "object.__class__") "__get__" = some (some (.builtin "getset_descriptor.__get__"))
  htk : PySem.W.takesIn K (.builtin "object.__class__") = some true
  hm : PySem.W.mroIn K C (.type "object") = some true
theorem IsiC.ty {K : PySem.W.Frag} {H : Hp} {C a dx : Addr} {fs : List (Str × V)} (c : IsiC K C) (e : H a = some (.ins C dx fs)) : TyOf K H (.ref a) (.ref C) := .ins e c.cl c.ha c.hn c.htk c.hm
end L2
namespace L2
open PySem PySem.Spec PyProof.Rows
def Itd (hi : Int) (n : Nat) : It := ⟨fun i _ => i < n, fun i H x H' => H' = H ∧ x = .int (hi - i), fun i _ => n ≤ i⟩
section
variable {X : Cx} {tg : Expr}
def iRngD (ta : TA) : TI := fun σ H R => ta σ H fun vs H1 => ∃ i j : Int, vs = [.int i, .int j, .int (-1)] ∧ (-1073741824 ≤ i ∧ i < 1073741824 ∧ -1073741824 ≤ j ∧ j < 1073741824) ∧ R (Itd i (i - j).toNat) H1
end
section
variable {prog : Program} {w : World} {A : Around} {E : Value → Shared → Prop} {s : Shared} {it l : Addr} {items : Array Value}
end
section
variable {X : Cx}
def tListRev (K : PySem.W.Frag) (ta : TA) : TE := fun σ H Q => ta σ H fun vs H1 => ∃ a xs, vs = [.ref a] ∧ SqL K H1 a xs ∧ ∀ l, H1 l = none → Q (.ref l) (upd H1 l (.lst xs.reverse))
end
section
variable {prog : Program} {w : World} {A : Around} {R : Result → Shared → Prop} {I : Addr} {fp wr : List Addr} {n : Nat} {P : Nat → Value → Prop} {St : Nat → Heap → Prop}
end
section
variable {prog : Program} {w : World} {A : Around} {E : Value → Shared → Prop} {s : Shared}
end
section
variable {X : Cx}
def tMinD (K : PySem.W.Frag) (ta : TA) (td : TE) : TE := fun σ H Q => ta σ H fun vs H1 => td σ H1 fun y H2 => ∃ l ks, vs = [.ref l] ∧ SqL K H2 l (List.map V.int ks) ∧ Q (match ks.min? with | some m => .int m | none => y) H2
end
end L2
namespace L2
open PySem PySem.Spec PyProof.Rows
structure IsiX (K : PySem.W.Frag) (C : Addr) : Prop where
  x : XCls K C
  ha : PySem.W.findIn K (.ref C) "__class__" = some (some (.builtin "object.__class__"))
  hn : PySem.W.specialIn K (.builtin "object.__class__") "__get__" = some (some (.builtin "getset_descriptor.__get__"))
  htk : PySem.W.takesIn K (.builtin "object.__class__") = some true
  hm : PySem.W.mroIn K C (.type "object") = some true
section
variable {prog : Program} {w : World} {A : Around} {E : Value → Shared → Prop} {s : Shared} {K : PySem.W.Frag} {x C : Addr} {od : Obj} {dx : Addr} {vs : Array Value} {sl : Array (Option Value)}
end
def rInR (K : PySem.W.Frag) (neg : Bool) : R2 := fun x y H Q => ∃ p qs f, y = .ref p ∧ SqL K H p (List.map V.ref qs) ∧ (∀ q ∈ qs, EqH K H 8 (.ref q) x (f q)) ∧ Q (.bl (if neg then !(qs.any f) else qs.any f)) H
section
variable {X : Cx}
end
theorem FnOk.quiet {P : Program} {w : World} {K : PySem.W.Frag} {mg : Str → Option Value} {base : Heap} {k : Nat} {f : Addr} {fd : FuncData} {ps : List Str} {sp sp' : Sp} (F : FnOk P w K mg base (CX1 P w) k f fd ps sp)
    (h : ∀ vs H Q E, sp' vs H Q E → sp vs H Q (fun _ _ _ => False)) : FnOk P w K mg base CX0 k f fd ps sp' := by
  refine ⟨fun vs H Q E q => F.len vs H _ _ (h vs H Q E q), fun A outer s H args us vs Q E hr he hb hv hs => ?_⟩
  refine codeAny_mono (F.run A outer s H args us vs Q _ hr he hb hv (h vs H Q E hs)) fun r s' hq => ?_
  cases r with
  | error e =>
    obtain ⟨x, C, od, H', T, _, _, _, _, _, _, _, _, _, z⟩ := hq
    exact z.elim
  | ok fl => cases fl <;> exact hq
end L2
namespace L2
open PySem PySem.Spec PyProof.Rows
structure RoomH (k : Nat) (A : Around) : Prop where
  dp : A.depth + 3 * k + 5 < recursionLimit
  un : A.units + 16 * k + 200 < cLine
theorem Room.h {k : Nat} {A : Around} (r : Room k A) : RoomH k A := ⟨r.dp, r.un⟩
theorem RoomH.mono {j k : Nat} {A : Around} (r : RoomH k A) (h : j ≤ k) : RoomH j A := ⟨by have := r.dp; omega, by have := r.un; omega⟩
theorem RoomH.deeper {k : Nat} {A : Around} (r : RoomH (k + 1) A) (env : Env) : RoomH k (A.deeper env) :=
  ⟨by have := r.dp; show A.depth + 1 + 3 * k + 5 < _; omega, by have := r.un; show A.units + 3 + 16 * k + 200 < _; omega⟩
theorem RoomH.depth {k : Nat} {A : Around} (r : RoomH k A) : A.depth < recursionLimit := by have := r.dp; omega
theorem RoomH.units {k : Nat} {A : Around} (r : RoomH k A) : A.units + 64 < cLine := by have := r.un; omega
theorem Room.hn {k : Nat} {X : Cx} {e : Value} (r : Room k X.A) : RoomH k (X.hn e).A := ⟨r.dp, r.un⟩
structure FnOkH (P : Program) (w : World) (K : PySem.W.Frag) (mg : Str → Option Value) (base : Heap) (CX : CXT) (k : Nat) (f : Addr) (fd : FuncData) (ps : List Str) (sp : Sp) : Prop where
  len : ∀ vs H Q E, sp vs H Q E → vs.length = ps.length
  run : ∀ (A : Around) (outer : List Env) (s : Shared) (H : Hp) (args : Args) (us : List Value) (vs : List V) (Q : VK) (E : XK), RoomH k A → Env0 P w K mg base A outer s H → BindsTo s fd args (ps.zip us) → Vals vs us → sp vs H Q E →
    codeAny (model P w) A (.call (.ref f) args) (CR CX outer P w H s Q E) s
theorem FnOkH.mono {P : Program} {w : World} {K : PySem.W.Frag} {mg : Str → Option Value} {base : Heap} {CX : CXT} {j k : Nat} {f : Addr} {fd : FuncData} {ps : List Str} {sp : Sp} (F : FnOkH P w K mg base CX j f fd ps sp) (h : j ≤ k) :
    FnOkH P w K mg base CX k f fd ps sp := ⟨F.len, fun A outer s H args us vs Q E hr => F.run A outer s H args us vs Q E (hr.mono h)⟩
section
variable {X : Cx} {CX : CXT} {k : Nat} {f C : Addr} {fd : FuncData} {ps : List Str} {sp : Sp} {dvs : List V} {ds : List Value} {E : XK} {x m : Str} {p pos apos : Pos} {e o : Expr} {es : List Expr} {ta : TE} {t : TA}
end
def cxOfH (CX : CXT) (P : Program) (w : World) (K : PySem.W.Frag) (mg : Str → Option Value) (base : Heap) (N : List Str) (qual : Str) (scope : Scope) (f : Addr) (cd : Value) (A : Around) (outer : List Env) (s : Shared) (H : Hp) (E : XK) : Cx where
  prog := P
  w := w
  K := K
  mg := mg
  base := base
  A := A.deeper (envOfC qual scope s.heap.objs.size f cd)
  N := N
  s₀ := s
  H₀ := H
  env := envOfC qual scope s.heap.objs.size f cd
  outer := outer
  stack := envOfC qual scope s.heap.objs.size f cd :: outer
  ex := []
  calm := false
  fn := fun _ => true
  pn := []
  xe := fun e s' => wpAny (model P w) (A.deeper (envOfC qual scope s.heap.objs.size f cd)) (leaving (envOfC qual scope s.heap.objs.size f cd) e) (fun _ s'' => CX outer H s E e s'') (fun e' s'' => CX outer H s E e' s'') s'
section
variable {P : Program} {w : World} {K : PySem.W.Frag} {mg : Str → Option Value} {base : Heap}
end
end L2
namespace L2
open PySem PySem.Spec PyProof.Rows
section
variable {X : Cx}
end
end L2
namespace L2
open PySem PySem.Spec PyProof.Rows
section
variable {α : Type} {M : List α → Prop}
theorem us1 (h : ∀ a, M [a]) : ∀ us : List α, us.length = 1 → M us | [a], _ => h a
theorem us2 (h : ∀ a b, M [a, b]) : ∀ us : List α, us.length = 2 → M us | [a, b], _ => h a b
theorem us3 (h : ∀ a b c, M [a, b, c]) : ∀ us : List α, us.length = 3 → M us | [a, b, c], _ => h a b c
end
structure XB (K : PySem.W.Frag) (C : Addr) : Prop where
  hd : PySem.W.hasDictIn K C = true
  ov : ((PySem.W.clsIn K C).any fun cd => overV cd.mro) = true
  sa : PySem.W.findIn K (.ref C) "__setattr__" = some (some (.builtin "object.__setattr__"))
  ga : PySem.W.findIn K (.ref C) "__getattribute__" = some (some (.builtin "BaseException.__getattribute__"))
  gt : PySem.W.findIn K (.ref C) "__getattr__" = some none
structure IB (K : PySem.W.Frag) (C : Addr) : Prop where
  ha : PySem.W.findIn K (.ref C) "__class__" = some (some (.builtin "object.__class__"))
  hn : PySem.W.specialIn K (.builtin "object.__class__") "__get__" = some (some (.builtin "getset_descriptor.__get__"))
  htk : PySem.W.takesIn K (.builtin "object.__class__") = some true
  hm : PySem.W.mroIn K C (.type "object") = some true
end L2
namespace L2
open PySem PySem.Spec PyProof.Rows
section
variable {X : Cx}
def rIndexL (K : PySem.W.Frag) : V → List V → Hp → VK → Prop := fun x vs H Q => ∃ l ks k, x = .ref l ∧ vs = [.int k] ∧ SqL K H l (List.map V.int ks) ∧ k ∈ ks ∧ ks.length ≤ 1000 ∧ Q (.int (ks.idxOf k : Nat)) H
end
end L2
namespace L2
open PySem PySem.Spec PyProof.Rows
def KeyW (p d : Addr) : Heap → Prop := fun h => PySem.W.KdlKeysView h p d
def ValW (p d : Addr) : Heap → Prop := fun h => h.IsValuesView p d
theorem KeyW.ok {P : Program} {w : World} {H : Hp} {h : Heap} {p d : Addr} (z : KeyW p d h) : ObjOk P w H h p (.ext (KeyW p d)) :=
  ⟨z, let ⟨o, ho, _⟩ := z; ⟨o, ho⟩, fun _ _ z1 k => let ⟨o, ho, x⟩ := z1; ⟨o, k o ho, x⟩⟩
theorem ValW.ok {P : Program} {w : World} {H : Hp} {h : Heap} {p d : Addr} (z : ValW p d h) : ObjOk P w H h p (.ext (ValW p d)) :=
  ⟨z, let ⟨o, ho, _⟩ := z; ⟨o, ho⟩, fun _ _ z1 k => let ⟨o, ho, x⟩ := z1; ⟨o, k o ho, x⟩⟩
section
variable {X : Cx}
def rKeys : V → List V → Hp → VK → Prop := fun x vs H Q => ∃ d kvs, x = .ref d ∧ vs = [] ∧ H d = some (.dK kvs) ∧ ∀ p, H p = none → Q (.ref p) (upd H p (.ext (KeyW p d)))
def rVals : V → List V → Hp → VK → Prop := fun x vs H Q => ∃ d kvs, x = .ref d ∧ vs = [] ∧ H d = some (.dK kvs) ∧ ∀ p, H p = none → Q (.ref p) (upd H p (.ext (ValW p d)))
def rIndexT (K : PySem.W.Frag) : V → List V → Hp → VK → Prop := fun x vs H Q => ∃ l ys k j, x = .ref l ∧ vs = [.str k] ∧ SqL K H l (strsV ys) ∧ ys[j]? = some k ∧ (∀ m, m < j → ys[m]? ≠ some k) ∧ ys.length ≤ 1000 ∧ Q (.int (j : Nat)) H
end
end L2
namespace L2
open PySem PySem.Spec PyProof.Rows
abbrev TF := St → Hp → Str → (Str → Hp → Prop) → Prop
def tF0 : TF := fun _ H acc Q => acc.length ≤ sizeLine ∧ Q acc H
def tFC (c : Str) (t : TF) : TF := fun σ H acc Q => acc.length + c.length ≤ sizeLine ∧ t σ H (acc ++ c) Q
def tFI (te : TE) (t : TF) : TF := fun σ H acc Q => te σ H fun v H1 => ∃ i, v = .int i ∧ i.natAbs.log2 < 1920 ∧ acc.length + (Str.ofString (toString i)).length ≤ sizeLine ∧ t σ H1 (acc ++ Str.ofString (toString i)) Q
def tFS (te : TE) (t : TF) : TF := fun σ H acc Q => te σ H fun v H1 => ∃ x, v = .str x ∧ x.length ≤ 1000 ∧ acc.length + x.length ≤ sizeLine ∧ t σ H1 (acc ++ x) Q
def tJoinF (t : TF) : TE := fun σ H Q => t σ H Str.empty fun y H1 => Q (.str y) H1
section
variable {X : Cx} {e : Expr} {es : List Expr} {t : TF} {te : TE} {pos : Pos}
end
end L2
namespace L2
open PySem PySem.Spec PyProof.Rows
def RngW (p : Addr) (a b c : Int) : Heap → Prop := fun h => ∃ t u v, IsRange h p a b c t u v
theorem RngW.ok {P : Program} {w : World} {H : Hp} {h : Heap} {p : Addr} {a b c : Int} (z : RngW p a b c h) : ObjOk P w H h p (.ext (RngW p a b c)) :=
  ⟨z, let ⟨_, _, _, e⟩ := z; ⟨_, e⟩, fun _ _ z1 k => let ⟨t, u, v, e⟩ := z1; ⟨t, u, v, k _ e⟩⟩
section
variable {X : Cx}
end
end L2
namespace L2
open PySem PySem.Spec PyProof.Rows
def LamF (f : Addr) (qual : Str) (params : Arguments) (body : Expr) (scope : Scope) (clos : List (Str × Addr)) (c' : Addr) : Heap → Prop :=
  fun h => ∃ pm ctv, h.get? f = some (PySem.W.kla_obj "<lambda>" qual params body scope clos pm c' ctv)
def CodR (c : Addr) (qual : Str) : Heap → Prop := fun h => h.CodeRec (.ref c) qual
def CelO (c : Addr) (v : V) : Heap → Prop := fun h => ∃ u, RelV v u ∧ h.IsCell c (some u)
def Tab (H : Hp) (Pt : Addr) (pos : Pos) (qual : Str) : Prop :=
  ∃ ps, H Pt = some (.tbl ps) ∧ (ps = #[] ∨ ∃ c', ps = #[rawInt pos.line, rawInt pos.col, .ref c'] ∧ H c' = some (.ext (CodR c' qual)))
def SameP (Pt : Addr) (H H' : Hp) : Prop := ∀ b o, b ≠ Pt → H b = some o → H' b = some o
theorem SameP.refl (Pt : Addr) (H : Hp) : SameP Pt H H := fun _ _ _ h => h
theorem SameP.trans {Pt : Addr} {H H1 H2 : Hp} (a : SameP Pt H H1) (b : SameP Pt H1 H2) : SameP Pt H H2 := fun c o n h => b c o n (a c o n h)
theorem Same.p {Pt : Addr} {H H' : Hp} (s : Same H H') : SameP Pt H H' := fun b o _ h => s b o h
theorem Tab.ne {H : Hp} {Pt b : Addr} {pos : Pos} {qual : Str} {o : HO} (t : Tab H Pt pos qual) (h : H b = some o) (ho : ∀ ps, o ≠ .tbl ps) : b ≠ Pt := fun e => by
  obtain ⟨ps, e1, _⟩ := t
  subst e
  rw [e1] at h
  exact ho ps (Option.some.inj h).symm
theorem Tab.step {H H' : Hp} {Pt : Addr} {pos : Pos} {qual : Str} (t : Tab H Pt pos qual) (s : Same H H') : Tab H' Pt pos qual := by
  obtain ⟨ps, e, d⟩ := t
  refine ⟨ps, s _ _ e, ?_⟩
  rcases d with d | ⟨c', d, e'⟩
  · exact .inl d
  · exact .inr ⟨c', d, s _ _ e'⟩
theorem ext_lam {P : Program} {w : World} {H : Hp} {h : Heap} {f c' : Addr} {qual : Str} {params : Arguments} {body : Expr} {scope : Scope} {clos : List (Str × Addr)} {pm ctv : Value}
    (e : h.get? f = some (PySem.W.kla_obj "<lambda>" qual params body scope clos pm c' ctv)) : ObjOk P w H h f (.ext (LamF f qual params body scope clos c')) :=
  ⟨⟨pm, ctv, e⟩, ⟨_, e⟩, fun _ _ ⟨p, c, e1⟩ k => ⟨p, c, k _ e1⟩⟩
theorem ext_cod {P : Program} {w : World} {H : Hp} {h : Heap} {c : Addr} {qual : Str} (e : h.CodeRec (.ref c) qual) : ObjOk P w H h c (.ext (CodR c qual)) := by
  refine ⟨e, ?_, fun h1 h2 x k => ?_⟩
  · obtain ⟨c2, o, vs, t, e1, e2, _⟩ := e
    cases e1
    exact ⟨o, e2⟩
  · obtain ⟨c2, o, vs, t, e1, e2, e3, e4⟩ := x
    cases e1
    exact ⟨_, o, vs, t, rfl, k o e2, e3, e4⟩
theorem ext_cel {P : Program} {w : World} {H : Hp} {h : Heap} {c : Addr} {v : V} {u : Value} (r : RelV v u) (e : h.IsCell c (some u)) : ObjOk P w H h c (.ext (CelO c v)) := by
  refine ⟨⟨u, r, e⟩, ?_, fun h1 h2 x k => ?_⟩
  · obtain ⟨o, e1, _⟩ := e
    exact ⟨o, e1⟩
  · obtain ⟨u', r', o, e1, e2⟩ := x
    exact ⟨u', r', o, k o e1, e2⟩
structure LamT (X : Cx) (c Pt : Addr) : Prop where
  code : X.env.code = .ref c
  hd : PySem.W.CodeHd X.base c Pt
  bm : X.base.BuiltinsAt X.mg Pt
theorem triple1 {a b : Int} {v : Value} : TriplesOk [rawInt a, rawInt b, v] := True.intro
theorem among1 {pos : Pos} {v : Value} : codeAmong pos [rawInt pos.line, rawInt pos.col, v] = some v := by
  have := codeAmong_snoc (pos := pos) (c := v) [] True.intro rfl
  simpa using this
section
variable {X : Cx} {pins : List (Addr × Obj)} {σ : St} {H : Hp} {s : Shared} {params : Arguments} {body : Expr} {scope : Scope} {pos : Pos} {c Pt : Addr} {clos : List (Str × Addr)} {Q : Value → Shared → Prop}
theorem lam_ok (I : Inv X pins σ H s) (T : LamT X c Pt) (tb : Tab H Pt pos (X.env.qual ++ "<lambda>")) (hcl : closureFor scope X.env = pure clos) (hdef : defaultsOf params X.env = ([], []))
    (h : ∀ f c' H1 s1, Inv X pins σ H1 s1 → SameP Pt H H1 → (NoT H → NoT H1) → Tab H1 Pt pos (X.env.qual ++ "<lambda>") → H1 f = some (.ext (LamF f (X.env.qual ++ "<lambda>") params body scope clos c')) → H1 c' = some (.ext (CodR c' (X.env.qual ++ "<lambda>"))) → H f = none → Q (.ref f) s1) :
    wpAny (model X.prog X.w) X.A (eval (.Lambda params body scope pos) X.env) Q X.xe s := by
  refine PySem.W.kla_eval hdef ?_
  obtain ⟨ps, eP, d⟩ := tb
  have hP : s.heap.get? Pt = some (PySem.W.tabObj ps) := I.hok _ _ eP
  have hns : s.heap.Ns mainGlobals X.mg := I.mod.glob.keeps I.bk
  have hC := T.hd.keeps I.bk
  have hgP : mainGlobals ≠ Pt := fun q => by
    obtain ⟨o, es, ep, e, hd, _⟩ := hns
    rw [q, hP] at e; cases e; cases hd
  have hB : s.heap.BuiltinsAt X.mg Pt := by
    obtain ⟨bm, o, h1, h2, h3, h4, h5, h6⟩ := T.bm
    exact ⟨bm, o, h1, h2, h3, h4, I.bk _ _ h5, h6⟩
  rcases d with rfl | ⟨c', rfl, ec⟩
  · refine PySem.W.kla_makeFunction (mg := X.mg) hcl I.ok.glob hns T.code hC hP True.intro rfl hgP hB fun c' ctv h' tk hx hge hlt hrec htb => ?_
    have nc : H c' = none := I.hok.fresh hge
    have nf : H h'.objs.size = none := I.hok.fresh (Nat.le_trans hge (Nat.le_of_lt hlt))
    have hcf : c' ≠ h'.objs.size := Nat.ne_of_lt hlt
    have hPc : Pt ≠ c' := fun z => by rw [z, nc] at eP; cases eP
    have hPf : Pt ≠ h'.objs.size := fun z => by rw [z, nf] at eP; cases eP
    have put : ∀ b o, b ≠ Pt → H b = some o → upd (upd (upd H Pt (.tbl (#[] ++ #[rawInt pos.line, rawInt pos.col, .ref c']))) c' (.ext (CodR c' (X.env.qual ++ "<lambda>")))) h'.objs.size (.ext (LamF h'.objs.size (X.env.qual ++ "<lambda>") params body scope clos c')) b = some o := fun b o n e => by
      rw [upd_ne (fun z => by rw [z, nf] at e; cases e), upd_ne (fun z => by rw [z, nc] at e; cases e), upd_ne n]; exact e
    have eP1 : upd (upd (upd H Pt (.tbl (#[] ++ #[rawInt pos.line, rawInt pos.col, .ref c']))) c' (.ext (CodR c' (X.env.qual ++ "<lambda>")))) h'.objs.size (.ext (LamF h'.objs.size (X.env.qual ++ "<lambda>") params body scope clos c')) Pt = some (.tbl (#[] ++ #[rawInt pos.line, rawInt pos.col, .ref c'])) := by
      rw [upd_ne hPf, upd_ne hPc, upd_same]
    have ec1 : upd (upd (upd H Pt (.tbl (#[] ++ #[rawInt pos.line, rawInt pos.col, .ref c']))) c' (.ext (CodR c' (X.env.qual ++ "<lambda>")))) h'.objs.size (.ext (LamF h'.objs.size (X.env.qual ++ "<lambda>") params body scope clos c')) c' = some (.ext (CodR c' (X.env.qual ++ "<lambda>"))) := by
      rw [upd_ne hcf, upd_same]
    have ef1 : upd (upd (upd H Pt (.tbl (#[] ++ #[rawInt pos.line, rawInt pos.col, .ref c']))) c' (.ext (CodR c' (X.env.qual ++ "<lambda>")))) h'.objs.size (.ext (LamF h'.objs.size (X.env.qual ++ "<lambda>") params body scope clos c')) h'.objs.size = some (.ext (LamF h'.objs.size (X.env.qual ++ "<lambda>") params body scope clos c')) := upd_same
    have non : ∀ b, b ≠ Pt → b ≠ c' → b ≠ h'.objs.size → upd (upd (upd H Pt (.tbl (#[] ++ #[rawInt pos.line, rawInt pos.col, .ref c']))) c' (.ext (CodR c' (X.env.qual ++ "<lambda>")))) h'.objs.size (.ext (LamF h'.objs.size (X.env.qual ++ "<lambda>") params body scope clos c')) b = H b := fun b n1 n2 n3 => by
      rw [upd_ne n3, upd_ne n2, upd_ne n1]
    have nt1 : NoT H → NoT (upd (upd (upd H Pt (.tbl (#[] ++ #[rawInt pos.line, rawInt pos.col, .ref c']))) c' (.ext (CodR c' (X.env.qual ++ "<lambda>")))) h'.objs.size (.ext (LamF h'.objs.size (X.env.qual ++ "<lambda>") params body scope clos c'))) := fun n => n.upd.upd.upd
    generalize upd (upd (upd H Pt (.tbl (#[] ++ #[rawInt pos.line, rawInt pos.col, .ref c']))) c' (.ext (CodR c' (X.env.qual ++ "<lambda>")))) h'.objs.size (.ext (LamF h'.objs.size (X.env.qual ++ "<lambda>") params body scope clos c')) = H1 at put eP1 ec1 ef1 non nt1
    have kp : ∀ b o, b ≠ Pt → s.heap.get? b = some o → (h'.push (PySem.W.kla_obj "<lambda>" (X.env.qual ++ "<lambda>") params body scope clos ((X.mg "__name__").getD .none) c' ctv)).get? b = some o := fun b o n e => Heap.get?_push_of_some _ (hx b o n e)
    have nPt : ∀ b, H b = none → b ≠ Pt := fun b n z => by rw [z, eP] at n; cases n
    have u : Un X.fs [] H H1 s.heap (h'.push (PySem.W.kla_obj "<lambda>" (X.env.qual ++ "<lambda>") params body scope clos ((X.mg "__name__").getD .none) c' ctv)) := by
      refine ⟨fun b o e n _ _ => kp b o (nPt b n) e, fun b o e n _ _ => ⟨o.slots, kp b o (nPt b n) e⟩, fun b o e n _ => ?_, fun b o e _ => ?_, fun b xs e => put b _ (fun z => by rw [z, eP] at e; cases e) e, fun b o x e => put b _ (fun z => by rw [z, eP] at e; cases e) e, fun b ps e => ?_⟩
      · have hb := Heap.lt_size e
        rw [non b (nPt b n) (Nat.ne_of_lt (Nat.lt_of_lt_of_le hb hge)) (Nat.ne_of_lt (Nat.lt_of_lt_of_le hb (Nat.le_trans hge (Nat.le_of_lt hlt))))]
        exact n
      · by_cases hb : b = Pt
        · subst hb; exact ⟨_, Heap.get?_push_of_some _ htb⟩
        · exact ⟨o, kp b o hb e⟩
      · by_cases hb : b = Pt
        · subst hb
          rw [eP] at e; cases e
          exact ⟨_, eP1⟩
        · exact ⟨#[], by rw [put b _ hb e]; simp⟩
    have hok : HOk X.prog X.w H1 (h'.push (PySem.W.kla_obj "<lambda>" (X.env.qual ++ "<lambda>") params body scope clos ((X.mg "__name__").getD .none) c' ctv)) := fun b o e => by
      by_cases h1 : b = Pt
      · subst h1
        rw [eP1] at e; cases e
        exact Heap.get?_push_of_some _ htb
      by_cases h2 : b = c'
      · subst h2
        rw [ec1] at e; cases e
        refine ext_cod ?_
        obtain ⟨c2, o, vs, t, e1, e2, e3⟩ := hrec
        exact ⟨c2, o, vs, t, e1, Heap.get?_push_of_some _ e2, e3⟩
      by_cases h3 : b = h'.objs.size
      · subst h3
        rw [ef1] at e; cases e
        exact ext_lam (Heap.get?_push_size _ rfl)
      rw [non b h1 h2 h3] at e
      refine (I.hok b o e).stay (fun d v hd q => kp d v ?_ q) (fun d q => put d _ (fun z => by rw [z, eP] at q; cases q) q) fun d xs q => put d _ (fun z => by rw [z, eP] at q; cases q) q
      rcases hd with z | z
      · rw [z]; exact h1
      · intro z2
        rw [z2, eP] at z; cases z
    exact h _ c' H1 _ (I.un (t' := tk) u hok) (fun b o n e => put b o n e) nt1 ⟨_, eP1, .inr ⟨c', by simp, ec1⟩⟩ ef1 ec1 nf
  · refine PySem.W.kla_makeFunctionHit (mg := X.mg) hcl I.ok.glob hns T.code hC hP triple1 among1 hB fun ctv h' tk hk hsz => ?_
    have nf : H h'.objs.size = none := I.hok.fresh hsz
    have I1 : Inv X pins σ (upd H h'.objs.size (.ext (LamF h'.objs.size (X.env.qual ++ "<lambda>") params body scope clos c'))) { s with heap := h'.push (PySem.W.kla_obj "<lambda>" (X.env.qual ++ "<lambda>") params body scope clos ((X.mg "__name__").getD .none) c' ctv), toks := tk } :=
      I.laid (t' := tk) (fun b o e => Heap.get?_push_of_some _ (hk b o e)) hsz (ext_lam (Heap.get?_push_size _ rfl))
    have sm := same_new (o := .ext (LamF h'.objs.size (X.env.qual ++ "<lambda>") params body scope clos c')) nf
    exact h _ c' _ _ I1 sm.p (fun n => n.upd) ⟨_, sm _ _ eP, .inr ⟨c', rfl, sm _ _ ec⟩⟩ upd_same (sm _ _ ec) nf
end
section
variable {P : Program} {w : World} {K : PySem.W.Frag} {mg : Str → Option Value} {base : Heap}
theorem Fun.okLam {x qual : Str} {st : Stmt} {f : Addr} {fd : FuncData} {N ps : List Str} {k : Nat} {sp : Sp} {c Pt : Addr} {i : Nat} {y : Str} {st1 : Stmt} {params : Arguments} {lbody : Expr} {lscope : Scope} {lpos rpos : Pos} {cc : Nat → Addr}
    (F : Fun K x qual st f fd) (S : FnScope N ps (defScope st)) (len : ∀ vs H Q E, sp vs H Q E → vs.length = ps.length) (hb : defBody st = [st1, .Return (some (.Lambda params lbody lscope lpos)) rpos])
    (hcode : fd.code = .ref c) (hC : PySem.W.CodeHd base c Pt) (hB : base.BuiltinsAt mg Pt) (hN : N[i]? = some y) (hy : (defScope st).names.lookup y = some .cell) (hdef : ∀ env, defaultsOf params env = ([], []))
    (hcl : ∀ L cdv, closureFor lscope (envOfC qual (defScope st) L f cdv) = pure [(y, cc L)]) (hcc : ∀ L cdv, (envOfC qual (defScope st) L f cdv).cells.lookup y = some (cc L))
    (hbody : ∀ (cdv : Value) (A : Around) (outer : List Env) (s : Shared) (H : Hp) (vs : List V) (Q : VK) (E : XK), Room k (A.deeper (envOfC qual (defScope st) s.heap.objs.size f cdv)) → sp vs H Q E →
      ∃ t, PS (cxOf CX0 P w K mg base N qual (defScope st) f cdv A outer s H E).nox st1 t ∧
        t { nx := fun σ1 H1 => ∃ v, σ1[i]? = some (some v) ∧ Tab H1 Pt lpos (qual ++ ".<locals>." ++ "<lambda>") ∧
          ∀ g cl c' H2, SameP Pt H1 H2 → (NoT H1 → NoT H2) → Tab H2 Pt lpos (qual ++ ".<locals>." ++ "<lambda>") → H2 g = some (.ext (LamF g (qual ++ ".<locals>." ++ "<lambda>") params lbody lscope [(y, cl)] c')) → H2 c' = some (.ext (CodR c' (qual ++ ".<locals>." ++ "<lambda>"))) → H2 cl = some (.ext (CelO cl v)) → Q (.ref g) H2
            rt := fun _ _ => False } (start N vs) H) : FnOk P w K mg base CX0 (k + 1) f fd ps sp := by
  obtain ⟨oc, od, kV, doc, pm, an, cdv, ct, osl, rfl, lk, hcd⟩ := F.ex
  refine ⟨len, fun A outer s H args us vs Q E hr e0 hbd r hsp => ?_⟩
  have hl := len _ _ _ _ hsp
  have KX : K.In s.heap := e0.mod.kin.keeps fun b o e => (e0.bs b o e).1
  have lim : s.heap.NoLimit := e0.mod.nolimit.keeps fun b o e => (e0.bs b o e).1
  have hkind : ∀ z ∈ ps.zip us, (defScope st).names.lookup z.1 = some .local ∨ ((defScope st).names.lookup z.1 = some .cell ∧ ((cellsFrom (s.heap.objs.size + 1) (defScope st).names []).lookup z.1).isSome = true) := fun ⟨n, v⟩ hz => by
    rcases S.par n (List.of_mem_zip hz).1 with q | q
    · exact .inl q
    · exact .inr ⟨q, PySem.W.cellsFrom_some _ _ _ (.inl q)⟩
  refine codeAny_call_function hr.depth (KX _ _ lk) rfl S.co S.gen rfl (PySem.W.codeRec_of KX hcd) (hbd _ _ _ _ ?_)
  refine wpAny_newFunctionEnv_cells S.kind hkind fun env he s1 xx => ?_
  subst he
  refine ⟨lim.keeps xx.toInCall.keep, codeAny_func ?_⟩
  obtain ⟨t, ht, hq⟩ := hbody cdv A outer s H vs Q E (hr.deeper _) hsp
  have I : Inv (cxOf CX0 P w K mg base N qual (defScope st) f cdv A outer s H E) [] (start N vs) H s1 := inv_start S hr.hd e0 hl r xx
  rw [hb]
  refine wpAny_execs_cons (wpAny_mono (ht [] s1 (start N vs) H _ (I.wish _) hq) (fun fl s2 q2 => ?_) fun _ _ z => False.elim z)
  cases fl with
  | ret u => obtain ⟨_, _, _, _, _, z⟩ := q2; exact z.elim
  | brk => obtain ⟨_, _, _, z⟩ := q2; exact z.elim
  | cont => obtain ⟨_, _, _, z⟩ := q2; exact z.elim
  | next =>
    obtain ⟨σ1, H1, I1, v, ev, tb, q⟩ := q2
    have I2 := I1.unwish
    refine wpAny_execs_cons (wpAny_Return_some ?_)
    refine lam_ok (c := c) (Pt := Pt) (X := cxOf CX0 P w K mg base N qual (defScope st) f cdv A outer s H E) I2 ⟨hcode, hC, hB⟩ tb (hcl _ _) (hdef _) fun g c' H2 s3 J sm nt2 tb2 eg ec nf => ?_
    obtain ⟨m, hn, hlk⟩ := J.loc
    obtain ⟨u, ru, lo⟩ := hlk i y v hN ev (.inr (.inl hy))
    have hk : (cxOf CX0 P w K mg base N qual (defScope st) f cdv A outer s H E).env.kindOf y = some .cell := hy
    rcases lo with ⟨k1, _⟩ | ⟨_, cl, e1, e2⟩
    · rw [hk] at k1; cases k1
    have ecl : cl = cc s.heap.objs.size := Option.some.inj (e1.symm.trans (hcc _ _))
    subst ecl
    have n2 : H2 (cc s.heap.objs.size) = none := J.freeC y _ e1
    have hge : s.heap.objs.size ≤ cc s.heap.objs.size := J.ok.cab y _ rfl e1
    have ncP : cc s.heap.objs.size ≠ Pt := fun z => by
      obtain ⟨ps', e', _⟩ := tb2
      rw [← z, n2] at e'; cases e'
    have sc := same_new (o := .ext (CelO (cc s.heap.objs.size) v)) n2
    refine ⟨.ref g, upd H2 (cc s.heap.objs.size) (.ext (CelO (cc s.heap.objs.size) v)), J.os, J.bare, ⟨J.base.keep, J.base.slot, fun b o e n hx => ?_, J.base.there, fun b xs e => sc _ _ (J.base.tups b xs e), fun b o z e => sc _ _ (J.base.frzs b o z e), fun b pz e => ?_⟩, fun b o e => ?_, rfl, ?_⟩
    · rw [upd_ne (Nat.ne_of_lt (Nat.lt_of_lt_of_le (Heap.lt_size e) hge))]
      exact J.base.free b o e n hx
    · obtain ⟨mo, e'⟩ := J.base.tbls b pz e
      exact ⟨mo, sc _ _ e'⟩
    · by_cases hbc : b = cc s.heap.objs.size
      · subst hbc
        rw [upd_same] at e; cases e
        exact ext_cel ru e2
      · rw [upd_ne hbc] at e
        exact (J.hok b o e).stay (fun _ _ _ z => z) (fun d z => sc _ _ z) fun d xs z => sc _ _ z
    · refine q g (cc s.heap.objs.size) c' _ (sm.trans sc.p) (fun n => (nt2 n).upd) (tb2.step sc) (sc _ _ eg) (sc _ _ ec) upd_same
end
def delH (H : Hp) (c : Addr) : Hp := fun b => if b = c then none else H b
theorem del_same {H : Hp} {c : Addr} : delH H c c = none := if_pos rfl
theorem del_ne {H : Hp} {b c : Addr} (h : b ≠ c) : delH H c b = H b := if_neg h
theorem upd_del {H : Hp} {c : Addr} {o : HO} (h : H c = some o) : upd (delH H c) c o = H := by
  funext b
  by_cases e : b = c
  · subst e; rw [upd_same, h]
  · rw [upd_ne e, del_ne e]
theorem del_some {H : Hp} {b c : Addr} {o : HO} (h : delH H c b = some o) : b ≠ c ∧ H b = some o := by
  by_cases e : b = c
  · subst e; rw [del_same] at h; cases h
  · rw [del_ne e] at h; exact ⟨e, h⟩
structure LamS (p y : Str) (sc : Scope) : Prop where
  kind : sc.kind = .function
  co : sc.isCoroutine = false
  gen : sc.isGenerator = false
  ne : p ≠ y
  par : sc.names.lookup p = some .local
  yf : sc.names.lookup y = some .free
  nocell : ∀ z ∈ sc.names, z.2 ≠ .cell
  one : ∀ z ∈ sc.names, z.2 = .free → z.1 = y
def cxLam (X : Cx) (N : List Str) (q : Str) (scope : Scope) (f c' : Addr) (y : Str) (cl : Addr) (s : Shared) (H : Hp) : Cx where
  prog := X.prog
  w := X.w
  K := X.K
  mg := X.mg
  base := X.base
  A := X.A.deeper (PySem.W.envX q scope s.heap.objs.size f (.ref c') [(y, cl)])
  N := N
  s₀ := s
  H₀ := H
  env := PySem.W.envX q scope s.heap.objs.size f (.ref c') [(y, cl)]
  outer := X.stack
  stack := PySem.W.envX q scope s.heap.objs.size f (.ref c') [(y, cl)] :: X.stack
  ex := []
  fn := fun x => x != y
  calm := true
  pn := []
  xe := fun _ _ => False
section
variable {X : Cx} {pins : List (Addr × Obj)} {σ : St} {H : Hp} {s : Shared} {k : Nat} {f c' cl : Addr} {q p y : Str} {params : Arguments} {body : Expr} {scope : Scope} {v : V} {t : TE}
theorem inv_lam {u : Value} {a : V} {h1 : Heap} {tk : Nat} (S : LamS p y scope) (hr : Room k X.A) (I : Inv X pins σ H s) (el : H cl = some (.ext (CelO cl v))) (ra : RelV a u)
    (hns : h1.Ns s.heap.objs.size (fun x => [(p, u)].reverse.lookup x)) (hk : ∀ b o, s.heap.get? b = some o → h1.get? b = some o) :
    Inv (cxLam X [p, y] q scope f c' y cl s (delH H cl)) [] [some a, some v] (delH H cl) { s with heap := h1, toks := tk } := by
  obtain ⟨⟨uc, rc, oc, ec1, ec2⟩, _, _⟩ := I.hok _ _ el
  have lk : ∀ x c, ([(y, cl)] : List (Str × Addr)).lookup x = some c → x = y ∧ c = cl := fun x c e => by
    rw [List.lookup_cons] at e
    cases hb : x == y with
    | true => rw [hb] at e; cases e; exact ⟨eq_of_beq hb, rfl⟩
    | false => rw [hb] at e; cases e
  have lky : ([(y, cl)] : List (Str × Addr)).lookup y = some cl := by rw [List.lookup_cons, beq_self_eq_true]
  have noA : ∀ b : Addr, b ∉ (cxLam X [p, y] q scope f c' y cl s (delH H cl)).ex := fun b z => absurd (show b ∈ ([] : List Addr) from z) (by simp)
  have hokD : HOk X.prog X.w (delH H cl) s.heap := fun b o e => by
    obtain ⟨n, e'⟩ := del_some e
    exact (I.hok b o e').stay (fun _ _ _ z => z) (fun d z => by rw [del_ne (fun w => by rw [w, el] at z; cases z)]; exact z) fun d xs z => by rw [del_ne (fun w => by rw [w, el] at z; cases z)]; exact z
  refine ⟨⟨I.ok.mod, S.kind, rfl, rfl, Nat.le_refl _, fun x z c e1 e2 => ((lk x c e1).1).trans (lk z c e2).1.symm, fun x hx => ?_, fun x c hf e => ?_, fun _ => hr.hd, Around.frames_deeper I.ok.frames, .inr ⟨rfl, rfl⟩, fun b z => absurd z (noA b), fun b o e => ?_, Nat.le_trans I.ok.bsz I.sz, fun b _ _ => noA b, fun b z => absurd z (noA b), I.stack, fun b hb => ?_⟩,
    rfl, I.bare, Un.kept hk, ⟨_, hns, fun i x vv e1 e2 e3 => ?_⟩, fun x c e => ?_, hokD.fresh (Nat.le_refl _), fun x c e => ?_, fun z hz => absurd (show z ∈ ([] : List (Addr × Obj)) from hz) (by simp), hokD.kept hk, rfl⟩
  · have hx : scope.names.lookup x = some .cell ∨ scope.names.lookup x = some .free := hx
    rcases hx with hx | hx
    · exact absurd rfl (S.nocell _ (PySem.mem_of_lookup hx))
    · have : x = y := S.one _ (PySem.mem_of_lookup hx) rfl
      exact ⟨cl, by rw [this]; exact lky⟩
  · have : x = y := (lk x c e).1
    subst this
    have : (x != x) = true := hf
    simp at this
  · obtain ⟨b1, b2⟩ := I.bs b o e
    exact ⟨b1, by
      by_cases z : b = cl
      · rw [z]; exact del_same
      · exact (del_ne z).trans b2⟩
  · by_cases z : b = cl
    · rw [z]; exact del_same
    · exact (del_ne z).trans (I.stkFree b hb)
  · match i, e1, e2 with
    | 0, e1, e2 =>
      cases e1; cases e2
      exact ⟨u, ra, .inl ⟨S.par, by show List.lookup p [(p, u)] = some u; rw [List.lookup_cons, beq_self_eq_true]⟩⟩
    | 1, e1, e2 =>
      cases e1; cases e2
      exact ⟨uc, rc, .inr ⟨.inr S.yf, cl, lky, ⟨oc, hk _ _ ec1, ec2⟩⟩⟩
    | i + 2, e1, _ => simp [cxLam] at e1
  · obtain ⟨_, rfl⟩ := lk x c e
    exact ⟨_, oc, hk _ _ ec1, ec2⟩
  · obtain ⟨_, rfl⟩ := lk x c e
    exact del_same
theorem run_clo {Q : VK} {u : Value} {a : V} (S : LamS p y scope) (hr : Room k X.A) (I : Inv X pins σ H s) (ef : H f = some (.ext (LamF f q params body scope [(y, cl)] c'))) (ec : H c' = some (.ext (CodR c' q))) (el : H cl = some (.ext (CelO cl v)))
    (hb : ∀ pm ctv, bindArgs (PySem.W.kla_fn "<lambda>" q params body scope [(y, cl)] pm (.ref c') ctv) ⟨[u], []⟩ = pure [(p, u)]) (ra : RelV a u)
    (hbody : PE (cxLam X [p, y] q scope f c' y cl s (delH H cl)) body t) (h : t [some a, some v] (delH H cl) fun x H' => Q x (upd H' cl (.ext (CelO cl v)))) :
    wpAny (model X.prog X.w) X.A (call (.ref f) [u]) (EP X pins σ Q) X.xe s := by
  have inner : codeAny (model X.prog X.w) X.A (.call (.ref f) ⟨[u], []⟩) (CR CX0 X.stack X.prog X.w H s Q E0) s := by
    obtain ⟨⟨pm, ctv, ho⟩, _⟩ := I.hok _ _ ef
    refine PySem.W.kla_callFunE hr.depth ho rfl S.co S.gen rfl (I.hok _ _ ec).1 ?_
    rw [hb]
    refine wpAny_pure (wpAny_newFunctionEnv S.nocell (fun z hz => by rw [List.mem_singleton.mp hz]; exact S.par) (fun h1 hns hsb => ⟨I.nolimit.fresh _ hsb, ?_⟩) S.kind)
    have hk : ∀ b o, s.heap.get? b = some o → h1.get? b = some o := fun b o e => hsb.extBut b o (Nat.ne_of_lt (Heap.lt_size e)) (Heap.get?_push_of_some _ e)
    show codeAny _ _ (.expr body (PySem.W.envX q scope s.heap.objs.size f (.ref c') [(y, cl)])) _ _
    have J := inv_lam (f := f) (c' := c') (q := q) (tk := s.toks + [(p, u)].length) S hr I el ra hns hk
    refine PySem.W.kla_codeExpr (wpAny_mono (hbody [] _ _ _ _ J h) (fun ux s' hq => ?_) fun _ _ z => False.elim z)
    obtain ⟨x, H', J', rx, q'⟩ := hq
    have ncl : cl ∉ frs X.stack := fun z => by have := I.stkFree cl z; rw [el] at this; cases this
    obtain ⟨⟨uc, rc, oc, ec1, ec2⟩, _, _⟩ := I.hok _ _ el
    have kcl : s'.heap.get? cl = some oc := J'.base.keep cl oc ec1 del_same ncl (by intro z; exact absurd (show cl ∈ ([] : List Addr) from z) (by simp))
    have n' : H' cl = none := J'.base.free cl oc ec1 del_same (by intro z; exact absurd (show cl ∈ ([] : List Addr) from z) (by simp))
    have sc := same_new (o := .ext (CelO cl v)) n'
    refine ⟨x, upd H' cl (.ext (CelO cl v)), J'.os, J'.bare, ⟨fun b o e n hf hx => ?_, fun b o e n hf hx => ?_, fun b o e n hx => ?_, J'.base.there, fun b xs e => ?_, fun b o z e => ?_, fun b ps e => ?_⟩, fun b o e => ?_, rx, q'⟩
    · have nb : b ≠ cl := fun z => by rw [z, el] at n; cases n
      exact J'.base.keep b o e (by show delH H cl b = none; rw [del_ne nb]; exact n) hf hx
    · have nb : b ≠ cl := fun z => by rw [z, el] at n; cases n
      exact J'.base.slot b o e (by show delH H cl b = none; rw [del_ne nb]; exact n) hf hx
    · have nb : b ≠ cl := fun z => by rw [z, el] at n; cases n
      rw [upd_ne nb]
      exact J'.base.free b o e (by show delH H cl b = none; rw [del_ne nb]; exact n) hx
    · have nb : b ≠ cl := fun z => by rw [z, el] at e; cases e
      exact sc _ _ (J'.base.tups b xs (by show delH H cl b = _; rw [del_ne nb]; exact e))
    · have nb : b ≠ cl := fun z => by rw [z, el] at e; cases e
      exact sc _ _ (J'.base.frzs b _ _ (by show delH H cl b = _; rw [del_ne nb]; exact e))
    · have nb : b ≠ cl := fun z => by rw [z, el] at e; cases e
      obtain ⟨m, e'⟩ := J'.base.tbls b ps (by show delH H cl b = _; rw [del_ne nb]; exact e)
      exact ⟨m, sc _ _ e'⟩
    · by_cases hbc : b = cl
      · subst hbc
        rw [upd_same] at e; cases e
        exact ext_cel rc ⟨oc, kcl, ec2⟩
      · rw [upd_ne hbc] at e
        exact (J'.hok b o e).stay (fun _ _ _ z => z) (fun d z => sc _ _ z) fun d xs z => sc _ _ z
  refine wpAny_call (codeAny_mono inner fun r s' hq => ?_)
  cases r with
  | error e => exact hq.elim
  | ok fl =>
    cases fl with
    | ret u => exact I.after hq
    | next => exact False.elim hq
    | brk => exact False.elim hq
    | cont => exact False.elim hq
def tCallF (q : Str) (params : Arguments) (body : Expr) (scope : Scope) (y : Str) (t : TE) (tf : TE) (ta : TA) : TE := fun σ H Q => tf σ H fun x H1 => ∃ f, x = .ref f ∧ (∃ cl c', H1 f = some (.ext (LamF f q params body scope [(y, cl)] c'))) ∧ ta σ H1 fun vs H2 => ∃ a cl c' v, vs = [a] ∧
  H2 f = some (.ext (LamF f q params body scope [(y, cl)] c')) ∧ H2 c' = some (.ext (CodR c' q)) ∧ H2 cl = some (.ext (CelO cl v)) ∧ t [some a, some v] (delH H2 cl) fun x H' => Q x (upd H' cl (.ext (CelO cl v)))
theorem pe_callF {fe e : Expr} {pos : Pos} {tf : TE} {ta : TA} (hf : PE X fe tf) (S : LamS p y scope) (hr : Room k X.A) (ha : PA X [e] ta)
    (hb : ∀ cl c' pm ctv u, bindArgs (PySem.W.kla_fn "<lambda>" q params body scope [(y, cl)] pm (.ref c') ctv) ⟨[u], []⟩ = pure [(p, u)])
    (hbody : ∀ f c' cl s H, PE (cxLam X [p, y] q scope f c' y cl s H) body t)
    (he : starEach [e] X.env = (false, eval e X.env) :: starEach [] X.env := by rfl)
    (ht : eval (.Call fe [e] [] pos) X.env = (do callWith pos (← eval fe X.env) [] (backTo pos (starEach [e] X.env)) (backToKw pos (keywordEach [] X.env))) := by rfl) :
    PE X (.Call fe [e] [] pos) (tCallF q params body scope y t tf ta) := by
  intro pins s σ H Q I h
  rw [ht]
  refine wpAny_bind (thn (hf pins s σ H _ I h) fun u s1 ⟨x, H1, I1, rx, f, ex, ⟨cl, c', ef⟩, q1⟩ => ?_)
  subst ex
  obtain rfl : u = Value.ref f := rx
  have fnAt : ∀ {σ' : St} {H' : Hp} {s' : Shared} {cl c' : Addr}, Inv X pins σ' H' s' → H' f = some (.ext (LamF f q params body scope [(y, cl)] c')) → PySem.W.FnAt f s'.heap := fun J e => by
    obtain ⟨⟨pm, ctv, ho⟩, _⟩ := J.hok _ _ e
    exact ⟨_, _, _, _, ho⟩
  refine PySem.W.callWith_F (fnAt I1 ef) (thn (ha pos pins s1 σ H1 _ I1 q1) fun us s2 ⟨vs, H2, I2, r, a, cl, c', v, ev, ef2, ec2, el2, q2⟩ => ⟨fnAt I2 ef2, ?_⟩) he rfl
  subst ev
  obtain ⟨u, rfl, ru⟩ := vals1 r
  exact run_clo S hr I2 ef2 ec2 el2 (fun pm ctv => hb cl c' pm ctv u) ru (hbody f c' cl s2 (delH H2 cl)) q2
end
theorem pe_callG {X : Cx} {k : Nat} {q p y : Str} {params : Arguments} {body : Expr} {scope : Scope} {t : TE} {fe e : Expr} {pos : Pos} {tf : TE} {ta : TA} (hf : PE X fe tf) (S : LamS p y scope) (hr : Room k X.A) (ha : PA X [e] ta)
    (hb : ∀ cl c' pm ctv u, bindArgs (PySem.W.kla_fn "<lambda>" q params body scope [(y, cl)] pm (.ref c') ctv) ⟨[u], []⟩ = pure [(p, u)])
    (hbody : ∀ f c' cl s H, ∃ t', PE (cxLam X [p, y] q scope f c' y cl s H) body t' ∧ t' = t)
    (he : starEach [e] X.env = (false, eval e X.env) :: starEach [] X.env := by rfl)
    (ht : eval (.Call fe [e] [] pos) X.env = (do callWith pos (← eval fe X.env) [] (backTo pos (starEach [e] X.env)) (backToKw pos (keywordEach [] X.env))) := by rfl) :
    PE X (.Call fe [e] [] pos) (tCallF q params body scope y t tf ta) :=
  pe_callF hf S hr ha hb (fun f c' cl s H => by obtain ⟨t', h, rfl⟩ := hbody f c' cl s H; exact h) he ht
def retE (st : Stmt) : Expr := match (defBody st).getD 1 (.Pass ⟨0, 0, 0, 0⟩) with
  | .Return (some e) _ => e
  | _ => .Constant .none 0 ⟨0, 0, 0, 0⟩
def lamA : Expr → Arguments
  | .Lambda a _ _ _ => a
  | _ => { posonlyargs := [], args := [], vararg := none, kwonlyargs := [], kw_defaults := [], kwarg := none, defaults := [] }
def lamB : Expr → Expr
  | .Lambda _ b _ _ => b
  | e => e
def lamS : Expr → Scope
  | .Lambda _ _ s _ => s
  | _ => { kind := .function, names := [], isGenerator := false, isCoroutine := false }
def lamP : Expr → Pos
  | .Lambda _ _ _ p => p
  | _ => ⟨0, 0, 0, 0⟩
def OnlyT (Pt : Addr) (H : Hp) : Prop := H Pt = some (.tbl #[]) ∧ ∀ b, H b = none ∨ b = Pt ∨ ∃ o xs, H b = some (.frz o (.lst xs))
theorem Sc.of_onlyT {K : PySem.W.Frag} {H : Hp} {a Pt : Addr} {ns : List Int} (hO : OnlyT Pt H) (hS : SqL K H a (ns.map V.int)) : Sc K a ns H := by
  refine ⟨?_, fun b u e => ?_⟩
  · rcases hS with (h | ⟨o, h⟩) | h
    · rcases hO.2 a with z | z | ⟨ob, xs, z⟩
      · rw [h] at z; cases z
      · rw [z, hO.1] at h; cases h
      · rw [h] at z; cases z
    · exact .inl ⟨o, h⟩
    · exact .inr h
  · rcases hO.2 b with z | z | ⟨o, xs, z⟩
    · rw [e] at z; cases z
    · rw [z, hO.1] at e; cases e; rfl
    · rw [e] at z; cases z; rfl
theorem law_callT {P : Program} {w : World} {K : PySem.W.Frag} {mg mb : Str → Option Value} {CX : CXT} {k : Nat} {fa a c Pt : Addr} {fd : FuncData} {x : Str} {sp : Sp} {s₁ : Shared} {vs : List Value} {ns : List Int}
    (KX : K.In s₁.heap) (hK : PySem.W.noTabs K = true) (hns : s₁.heap.Ns mainGlobals mg) (hb : s₁.heap.Ns builtinsNs mb) (hbb : ∀ x : Str, x ≠ "__name__" → mb x = bootBuiltins x) (hlim : s₁.heap.NoLimit) (hg : s₁.gens = #[])
    (hbm : ∃ bm ob, mg "__builtins__" = some (.ref bm) ∧ bm ≠ builtinsNs ∧ s₁.heap.get? bm = some ob ∧ ob.cls = .type "module" ∧ ob.dict = some builtinsNs ∧ ob.data = .plain)
    (hC : PySem.W.CodeHd s₁.heap c Pt) (hP : s₁.heap.get? Pt = some (PySem.W.tabObj #[]))
    (ha : s₁.heap.get? a = some { cls := .type "list", data := .seq vs.toArray }) (hi : IntsAre vs ns) (hl : ns.length ≤ sizeLine) (hr : Room k callerA)
    (F : ∀ base : Heap, K.In base → base.Ns mainGlobals mg → PySem.W.CodeHd base c Pt → base.BuiltinsAt mg Pt → FnOk P w K mg base CX k fa fd [x] sp) (hbind : ∀ (s : Shared) (u : Value), BindsTo s fd ⟨[u], []⟩ [(x, u)])
    (hsp : ∀ H : Hp, OnlyT Pt H → SqL K H a (ns.map V.int) → sp [.ref a] H (fun v _ => v = .bl true) fun _ _ _ => False)
    (hCX : ∀ H e s', CX [] H s₁ (fun _ _ _ => False) e s' → False) :
    codeAny (model P w) callerA (.call (.ref fa) ⟨[.ref a], []⟩) (fun r s' => r = .ok (.ret (.bool true)) ∧ OldK s₁.heap s'.heap ∧ s'.os = s₁.os ∧ AllBare s'.gens) s₁ := by
  have rv := vals_ints hi
  have lenV := hi.length
  have hPa : Pt ≠ a := fun z => by rw [z, ha] at hP; cases hP
  have kPt : ∀ o, K.lookup Pt = some o → False := fun o e => by
    have e1 := KX _ _ e
    rw [hP] at e1
    cases e1
    have := List.all_eq_true.mp hK _ (PySem.W.mem_of_lookupK e)
    exact absurd (show false = true from this) Bool.false_ne_true
  have core : ∀ H : Hp, OnlyT Pt H → SqL K H a (ns.map V.int) → HOk P w H s₁.heap → (∀ b, H b ≠ none → b = Pt ∨ b = a) → (H a ≠ none → K.lookup a = none) →
      codeAny (model P w) callerA (.call (.ref fa) ⟨[.ref a], []⟩) (fun r s' => r = .ok (.ret (.bool true)) ∧ OldK s₁.heap s'.heap ∧ s'.os = s₁.os ∧ AllBare s'.gens) s₁ := by
    intro H hO hS hok hA hKa
    have inB : ∀ {b : Addr} {o : Obj}, s₁.heap.get? b = some o → o.cls ≠ .none → (∀ its n, o.data ≠ .seq its n) → (hidT s₁.heap H).get? b = some o := fun {b o} e h1 h2 => by
      refine hidT_get e ?_
      cases q : H b with
      | none => rfl
      | some u =>
        rcases hA b (by rw [q]; simp) with z | z
        · subst z; rw [hP] at e; cases e; exact absurd rfl h1
        · subst z; rw [ha] at e; cases e; exact absurd rfl (h2 _ _)
    have nsK : ∀ {b : Addr} {m : Str → Option Value}, s₁.heap.Ns b m → (hidT s₁.heap H).Ns b m := fun {b m} ⟨o, es, ep, e, d, r⟩ => ⟨o, es, ep, (by
      refine hidT_get e ?_
      cases q : H b with
      | none => rfl
      | some u =>
        rcases hA b (by rw [q]; simp) with z | z
        · subst z; rw [hP] at e; cases e; cases d
        · subst z; rw [ha] at e; cases e; cases d), d, r⟩
    have hKb : K.In (hidT s₁.heap H) := fun b o e => hidT_get (KX b o e) (by
      cases q : H b with
      | none => rfl
      | some u =>
        rcases hA b (by rw [q]; simp) with z | z
        · subst z; exact (kPt o e).elim
        · subst z
          rw [hKa (by rw [q]; simp)] at e; cases e)
    have hM : Mod K mg (hidT s₁.heap H) := ⟨hKb, nsK hns, ⟨mb, nsK hb, hbb⟩, let ⟨mc, h1, h2⟩ := hlim; ⟨mc, nsK h1, h2⟩⟩
    have hCb : PySem.W.CodeHd (hidT s₁.heap H) c Pt := by
      obtain ⟨o, vs', file, tf, flags, tg, inF, text, tt, e1, e2, e3, r⟩ := hC
      exact ⟨o, vs', file, tf, flags, tg, inF, text, tt, inB e1 (by rw [e2]; intro z; cases z) (fun _ _ z => by rw [e3] at z; cases z), e2, e3, r⟩
    have hBb : (hidT s₁.heap H).BuiltinsAt mg Pt := by
      obtain ⟨bm, ob, h1, h2, h3, h4, h5, h6⟩ := hbm
      refine ⟨bm, ob, h1, h2, fun z => ?_, fun z => ?_, inB h3 (by rw [h4]; intro z; cases z) (fun _ _ z => by rw [h6] at z; cases z), h4, h5, h6⟩
      · obtain ⟨o, es, ep, e, d, _⟩ := hns
        rw [z, e] at h3; cases h3; rw [d] at h6; cases h6
      · rw [z, hP] at h3; cases h3; cases h4
    have e0 : Env0 P w K mg (hidT s₁.heap H) callerA [] s₁ H := ⟨rfl, hM, fun b o e => of_hidT e, Nat.le_of_eq (hidT_size _ _), trivial, fun b hb => absurd (show b ∈ ([] : List Addr) from hb) (by simp), hok, .of_eq hg⟩
    refine codeAny_mono ((F _ hKb (nsK hns) hCb hBb).run callerA [] s₁ H ⟨[.ref a], []⟩ [.ref a] [.ref a] _ _ hr e0 (hbind s₁ (.ref a)) (.cons rfl .nil) (hsp H hO hS)) fun r s' h => ?_
    cases r with
    | error e => exact (hCX H e s' h).elim
    | ok fl =>
      cases fl with
      | next => exact False.elim h
      | brk => exact False.elim h
      | cont => exact False.elim h
      | ret u =>
        obtain ⟨v, H', os, bare, un, hok', r', q⟩ := h
        have q' : v = .bl true := q
        subst q'
        obtain rfl : u = Value.bool true := r'
        obtain ⟨more, eP⟩ := un.tbls Pt _ hO.1
        have eP2 : s'.heap.get? Pt = some { cls := .none, data := .fields (#[] ++ more) } := hok' _ _ eP
        have kp : ∀ b o, b ≠ Pt → s₁.heap.get? b = some o → s'.heap.get? b = some o := fun b o nb e => by
          rcases hO.2 b with z | z | ⟨ob, xs, z⟩
          · exact un.keep b o e z (by intro z; exact absurd (show b ∈ ([] : List Addr) from z) (by simp)) (by simp)
          · exact absurd z nb
          · have z2 := un.frzs b ob _ z
            obtain ⟨e1, _⟩ := hok b _ z
            obtain ⟨e2, _⟩ := hok' b _ z2
            rw [e] at e1; cases e1
            exact e2
        refine ⟨rfl, ⟨fun b o e => ?_, fun b o e => ?_⟩, os, bare⟩
        · by_cases hbP : b = Pt
          · subst hbP
            rw [hP] at e; cases e
            exact .inr (.inl ⟨(hC.tab hP).isCodeTable, rfl, #[], more, rfl, eP2⟩)
          · exact .inl (kp b o hbP e)
        · by_cases hbP : b = Pt
          · subst hbP; exact ⟨_, eP2⟩
          · exact ⟨o, kp b o hbP e⟩
  have okT : ∀ H : Hp, ObjOk P w H s₁.heap Pt (.tbl #[]) := fun _ => hP
  cases hk : K.lookup a with
  | some o =>
    have e := KX a o hk
    rw [ha] at e
    cases e
    refine core (fun b => if b = Pt then some (.tbl #[]) else none) ⟨if_pos rfl, fun b => ?_⟩ (.inr ⟨_, vs.toArray, _, hk, rfl, rfl, rfl, by rw [List.size_toArray, lenV]; exact hl, by simpa using rv⟩) (fun b u z => ?_) (fun b z => ?_) fun z => absurd (if_neg (Ne.symm hPa)) z
    · by_cases hb : b = Pt
      · exact .inr (.inl hb)
      · exact .inl (if_neg hb)
    · by_cases hb : b = Pt
      · have z' := (if_pos hb).symm.trans z
        cases z'
        subst hb
        exact okT _
      · have z' := (if_neg hb).symm.trans z
        cases z'
    · by_cases hb : b = Pt
      · exact .inl hb
      · exact absurd (if_neg hb) z
  | none =>
    have ea : (fun b => if b = Pt then some (HO.tbl #[]) else if b = a then some (.frz { cls := .type "list", data := .seq vs.toArray } (.lst (ns.map V.int))) else none) a = some (.frz { cls := .type "list", data := .seq vs.toArray } (.lst (ns.map V.int))) := by
      show (if a = Pt then _ else if a = a then _ else _) = _
      rw [if_neg (Ne.symm hPa), if_pos rfl]
    refine core (fun b => if b = Pt then some (.tbl #[]) else if b = a then some (.frz { cls := .type "list", data := .seq vs.toArray } (.lst (ns.map V.int))) else none) ⟨if_pos rfl, fun b => ?_⟩ (.inl (.inr ⟨_, ea⟩)) (fun b u z => ?_) (fun b z => ?_) fun _ => hk
    · by_cases hb : b = Pt
      · exact .inr (.inl hb)
      · by_cases hb2 : b = a
        · exact .inr (.inr ⟨_, _, by rw [hb2]; exact ea⟩)
        · exact .inl ((if_neg hb).trans (if_neg hb2))
    · by_cases hb : b = Pt
      · have z' := (if_pos hb).symm.trans z
        cases z'
        subst hb
        exact okT _
      · by_cases hb2 : b = a
        · subst hb2
          rw [ea] at z; cases z
          exact ⟨ha, by rw [List.length_map]; exact hl, vs, _, rv, ha⟩
        · have z' := ((if_neg hb).trans (if_neg hb2)).symm.trans z
          cases z'
    · by_cases hb : b = Pt
      · exact .inl hb
      · by_cases hb2 : b = a
        · exact .inr hb2
        · exact absurd ((if_neg hb).trans (if_neg hb2)) z
theorem walk_ofT {l : PySem.W.OpenLaw} {n k : Nat} {q : Program} {loose : List Str} {XP : (Str → Option Value) → Heap → Prop} {YP : World → Heap → Prop} {d : DefRec} {K : Params → PySem.W.Frag} {CX : CXT} {sp : PySem.W.Frag → Addr → Sp} {x fx : Str}
    (hn : l.most = some n) (hn2 : n ≤ sizeLine) (hdf : d.params.defaults = []) (hr : Room k callerA)
    (hY : ∀ (w : World) (h : Heap), YP w h → (K w.params).In h) (hK : ∀ p, PySem.W.noTabs (K p) = true) (hfx : ((recsOf q).any fun e => e.name == fx) = true)
    (F : ∀ (w : World) (mg : Str → Option Value) (fa : Addr) (h : Heap), (K w.params).In h → h.Ns mainGlobals mg → mg d.name = some (.ref fa) →
      ∃ fd : FuncData, (∀ (s : Shared) (u : Value), BindsTo s fd ⟨[u], []⟩ [(x, u)]) ∧
        ∀ (base : Heap) (c Pt : Addr), (K w.params).In base → base.Ns mainGlobals mg → PySem.W.CodeHd base c Pt → base.BuiltinsAt mg Pt → (∀ a o fd', mg fx = some (.ref a) → (K w.params).lookup a = some o → o.data = .func fd' → fd'.code = .ref c) →
          FnOk l.prog w (K w.params) mg base CX k fa fd [x] (sp (K w.params) Pt))
    (hsp : ∀ (K : PySem.W.Frag) (H : Hp) (a Pt : Addr) (ns : List Int), ns.length ≤ n → OnlyT Pt H → SqL K H a (ns.map V.int) → sp K Pt [.ref a] H (fun v _ => v = .bl true) fun _ _ _ => False)
    (hCX : ∀ (H : Hp) (s : Shared) (e : Value) (s' : Shared), CX [] H s (fun _ _ _ => False) e s' → False) :
    PySem.W.WalkO q loose XP YP l.row.toRowW d [] (fun f vs => PySem.call f vs) := by
  refine Att.attach_call hn hdf fun w s₀ s₁ mg mb fa o pm cd doc a vs ns G Y ho hd hcd hmg hobj hints hlen hg => ?_
  have KX := hY w _ Y
  obtain ⟨fd, hb, hF⟩ := F w mg fa _ KX G.T.g hmg
  obtain ⟨dr, hdr, hdn⟩ := List.any_eq_true.mp hfx
  have hdn : dr.name = fx := beq_iff_eq.mp hdn
  obtain ⟨fa', fo, fd', c, Pt, h1, h2, h3, h4, h5, h6⟩ := G.T.tab dr hdr
  rw [hdn] at h1
  exact law_callT (c := c) (Pt := Pt) KX (hK w.params) G.T.g G.T.b G.T.builtins G.T.nolimit hg G.T.bmain (PySem.W.CodeHd.of h5 h6) h6.2 hobj hints (Nat.le_trans hlen hn2) hr
    (fun base b1 b2 b3 b4 => hF base c Pt b1 b2 b3 b4 fun a' o' fd2 e1 e2 e3 => by
      rw [h1] at e1; cases e1
      have e4 := KX _ _ e2
      rw [h2] at e4; cases e4
      rw [h3] at e3; cases e3
      exact h4) hb (fun H hO hS => hsp (K w.params) H a Pt ns hlen hO hS) fun H e s' => hCX H s₁ e s'
theorem code_of {K : PySem.W.Frag} {mg : Str → Option Value} {x qual : Str} {st : Stmt} {f c : Addr} {fd : FuncData} {y : Str} (F : Fun K x qual st f fd) (m : mg y = some (.ref f))
    (h : ∀ a o fd', mg y = some (.ref a) → K.lookup a = some o → o.data = .func fd' → fd'.code = .ref c) : fd.code = .ref c := by
  obtain ⟨oc, od, kV, doc, pm, an, cdv, ct, osl, e, lk, _⟩ := F.ex
  exact h f _ fd m lk rfl
end L2
namespace L2
open PySem PySem.Spec PyProof.Rows
theorem tVar_ap (i : Nat) (σ : St) (H : Hp) (Q : VK) : tVar i σ H Q = (∃ v, σ[i]? = some (some v) ∧ Q v H) := rfl
theorem tC_ap (v : V) (x_0 : St) (H : Hp) (Q : VK) : tC v x_0 H Q = (Q v H) := rfl
theorem tAdd_ap (ta tb : TE) (σ : St) (H : Hp) (Q : VK) : tAdd ta tb σ H Q = (t2I ta tb (fun i j H2 => Q (.int (i + j)) H2) σ H) := rfl
theorem tSub_ap (ta tb : TE) (σ : St) (H : Hp) (Q : VK) : tSub ta tb σ H Q = (t2I ta tb (fun i j H2 => Q (.int (i - j)) H2) σ H) := rfl
theorem tMul_ap (ta tb : TE) (σ : St) (H : Hp) (Q : VK) : tMul ta tb σ H Q = (t2I ta tb (fun i j H2 => (-(2 ^ 64) < i ∧ i < 2 ^ 64) ∧ Q (.int (i * j)) H2) σ H) := rfl
theorem tCmp_ap (p : Int → Int → Bool) (ta tb : TE) (σ : St) (H : Hp) (Q : VK) : tCmp p ta tb σ H Q = (t2I ta tb (fun i j H2 => Q (.bl (p i j)) H2) σ H) := rfl
theorem tIsN_ap (ta : TE) (σ : St) (H : Hp) (Q : VK) : tIsN ta σ H Q = (ta σ H fun x H1 => Q (.bl (decide (x = .non))) H1) := rfl
theorem tNotN_ap (ta : TE) (σ : St) (H : Hp) (Q : VK) : tNotN ta σ H Q = (ta σ H fun x H1 => Q (.bl (!decide (x = .non))) H1) := rfl
theorem tB_ap (t : TE) (σ : St) (H : Hp) (Q : (Bool → Hp → Prop)) : tB t σ H Q = (t σ H fun x H1 => ∃ c, x = .bl c ∧ Q c H1) := rfl
theorem tAnd_ap (t u : TT) (σ : St) (H : Hp) (Q : (Bool → Hp → Prop)) : tAnd t u σ H Q = (t σ H fun c H1 => if c = true then u σ H1 Q else Q false H1) := rfl
theorem tOr_ap (t u : TT) (σ : St) (H : Hp) (Q : (Bool → Hp → Prop)) : tOr t u σ H Q = (t σ H fun c H1 => if c = true then Q true H1 else u σ H1 Q) := rfl
theorem tNot_ap (t : TT) (σ : St) (H : Hp) (Q : (Bool → Hp → Prop)) : tNot t σ H Q = (t σ H fun c H1 => Q (!c) H1) := rfl
theorem tAndV_ap (ta tb : TE) (σ : St) (H : Hp) (Q : VK) : tAndV ta tb σ H Q = (ta σ H fun x H1 => ∃ c, x = .bl c ∧ if c = true then tb σ H1 Q else Q (.bl false) H1) := rfl
theorem tOrV_ap (ta tb : TE) (σ : St) (H : Hp) (Q : VK) : tOrV ta tb σ H Q = (ta σ H fun x H1 => ∃ c, x = .bl c ∧ if c = true then Q (.bl true) H1 else tb σ H1 Q) := rfl
theorem tNotV_ap (ta : TE) (σ : St) (H : Hp) (Q : VK) : tNotV ta σ H Q = (ta σ H fun x H1 => ∃ c, x = .bl c ∧ Q (.bl (!c)) H1) := rfl
theorem tIf_ap (t : TT) (ta tb : TE) (σ : St) (H : Hp) (Q : VK) : tIf t ta tb σ H Q = (t σ H fun c H1 => if c = true then ta σ H1 Q else tb σ H1 Q) := rfl
theorem tNext_ap (D : Ends) (σ : St) (H : Hp) : tNext  D σ H = (D.nx σ H) := rfl
theorem tSeq_ap (t u : TS) (D : Ends) (σ : St) (H : Hp) : tSeq t u D σ H = (t { D with nx := u D } σ H) := rfl
theorem tBreak_ap (D : Ends) (σ : St) (H : Hp) : tBreak  D σ H = (D.bk σ H) := rfl
theorem tCont_ap (D : Ends) (σ : St) (H : Hp) : tCont  D σ H = (D.ct σ H) := rfl
theorem tDrop_ap (te : TE) (D : Ends) (σ : St) (H : Hp) : tDrop te D σ H = (te σ H fun _ H1 => D.nx σ H1) := rfl
theorem tRet_ap (te : TE) (D : Ends) (σ : St) (H : Hp) : tRet te D σ H = (te σ H D.rt) := rfl
theorem tRetN_ap (D : Ends) (x_1 : St) (H : Hp) : tRetN  D x_1 H = (D.rt .non H) := rfl
theorem tNever_ap (x_0 : Ends) (x_1 : St) (x_2 : Hp) : tNever  x_0 x_1 x_2 = (False) := rfl
theorem gName_ap (i : Nat) (v : V) (σ : St) (H : Hp) (Q : (St → Hp → Prop)) : gName i v σ H Q = (Q (σ.set i (some v)) H) := rfl
theorem gNil_ap (vs : List V) (σ : St) (H : Hp) (Q : (St → Hp → Prop)) : gNil  vs σ H Q = (vs = [] ∧ Q σ H) := rfl
theorem gCons_ap (t : TG) (u : TGs) (vs : List V) (σ : St) (H : Hp) (Q : (St → Hp → Prop)) : gCons t u vs σ H Q = (∃ v r, vs = v :: r ∧ t v σ H fun σ' H' => u r σ' H' Q) := rfl
theorem gTup_ap (K : PySem.W.Frag) (n : Nat) (t : TGs) (v : V) (σ : St) (H : Hp) (Q : (St → Hp → Prop)) : gTup K n t v σ H Q = (∃ a xs, v = .ref a ∧ SqT K H a xs ∧ xs.length = n ∧ t xs σ H Q) := rfl
theorem gSub_ap (to ti : TE) (t : TSet) (v : V) (σ : St) (H : Hp) (Q : (St → Hp → Prop)) : gSub to ti t v σ H Q = (to σ H fun o H1 => ti σ H1 fun i H2 => t o i v H2 fun H3 => Q σ H3) := rfl
theorem tAsg_ap (te : TE) (g : TG) (D : Ends) (σ : St) (H : Hp) : tAsg te g D σ H = (te σ H fun x H1 => g x σ H1 D.nx) := rfl
theorem tPar_ap (i j : Nat) (ta : TA) (D : Ends) (σ : St) (H : Hp) : tPar i j ta D σ H = (ta σ H fun vs H1 => ∃ v w, vs = [v, w] ∧ D.nx ((σ.set i (some v)).set j (some w)) H1) := rfl
theorem tAug_ap (i : Nat) (te : TE) (ti : TIp) (D : Ends) (σ : St) (H : Hp) : tAug i te ti D σ H = (∃ x, σ[i]? = some (some x) ∧ te σ H fun y H1 => ti x y H1 fun z H2 => D.nx (σ.set i (some z)) H2) := rfl
theorem tAugS_ap (to ti te : TE) (tget : V → V → Hp → VK → Prop) (tip : TIp) (tset : TSet) (D : Ends) (σ : St) (H : Hp) : tAugS to ti te tget tip tset D σ H = (to σ H fun o H1 => ti σ H1 fun i H2 => tget o i H2 fun x H3 => te σ H3 fun y H4 => tip x y H4 fun z H5 => tset o i z H5 fun H6 => D.nx σ H6) := rfl
theorem iList_ap (K : PySem.W.Frag) (tl : TE) (σ : St) (H : Hp) (R : (It → Hp → Prop)) : iList K tl σ H R = (tl σ H fun x H1 => ∃ a, x = .ref a ∧ (∃ xs, SqL K H1 a xs) ∧ R (Itl K a) H1) := rfl
theorem iTup_ap (K : PySem.W.Frag) (tl : TE) (σ : St) (H : Hp) (R : (It → Hp → Prop)) : iTup K tl σ H R = (tl σ H fun x H1 => ∃ a, x = .ref a ∧ (∃ xs, SqT K H1 a xs) ∧ R (Itt K a) H1) := rfl
theorem tOp_ap (r : R2) (ta tb : TE) (σ : St) (H : Hp) (Q : VK) : tOp r ta tb σ H Q = (ta σ H fun x H1 => tb σ H1 fun y H2 => r x y H2 Q) := rfl
theorem tUn_ap (r : V → Hp → VK → Prop) (ta : TE) (σ : St) (H : Hp) (Q : VK) : tUn r ta σ H Q = (ta σ H fun x H1 => r x H1 Q) := rfl
theorem rI_ap (C : Int → Int → Prop) (g : Int → Int → V) (x : V) (y : V) (H : Hp) (Q : VK) : rI C g x y H Q = (∃ i j, x = .int i ∧ y = .int j ∧ C i j ∧ Q (g i j) H) := rfl
theorem rI0_ap (g : Int → Int → V) (x : V) (y : V) (H : Hp) (Q : VK) : rI0 g x y H Q = (∃ i j, x = .int i ∧ y = .int j ∧ Q (g i j) H) := rfl
theorem rU_ap (g : Int → V) (x : V) (H : Hp) (Q : VK) : rU g x H Q = (∃ i, x = .int i ∧ Q (g i) H) := rfl
theorem rEq_ap (x : V) (y : V) (H : Hp) (Q : VK) : rEq  x y H Q = (scal x y = true ∧ Q (.bl (decide (x = y))) H) := rfl
theorem rNe_ap (x : V) (y : V) (H : Hp) (Q : VK) : rNe  x y H Q = (scal x y = true ∧ Q (.bl (!decide (x = y))) H) := rfl
theorem tTest_ap (t : TE) (σ : St) (H : Hp) (Q : (Bool → Hp → Prop)) : tTest t σ H Q = (t σ H fun x H' => ∃ k, x = .bl k ∧ Q k H') := rfl
theorem tChain_ap (r r' : R2) (ta tb tc : TE) (σ : St) (H : Hp) (Q : VK) : tChain r r' ta tb tc σ H Q = (ta σ H fun x H1 => tb σ H1 fun y H2 => r x y H2 fun z H3 => ∃ k, z = .bl k ∧
  (if k = true then tc σ H3 fun w' H4 => r' y w' H4 Q else Q (.bl false) H3)) := rfl
theorem tCon_ap (K : PySem.W.Frag) (ta : TE) (f : Str) (σ : St) (H : Hp) (Q : VK) : tCon K ta f σ H Q = (ta σ H fun x H1 => ∃ a C dx fs v u, x = .ref a ∧ H1 a = some (.ins C dx fs) ∧ Cls K C ∧ Con K C f v u ∧ fs.lookup f = none ∧ Q v H1) := rfl
theorem sFld_ap (K : PySem.W.Frag) (ta tv : TE) (f : Str) (D : Ends) (σ : St) (H : Hp) : sFld K ta tv f D σ H = (tv σ H fun y H1 => ta σ H1 fun x H2 => ∃ a C dx fs, x = .ref a ∧ H2 a = some (.ins C dx fs) ∧ Cls K C ∧ NoAttr K C f ∧ fs.length < 1000 ∧
  D.nx σ (upd H2 a (.ins C dx (putF f y fs)))) := rfl
theorem sFldAug_ap (K : PySem.W.Frag) (ta tv : TE) (rd : V → V → Hp → VK → Prop) (f : Str) (D : Ends) (σ : St) (H : Hp) : sFldAug K ta tv rd f D σ H = (ta σ H fun x H1 => ∃ a C dx fs v, x = .ref a ∧ H1 a = some (.ins C dx fs) ∧ Cls K C ∧ NoAttr K C f ∧ fs.lookup f = some v ∧
  tv σ H1 fun y H2 => rd v y H2 fun z H3 => ∃ dx' fs', H3 a = some (.ins C dx' fs') ∧ fs'.length < 1000 ∧ D.nx σ (upd H3 a (.ins C dx' (putF f z fs')))) := rfl
theorem rAdd_ap (x : V) (y : V) (H : Hp) (Q : VK) : rAdd  x y H Q = (∃ i j, x = .int i ∧ y = .int j ∧ Q (.int (i + j)) H) := rfl
theorem rSub_ap (x : V) (y : V) (H : Hp) (Q : VK) : rSub  x y H Q = (∃ i j, x = .int i ∧ y = .int j ∧ Q (.int (i - j)) H) := rfl
theorem tNil_ap (x_0 : St) (H : Hp) (Q : (List V → Hp → Prop)) : tNil  x_0 H Q = (Q [] H) := rfl
theorem tCons_ap (ta : TE) (tr : TA) (σ : St) (H : Hp) (Q : (List V → Hp → Prop)) : tCons ta tr σ H Q = (ta σ H fun x H1 => tr σ H1 fun xs H2 => Q (x :: xs) H2) := rfl
theorem tTup_ap (t : TA) (σ : St) (H : Hp) (Q : VK) : tTup t σ H Q = (t σ H fun xs H1 => xs.length ≤ sizeLine ∧ ∀ p, H1 p = none → Q (.ref p) (upd H1 p (.tup xs))) := rfl
theorem tLst_ap (t : TA) (σ : St) (H : Hp) (Q : VK) : tLst t σ H Q = (t σ H fun xs H1 => xs.length ≤ sizeLine ∧ ∀ p, H1 p = none → Q (.ref p) (upd H1 p (.lst xs))) := rfl
theorem tCall_ap (sp : Sp) (dvs : List V) (E : XK) (t : TA) (σ : St) (H : Hp) (Q : VK) : tCall sp dvs E t σ H Q = (t σ H fun vs H1 => sp (vs ++ dvs) H1 Q E) := rfl
theorem tMeth_ap (C : Addr) (m : Str) (sp : Sp) (dvs : List V) (E : XK) (ta : TE) (t : TA) (σ : St) (H : Hp) (Q : VK) : tMeth C m sp dvs E ta t σ H Q = (ta σ H fun x H1 => ∃ a dx fs, x = .ref a ∧ H1 a = some (.ins C dx fs) ∧ fs.lookup m = none ∧
  t σ H1 fun vs H2 => sp (x :: (vs ++ dvs)) H2 Q E) := rfl
theorem tMake_ap (C : Addr) (sp : Sp) (dvs : List V) (E : XK) (t : TA) (σ : St) (H : Hp) (Q : VK) : tMake C sp dvs E t σ H Q = (t σ H fun vs H1 => ∀ x dx, H1 x = none → H1 dx = none → dx ≠ x →
  sp (.ref x :: (vs ++ dvs)) (upd (upd H1 dx (.own x)) x (.ins C dx [])) (fun v H2 => v = .non ∧ Q (.ref x) H2) E) := rfl
theorem tCallK_ap (sp : Sp) (gV : List V → List V → List V) (E : XK) (t tk : TA) (σ : St) (H : Hp) (Q : VK) : tCallK sp gV E t tk σ H Q = (t σ H fun vs H1 => tk σ H1 fun zs H2 => sp (gV vs zs) H2 Q E) := rfl
theorem tCB_ap (r : List V → Hp → VK → Prop) (t : TA) (σ : St) (H : Hp) (Q : VK) : tCB r t σ H Q = (t σ H fun vs H1 => r vs H1 Q) := rfl
theorem tNoPart_ap (x_0 : St) (H : Hp) (Q : (Option Int → Hp → Prop)) : tNoPart  x_0 H Q = (Q none H) := rfl
theorem tPart_ap (t : TE) (σ : St) (H : Hp) (Q : (Option Int → Hp → Prop)) : tPart t σ H Q = (t σ H fun x H1 => ∃ i, x = .int i ∧ Q (some i) H1) := rfl
theorem tSl_ap (r : V → Option Int → Option Int → Hp → VK → Prop) (te : TE) (tl th : TO) (σ : St) (H : Hp) (Q : VK) : tSl r te tl th σ H Q = (te σ H fun x H1 => tl σ H1 fun l H2 => th σ H2 fun u H3 => r x l u H3 Q) := rfl
theorem rSlT_ap (K : PySem.W.Frag) (x : V) (lo : Option Int) (hi : Option Int) (H : Hp) (Q : VK) : rSlT K x lo hi H Q = (∃ a xs, x = .ref a ∧ SqT K H a xs ∧
  ¬ (HT.sIx xs.length 0 lo = 0 ∧ HT.sIx xs.length xs.length hi = xs.length) ∧ ∀ p, H p = none → Q (.ref p) (upd H p (.tup (cutV xs lo hi)))) := rfl
theorem rLtT_ap (K : PySem.W.Frag) (x : V) (y : V) (H : Hp) (Q : VK) : rLtT K x y H Q = (∃ a b ns ms, x = .ref a ∧ y = .ref b ∧ SqT K H a (ns.map V.int) ∧ SqT K H b (ms.map V.int) ∧ Q (.bl (HT.lexLt ns ms)) H) := rfl
theorem rCatT_ap (K : PySem.W.Frag) (x : V) (y : V) (H : Hp) (Q : VK) : rCatT K x y H Q = (∃ a b xs ys, x = .ref a ∧ y = .ref b ∧ SqT K H a xs ∧ SqT K H b ys ∧ xs ≠ [] ∧ xs.length + ys.length ≤ sizeLine ∧
  (ys = [] → Q (.ref a) H) ∧ (ys ≠ [] → ∀ p, H p = none → Q (.ref p) (upd H p (.tup (xs ++ ys))))) := rfl
theorem rIxL_ap (K : PySem.W.Frag) (x : V) (y : V) (H : Hp) (Q : VK) : rIxL K x y H Q = (∃ p xs i v, x = .ref p ∧ y = .int i ∧ SqL K H p xs ∧ atI xs i = some v ∧ Q v H) := rfl
theorem rIxT_ap (K : PySem.W.Frag) (x : V) (y : V) (H : Hp) (Q : VK) : rIxT K x y H Q = (∃ p xs i v, x = .ref p ∧ y = .int i ∧ SqT K H p xs ∧ atI xs i = some v ∧ Q v H) := rfl
theorem rIxS_ap (x : V) (y : V) (H : Hp) (Q : VK) : rIxS  x y H Q = (∃ z i c, x = .str z ∧ y = .int i ∧ z.length ≤ sizeLine ∧ atI z.cps.toList i = some c ∧ Q (.str ⟨#[c]⟩) H) := rfl
theorem rIx_ap (K : PySem.W.Frag) (x : V) (y : V) (H : Hp) (Q : VK) : rIx K x y H Q = (rIxL K x y H Q ∨ rIxT K x y H Q ∨ rIxS x y H Q) := rfl
theorem rSetL_ap (o : V) (i : V) (v : V) (H : Hp) (Q : (Hp → Prop)) : rSetL  o i v H Q = (∃ p xs k j, o = .ref p ∧ i = .int k ∧ H p = some (.lst xs) ∧ ixN xs.length k = some j ∧ Q (upd H p (.lst (xs.set j v)))) := rfl
theorem rSlL_ap (K : PySem.W.Frag) (x : V) (lo : Option Int) (hi : Option Int) (H : Hp) (Q : VK) : rSlL K x lo hi H Q = (∃ a xs, x = .ref a ∧ SqL K H a xs ∧ ∀ p, H p = none → Q (.ref p) (upd H p (.lst (cutV xs lo hi)))) := rfl
theorem rIn_ap (K : PySem.W.Frag) (neg : Bool) (x : V) (y : V) (H : Hp) (Q : VK) : rIn K neg x y H Q = (∃ p xs, y = .ref p ∧ (SqL K H p xs ∨ SqT K H p xs) ∧ flatV x = true ∧ xs.all flatV = true ∧ Q (.bl (if neg then !inV x xs else inV x xs)) H) := rfl
theorem tBM0_ap (K : PySem.W.Frag) (T : String) (r : V → List V → Hp → VK → Prop) (to : TE) (σ : St) (H : Hp) (Q : VK) : tBM0 K T r to σ H Q = (to σ H fun x H1 => tyV K T x H1 ∧ r x [] H1 Q) := rfl
theorem tBM_ap (K : PySem.W.Frag) (T : String) (r : V → List V → Hp → VK → Prop) (to : TE) (t : TA) (σ : St) (H : Hp) (Q : VK) : tBM K T r to t σ H Q = (to σ H fun x H1 => tyV K T x H1 ∧ t σ H1 fun xs H2 => r x xs H2 Q) := rfl
theorem rAppend_ap (x : V) (vs : List V) (H : Hp) (Q : VK) : rAppend  x vs H Q = (∃ l xs y, x = .ref l ∧ vs = [y] ∧ H l = some (.lst xs) ∧ xs.length < sizeLine ∧ Q .non (upd H l (.lst (xs ++ [y])))) := rfl
theorem rExtend_ap (x : V) (vs : List V) (H : Hp) (Q : VK) : rExtend  x vs H Q = (∃ l b xs zs, x = .ref l ∧ vs = [.ref b] ∧ H l = some (.lst xs) ∧ H b = some (.lst zs) ∧ xs.length + zs.length ≤ sizeLine ∧ Q .non (upd H l (.lst (xs ++ zs)))) := rfl
theorem rPop_ap (x : V) (vs : List V) (H : Hp) (Q : VK) : rPop  x vs H Q = (∃ l xs y, x = .ref l ∧ vs = [] ∧ H l = some (.lst xs) ∧ xs[xs.length - 1]? = some y ∧ Q y (upd H l (.lst xs.dropLast))) := rfl
theorem rPopAt_ap (x : V) (vs : List V) (H : Hp) (Q : VK) : rPopAt  x vs H Q = (∃ l xs i k y, x = .ref l ∧ vs = [.int i] ∧ H l = some (.lst xs) ∧ -(2 ^ 63) ≤ i ∧ i < 2 ^ 63 ∧ seqIndex? i xs.length = some k ∧ xs[k]? = some y ∧ Q y (upd H l (.lst (xs.eraseIdx k)))) := rfl
theorem rReverse_ap (x : V) (vs : List V) (H : Hp) (Q : VK) : rReverse  x vs H Q = (∃ l xs, x = .ref l ∧ vs = [] ∧ H l = some (.lst xs) ∧ Q .non (upd H l (.lst xs.reverse))) := rfl
theorem rClear_ap (x : V) (vs : List V) (H : Hp) (Q : VK) : rClear  x vs H Q = (∃ l xs, x = .ref l ∧ vs = [] ∧ H l = some (.lst xs) ∧ Q .non (upd H l (.lst []))) := rfl
theorem rCat_ap (x : V) (y : V) (H : Hp) (Q : VK) : rCat  x y H Q = (∃ l b xs zs, x = .ref l ∧ y = .ref b ∧ H l = some (.lst xs) ∧ H b = some (.lst zs) ∧ xs.length + zs.length ≤ sizeLine ∧ ∀ p, H p = none → Q (.ref p) (upd H p (.lst (xs ++ zs)))) := rfl
theorem rRep_ap (x : V) (y : V) (H : Hp) (Q : VK) : rRep  x y H Q = (∃ l k xs, x = .ref l ∧ y = .int k ∧ H l = some (.lst xs) ∧ -(2 ^ 63) ≤ k ∧ k < 2 ^ 63 ∧ xs.length * k.toNat ≤ sizeLine ∧
  ∀ p, H p = none → Q (.ref p) (upd H p (.lst (List.replicate k.toNat xs).flatten))) := rfl
theorem tDGet_ap (td ty : TE) (σ : St) (H : Hp) (Q : VK) : tDGet td ty σ H Q = (td σ H fun x H1 => ty σ H1 fun y H2 => ∃ a v, x = .ref a ∧ DGet H2 a y (some v) ∧ Q v H2) := rfl
theorem tDIn_ap (ty td : TE) (σ : St) (H : Hp) (Q : VK) : tDIn ty td σ H Q = (ty σ H fun y H1 => td σ H1 fun x H2 => ∃ a o, x = .ref a ∧ DGet H2 a y o ∧ Q (.bl o.isSome) H2) := rfl
theorem tDNotIn_ap (ty td : TE) (σ : St) (H : Hp) (Q : VK) : tDNotIn ty td σ H Q = (ty σ H fun y H1 => td σ H1 fun x H2 => ∃ a o, x = .ref a ∧ DGet H2 a y o ∧ Q (.bl (!o.isSome)) H2) := rfl
theorem sDPut_ap (td ty tv : TE) (D : Ends) (σ : St) (H : Hp) : sDPut td ty tv D σ H = (tv σ H fun v H1 => td σ H1 fun x H2 => ty σ H2 fun y H3 => ∃ a H4, x = .ref a ∧ DPut H3 a y v H4 ∧ D.nx σ H4) := rfl
theorem sDAug_ap (td ty tv : TE) (rd : V → V → Hp → VK → Prop) (D : Ends) (σ : St) (H : Hp) : sDAug td ty tv rd D σ H = (td σ H fun x H1 => ty σ H1 fun y H2 => ∃ a v, x = .ref a ∧ DGet H2 a y (some v) ∧
  tv σ H2 fun y2 H3 => rd v y2 H3 fun z H4 => ∃ H5, DPut H4 a y z H5 ∧ D.nx σ H5) := rfl
theorem sDDel_ap (td ty : TE) (D : Ends) (σ : St) (H : Hp) : sDDel td ty D σ H = (td σ H fun x H1 => ty σ H1 fun y H2 => ∃ a kvs k, x = .ref a ∧ H2 a = some (.dK kvs) ∧ y = kV k ∧ (valV kvs k).isSome = true ∧ D.nx σ (upd H2 a (.dK (dropK kvs k)))) := rfl
theorem tDNewK_ap (x_0 : St) (H : Hp) (Q : VK) : tDNewK  x_0 H Q = (∀ p, H p = none → Q (.ref p) (upd H p (.dK []))) := rfl
theorem tDNewT_ap (x_0 : St) (H : Hp) (Q : VK) : tDNewT  x_0 H Q = (∀ p, H p = none → Q (.ref p) (upd H p (.dT []))) := rfl
theorem tDisp_ap (trs : List (TE × TE)) (σ : St) (H : Hp) (Q : VK) : tDisp trs σ H Q = (∀ p, H p = none → tPairs trs σ (upd H p (.dK [])) fun ps H2 => H2 p = some (.dK []) ∧ ∃ kvs : List (Key × V), ps = kvs.map (fun kv => (kV kv.1, kv.2)) ∧ kvs.length ≤ 15 ∧ Q (.ref p) (upd H2 p (.dK (mergeK [] kvs)))) := rfl
theorem tDGet1_ap (td ty : TE) (σ : St) (H : Hp) (Q : VK) : tDGet1 td ty σ H Q = (td σ H fun x H1 => ∃ a, x = .ref a ∧ IsD H1 a ∧ ty σ H1 fun y H2 => ∃ o, DGet H2 a y o ∧ Q (o.getD .non) H2) := rfl
theorem tDGet2_ap (td ty tx : TE) (σ : St) (H : Hp) (Q : VK) : tDGet2 td ty tx σ H Q = (td σ H fun x H1 => ∃ a, x = .ref a ∧ IsD H1 a ∧ ty σ H1 fun y H2 => tx σ H2 fun z H3 => ∃ o, DGet H3 a y o ∧ Q (o.getD z) H3) := rfl
theorem tDPop1_ap (td ty : TE) (σ : St) (H : Hp) (Q : VK) : tDPop1 td ty σ H Q = (td σ H fun x H1 => ∃ a, x = .ref a ∧ IsD H1 a ∧ ty σ H1 fun y H2 => ∃ kvs k v, H2 a = some (.dK kvs) ∧ y = kV k ∧ valV kvs k = some v ∧ Q v (upd H2 a (.dK (dropK kvs k)))) := rfl
theorem tDPop2_ap (td ty tx : TE) (σ : St) (H : Hp) (Q : VK) : tDPop2 td ty tx σ H Q = (td σ H fun x H1 => ∃ a, x = .ref a ∧ IsD H1 a ∧ ty σ H1 fun y H2 => tx σ H2 fun z H3 => ∃ kvs k, H3 a = some (.dK kvs) ∧ y = kV k ∧
  (∀ v, valV kvs k = some v → Q v (upd H3 a (.dK (dropK kvs k)))) ∧ (valV kvs k = none → Q z H3)) := rfl
theorem tTrue_ap (x_0 : St) (H : Hp) (Q : (Bool → Hp → Prop)) : tTrue  x_0 H Q = (Q true H) := rfl
theorem iStr_ap (tl : TE) (σ : St) (H : Hp) (R : (It → Hp → Prop)) : iStr tl σ H R = (tl σ H fun x H1 => ∃ z, x = .str z ∧ R (Its (signsV z)) H1) := rfl
theorem rSlS_ap (x : V) (lo : Option Int) (hi : Option Int) (H : Hp) (Q : VK) : rSlS  x lo hi H Q = (∃ z, x = .str z ∧ z.length ≤ sizeLine ∧ Q (.str (Txt.slice z lo hi)) H) := rfl
theorem rJoin_ap (K : PySem.W.Frag) (x : V) (vs : List V) (H : Hp) (Q : VK) : rJoin K x vs H Q = (∃ sep p ys, x = .str sep ∧ vs = [.ref p] ∧ SqL K H p (strsV ys) ∧ (ys.map (·.length)).sum + ys.length * sep.length ≤ 16777216 ∧ Q (.str (Txt.join sep ys)) H) := rfl
theorem rSplit_ap (x : V) (vs : List V) (H : Hp) (Q : VK) : rSplit  x vs H Q = (∃ z y, x = .str z ∧ vs = [.str y] ∧ y.length ≠ 0 ∧ z.length + 2 ≤ sizeLine ∧ (Txt.split z y).length ≤ sizeLine ∧ ∀ p, H p = none → Q (.ref p) (upd H p (.lst (strsV (Txt.split z y))))) := rfl
theorem rIndexS_ap (x : V) (vs : List V) (H : Hp) (Q : VK) : rIndexS  x vs H Q = (∃ z y i rest, x = .str z ∧ vs = [.str y] ∧ Builtin.Str.occurrences z y 0 z.length 1 = i :: rest ∧ Q (.int (i : Nat)) H) := rfl
theorem tMethV_ap (OK : Addr → Prop) (m : Str) (SPV : Addr → Sp) (E : XK) (ta : TE) (t : TA) (σ : St) (H : Hp) (Q : VK) : tMethV OK m SPV E ta t σ H Q = (ta σ H fun x H1 => ∃ a C dx fs, x = .ref a ∧ H1 a = some (.ins C dx fs) ∧ OK C ∧ fs.lookup m = none ∧
  t σ H1 fun vs H2 => SPV C (x :: vs) H2 Q E) := rfl
theorem tDGetK_ap (kvs : SVs) (ty : TE) (σ : St) (H : Hp) (Q : VK) : tDGetK kvs ty σ H Q = (ty σ H fun y H1 => ∃ x v, y = .str x ∧ kvs.lookup x = some v ∧ Q v H1) := rfl
theorem iEnum_ap (K : PySem.W.Frag) (ta : TA) (σ : St) (H : Hp) (R : (It → Hp → Prop)) : iEnum K ta σ H R = (ta σ H fun vs H1 => ∃ a, vs = [.ref a] ∧ (∃ xs, SqL K H1 a xs) ∧ R (Ite K a) H1) := rfl
theorem iZip_ap (K : PySem.W.Frag) (ta : TA) (σ : St) (H : Hp) (R : (It → Hp → Prop)) : iZip K ta σ H R = (ta σ H fun vs H1 => ∃ a b, vs = [.ref a, .ref b] ∧ (∃ xs, SqL K H1 a xs) ∧ (∃ ys, SqL K H1 b ys) ∧ R (Itz K a b) H1) := rfl
theorem iRev_ap (K : PySem.W.Frag) (ta : TA) (σ : St) (H : Hp) (R : (It → Hp → Prop)) : iRev K ta σ H R = (ta σ H fun vs H1 => ∃ a xs, vs = [.ref a] ∧ SqL K H1 a xs ∧ R (Itv K a xs.length) H1) := rfl
theorem rInsert_ap (x : V) (vs : List V) (H : Hp) (Q : VK) : rInsert  x vs H Q = (∃ l xs i y, x = .ref l ∧ vs = [.int i, y] ∧ H l = some (.lst xs) ∧ 0 ≤ i ∧ i < 2 ^ 62 ∧ i ≤ (xs.length : Int) ∧ xs.length < sizeLine ∧ Q .non (upd H l (.lst (xs.take i.toNat ++ y :: xs.drop i.toNat)))) := rfl
theorem rNeL_ap (K : PySem.W.Frag) (x : V) (y : V) (H : Hp) (Q : VK) : rNeL K x y H Q = (∃ p q b, x = .ref p ∧ y = .ref q ∧ EqH K H 8 (.ref p) (.ref q) b ∧ Q (.bl (!b)) H) := rfl
theorem rEqL_ap (K : PySem.W.Frag) (x : V) (y : V) (H : Hp) (Q : VK) : rEqL K x y H Q = (∃ p q b, x = .ref p ∧ y = .ref q ∧ EqH K H 8 (.ref p) (.ref q) b ∧ Q (.bl b) H) := rfl
theorem tJ0_ap (x_0 : St) (H : Hp) (Q : (Hp → Prop)) : tJ0  x_0 H Q = (Q H) := rfl
theorem tJI_ap (te : TE) (t : TJ) (σ : St) (H : Hp) (Q : (Hp → Prop)) : tJI te t σ H Q = (te σ H fun v H1 => ∃ i, v = .int i ∧ i.natAbs.log2 < 1920 ∧ t σ H1 Q) := rfl
theorem tJS_ap (te : TE) (t : TJ) (σ : St) (H : Hp) (Q : (Hp → Prop)) : tJS te t σ H Q = (te σ H fun v H1 => ∃ x, v = .str x ∧ x.length ≤ 1000 ∧ t σ H1 Q) := rfl
theorem tJR_ap (te : TE) (t : TJ) (σ : St) (H : Hp) (Q : (Hp → Prop)) : tJR te t σ H Q = (te σ H fun v H1 => ∃ x, v = .str x ∧ x.length ≤ 1000 ∧ (∀ c ∈ x.cps.toList, c < 16 ^ 8) ∧ t σ H1 Q) := rfl
theorem tJoined_ap (t : TJ) (σ : St) (H : Hp) (Q : VK) : tJoined t σ H Q = (t σ H fun H1 => ∀ y : Str, Q (.str y) H1) := rfl
theorem tXInit_ap (K : PySem.W.Frag) (t : TA) (σ : St) (H : Hp) (Q : VK) : tXInit K t σ H Q = (t σ H fun vs H1 => ∃ x C od v, vs = [.ref x, v] ∧ H1 x = some (.ext (XF x C od)) ∧ XCls K C ∧ Q .non H1) := rfl
theorem tMakeX_ap (C : Addr) (sp : Sp) (t : TA) (σ : St) (H : Hp) (Q : VK) : tMakeX C sp t σ H Q = (t σ H fun vs H1 => vs.length ≤ sizeLine ∧ ∀ x, H1 x = none → sp (.ref x :: vs) (upd H1 x (.ext (XF x C none))) (fun v H2 => v = .non ∧ Q (.ref x) H2) (fun _ _ _ => False)) := rfl
theorem sFldX0_ap (K : PySem.W.Frag) (ta tv : TE) (f : Str) (D : Ends) (σ : St) (H : Hp) : sFldX0 K ta tv f D σ H = (tv σ H fun y H1 => ta σ H1 fun x H2 => ∃ a C, x = .ref a ∧ H2 a = some (.ext (XF a C none)) ∧ XCls K C ∧ NoAttr K C f ∧
  ∀ dx, H2 dx = none → dx ≠ a → D.nx σ (upd (upd H2 a (.ext (XF a C (some dx)))) dx (.ext (XD dx [(f, y)])))) := rfl
theorem sFldX1_ap (K : PySem.W.Frag) (ta tv : TE) (f : Str) (D : Ends) (σ : St) (H : Hp) : sFldX1 K ta tv f D σ H = (tv σ H fun y H1 => ta σ H1 fun x H2 => ∃ a C dx fs, x = .ref a ∧ H2 a = some (.ext (XF a C (some dx))) ∧ H2 dx = some (.ext (XD dx fs)) ∧ XCls K C ∧ NoAttr K C f ∧ fs.length < 1000 ∧
  D.nx σ (upd H2 dx (.ext (XD dx (putF f y fs))))) := rfl
theorem tFldX_ap (K : PySem.W.Frag) (ta : TE) (f : Str) (σ : St) (H : Hp) (Q : VK) : tFldX K ta f σ H Q = (ta σ H fun x H1 => ∃ a C dx fs v, x = .ref a ∧ H1 a = some (.ext (XA a C (some dx))) ∧ H1 dx = some (.ext (XD dx fs)) ∧ XCls K C ∧ NoAttr K C f ∧ fs.lookup f = some v ∧ Q v H1) := rfl
theorem tCallX_ap (sp : Sp) (dvs : List V) (E : St → XK) (t : TA) (σ : St) (H : Hp) (Q : VK) : tCallX sp dvs E t σ H Q = (t σ H fun vs H1 => sp (vs ++ dvs) H1 Q (E σ)) := rfl
theorem tMethX_ap (C : Addr) (m : Str) (sp : Sp) (dvs : List V) (E : St → XK) (ta : TE) (t : TA) (σ : St) (H : Hp) (Q : VK) : tMethX C m sp dvs E ta t σ H Q = (ta σ H fun x H1 => ∃ a dx fs, x = .ref a ∧ H1 a = some (.ins C dx fs) ∧ fs.lookup m = none ∧
  t σ H1 fun vs H2 => sp (x :: (vs ++ dvs)) H2 Q (E σ)) := rfl
theorem sRaise_ap (K : PySem.W.Frag) (E : St → XK) (te : TE) (D : Ends) (σ : St) (H : Hp) : sRaise K E te D σ H = (te σ H fun v H1 => ∃ x C od, v = .ref x ∧ H1 x = some (.ext (XF x C od)) ∧ XCls K C ∧ E σ (.ref C) od (upd H1 x (.ext (XA x C od)))) := rfl
theorem iRngD_ap (ta : TA) (σ : St) (H : Hp) (R : (It → Hp → Prop)) : iRngD ta σ H R = (ta σ H fun vs H1 => ∃ i j : Int, vs = [.int i, .int j, .int (-1)] ∧ (-1073741824 ≤ i ∧ i < 1073741824 ∧ -1073741824 ≤ j ∧ j < 1073741824) ∧ R (Itd i (i - j).toNat) H1) := rfl
theorem tListRev_ap (K : PySem.W.Frag) (ta : TA) (σ : St) (H : Hp) (Q : VK) : tListRev K ta σ H Q = (ta σ H fun vs H1 => ∃ a xs, vs = [.ref a] ∧ SqL K H1 a xs ∧ ∀ l, H1 l = none → Q (.ref l) (upd H1 l (.lst xs.reverse))) := rfl
theorem tMinD_ap (K : PySem.W.Frag) (ta : TA) (td : TE) (σ : St) (H : Hp) (Q : VK) : tMinD K ta td σ H Q = (ta σ H fun vs H1 => td σ H1 fun y H2 => ∃ l ks, vs = [.ref l] ∧ SqL K H2 l (List.map V.int ks) ∧ Q (match ks.min? with | some m => .int m | none => y) H2) := rfl
theorem rInR_ap (K : PySem.W.Frag) (neg : Bool) (x : V) (y : V) (H : Hp) (Q : VK) : rInR K neg x y H Q = (∃ p qs f, y = .ref p ∧ SqL K H p (List.map V.ref qs) ∧ (∀ q ∈ qs, EqH K H 8 (.ref q) x (f q)) ∧ Q (.bl (if neg then !(qs.any f) else qs.any f)) H) := rfl
theorem rIndexL_ap (K : PySem.W.Frag) (x : V) (vs : List V) (H : Hp) (Q : VK) : rIndexL K x vs H Q = (∃ l ks k, x = .ref l ∧ vs = [.int k] ∧ SqL K H l (List.map V.int ks) ∧ k ∈ ks ∧ ks.length ≤ 1000 ∧ Q (.int (ks.idxOf k : Nat)) H) := rfl
theorem rKeys_ap (x : V) (vs : List V) (H : Hp) (Q : VK) : rKeys  x vs H Q = (∃ d kvs, x = .ref d ∧ vs = [] ∧ H d = some (.dK kvs) ∧ ∀ p, H p = none → Q (.ref p) (upd H p (.ext (KeyW p d)))) := rfl
theorem rVals_ap (x : V) (vs : List V) (H : Hp) (Q : VK) : rVals  x vs H Q = (∃ d kvs, x = .ref d ∧ vs = [] ∧ H d = some (.dK kvs) ∧ ∀ p, H p = none → Q (.ref p) (upd H p (.ext (ValW p d)))) := rfl
theorem rIndexT_ap (K : PySem.W.Frag) (x : V) (vs : List V) (H : Hp) (Q : VK) : rIndexT K x vs H Q = (∃ l ys k j, x = .ref l ∧ vs = [.str k] ∧ SqL K H l (strsV ys) ∧ ys[j]? = some k ∧ (∀ m, m < j → ys[m]? ≠ some k) ∧ ys.length ≤ 1000 ∧ Q (.int (j : Nat)) H) := rfl
theorem tF0_ap (x_0 : St) (H : Hp) (acc : Str) (Q : (Str → Hp → Prop)) : tF0  x_0 H acc Q = (acc.length ≤ sizeLine ∧ Q acc H) := rfl
theorem tFC_ap (c : Str) (t : TF) (σ : St) (H : Hp) (acc : Str) (Q : (Str → Hp → Prop)) : tFC c t σ H acc Q = (acc.length + c.length ≤ sizeLine ∧ t σ H (acc ++ c) Q) := rfl
theorem tFI_ap (te : TE) (t : TF) (σ : St) (H : Hp) (acc : Str) (Q : (Str → Hp → Prop)) : tFI te t σ H acc Q = (te σ H fun v H1 => ∃ i, v = .int i ∧ i.natAbs.log2 < 1920 ∧ acc.length + (Str.ofString (toString i)).length ≤ sizeLine ∧ t σ H1 (acc ++ Str.ofString (toString i)) Q) := rfl
theorem tFS_ap (te : TE) (t : TF) (σ : St) (H : Hp) (acc : Str) (Q : (Str → Hp → Prop)) : tFS te t σ H acc Q = (te σ H fun v H1 => ∃ x, v = .str x ∧ x.length ≤ 1000 ∧ acc.length + x.length ≤ sizeLine ∧ t σ H1 (acc ++ x) Q) := rfl
theorem tJoinF_ap (t : TF) (σ : St) (H : Hp) (Q : VK) : tJoinF t σ H Q = (t σ H Str.empty fun y H1 => Q (.str y) H1) := rfl
theorem tCallF_ap (q : Str) (params : Arguments) (body : Expr) (scope : Scope) (y : Str) (t : TE) (tf : TE) (ta : TA) (σ : St) (H : Hp) (Q : VK) : tCallF q params body scope y t tf ta σ H Q = (tf σ H fun x H1 => ∃ f, x = .ref f ∧ (∃ cl c', H1 f = some (.ext (LamF f q params body scope [(y, cl)] c'))) ∧ ta σ H1 fun vs H2 => ∃ a cl c' v, vs = [a] ∧
  H2 f = some (.ext (LamF f q params body scope [(y, cl)] c')) ∧ H2 c' = some (.ext (CodR c' q)) ∧ H2 cl = some (.ext (CelO cl v)) ∧ t [some a, some v] (delH H2 cl) fun x H' => Q x (upd H' cl (.ext (CelO cl v)))) := rfl
def ForW (J : It) (g : TG) (tb : TS) (D : Ends) (σ : St) (H : Hp) : Prop := ∃ W : Nat → Nat → St → Hp → Prop, (∃ m, W 0 m σ H) ∧ ∀ i m σ H, W i m σ H →
  (J.stop i H ∧ D.nx σ H) ∨ (J.go i H ∧ ∃ N : St → Hp → Prop, (∀ σ' H', N σ' H' → ∃ m', m' < m ∧ W (i + 1) m' σ' H') ∧ ∀ x H', J.yld i H x H' → g x σ H' fun σ2 H2 => tb { D with nx := N, ct := N, bk := D.nx } σ2 H2)
theorem tFor_ap (wi : TI) (g : TG) (tb : TS) (D : Ends) (σ : St) (H : Hp) : tFor wi g tb D σ H = wi σ H fun J H1 => ForW J g tb D σ H1 := rfl
def CompR (J : It) (g : TG) (tc : TT) (te : TE) (σb : St) (Q : VK) (H : Hp) : Prop := ∃ W : Nat → Nat → List V → Hp → Prop, (∃ m, W 0 m [] H) ∧ CompW J g tc te σb Q W
theorem tFld_ap (K : PySem.W.Frag) (ta : TE) (f : Str) (σ : St) (H : Hp) (Q : VK) : tFld K ta f σ H Q = (ta σ H fun x H1 => ∃ a v, x = .ref a ∧ FldAt K H1 a f v ∧ Q v H1) := by
  unfold tFld FldAt
  congr 1
  funext x H1
  apply propext
  constructor
  · rintro ⟨a, C, dx, fs, v, h1, h2, h3, h4, h5, h6⟩; exact ⟨a, v, h1, ⟨C, dx, fs, h2, h3, h4, h5⟩, h6⟩
  · rintro ⟨a, v, h1, ⟨C, dx, fs, h2, h3, h4, h5⟩, h6⟩; exact ⟨a, C, dx, fs, v, h1, h2, h3, h4, h5, h6⟩
theorem tCompX_ap (wi : TI) (g : TG) (tc : TT) (te : XK → TE) (sel : List (Option Nat)) (E : St → XK) (σ : St) (H : Hp) (Q : VK) : tCompX wi g tc te sel E σ H Q = wi σ H fun J H1 => CompR J g tc (te (E σ)) (blk sel σ) Q H1 := rfl
theorem tComp_ap (wi : TI) (g : TG) (tc : TT) (te : TE) (sel : List (Option Nat)) (σ : St) (H : Hp) (Q : VK) : tComp wi g tc te sel σ H Q = wi σ H fun J H1 => CompR J g tc te (blk sel σ) Q H1 := rfl
theorem iRng1_ap (ta : TA) (σ : St) (H : Hp) (R : It → Hp → Prop) : iRng1 ta σ H R = (ta σ H fun vs H1 => ∃ j : Int, vs = [.int j] ∧ -4611686018427387904 ≤ j ∧ j < 4611686018427387904 ∧ R (Itr 0 j.toNat) H1) := rfl
theorem iRng2_ap (ta : TA) (σ : St) (H : Hp) (R : It → Hp → Prop) : iRng2 ta σ H R = (ta σ H fun vs H1 => ∃ i j : Int, vs = [.int i, .int j] ∧ (-4611686018427387904 ≤ i ∧ i < 4611686018427387904 ∧ -4611686018427387904 ≤ j ∧ j < 4611686018427387904) ∧ R (Itr i (j - i).toNat) H1) := rfl
theorem sel_map (sel : List (Option Nat)) (σ : St) : blk sel σ = sel.map fun o => o.bind fun j => (σ[j]?).join := rfl
theorem tIfS_by {c : TT} {t u : TS} {D : Ends} {σ : St} {H : Hp} (b : Bool) (hc : ∀ Q : Bool → Hp → Prop, Q b H → c σ H Q) (h1 : b = true → t D σ H) (h2 : b = false → u D σ H) : tIfS c t u D σ H := by
  refine hc _ ?_
  cases b with
  | true => exact h1 rfl
  | false => exact h2 rfl
theorem tS_any {t : TS} {D : Ends} {σ : St} {H : Hp} (R : St → Hp → Prop) (h : ∀ D' : Ends, (∀ σ H, R σ H → D'.nx σ H) → D'.rt = D.rt → D'.bk = D.bk → D'.ct = D.ct → t D' σ H) (hR : ∀ σ H, R σ H → D.nx σ H) : t D σ H := h D hR rfl rfl rfl
theorem ForW.range {lo : Int} {n : Nat} {g : TG} {tb : TS} {D : Ends} {σ : St} {H : Hp} (Pv : Nat → St → Hp → Prop) (h0 : Pv 0 σ H)
    (hs : ∀ i σ H, i < n → Pv i σ H → g (.int (lo + i)) σ H fun σ2 H2 => tb { D with nx := Pv (i + 1), ct := Pv (i + 1), bk := D.nx } σ2 H2) (hd : ∀ σ H, Pv n σ H → D.nx σ H) : ForW (Itr lo n) g tb D σ H := for_range Pv h0 hs hd
theorem ForW.list {K : PySem.W.Frag} {a : Addr} {xs : List V} {g : TG} {tb : TS} {D : Ends} {σ : St} {H : Hp} (Pv : Nat → St → Hp → Prop) (h0 : Pv 0 σ H) (hl : ∀ i σ H, i ≤ xs.length → Pv i σ H → SqL K H a xs)
    (hs : ∀ i x σ H, xs[i]? = some x → Pv i σ H → g x σ H fun σ2 H2 => tb { D with nx := Pv (i + 1), ct := Pv (i + 1), bk := D.nx } σ2 H2) (hd : ∀ σ H, Pv xs.length σ H → D.nx σ H) : ForW (Itl K a) g tb D σ H := for_list Pv h0 hl hs hd
theorem ForW.its {xs : List V} {g : TG} {tb : TS} {D : Ends} {σ : St} {H : Hp} (Pv : Nat → St → Hp → Prop) (h0 : Pv 0 σ H)
    (hs : ∀ i x σ H, xs[i]? = some x → Pv i σ H → g x σ H fun σ2 H2 => tb { D with nx := Pv (i + 1), ct := Pv (i + 1), bk := D.nx } σ2 H2) (hd : ∀ σ H, Pv xs.length σ H → D.nx σ H) : ForW (Its xs) g tb D σ H := for_its Pv h0 hs hd
theorem CompR.list {K : PySem.W.Frag} {a : Addr} {xs : List V} {g : TG} {tc : TT} {te : TE} {σb : St} {Q : VK} {H : Hp} (Pv : Nat → List V → Hp → Prop) (hz : xs.length ≤ sizeLine) (h0 : Pv 0 [] H) (hl : ∀ i ys H, i ≤ xs.length → Pv i ys H → SqL K H a xs ∧ ys.length ≤ i)
    (hs : ∀ i x ys H, xs[i]? = some x → Pv i ys H → CompTurn Pv g tc te σb i x ys H) (hd : ∀ ys H, Pv xs.length ys H → ∀ p, H p = none → Q (.ref p) (upd H p (.lst ys))) : CompR (Itl K a) g tc te σb Q H := comp_list Pv hz h0 hl hs hd
theorem CompR.its {xs : List V} {g : TG} {tc : TT} {te : TE} {σb : St} {Q : VK} {H : Hp} (Pv : Nat → List V → Hp → Prop) (hz : xs.length ≤ sizeLine) (h0 : Pv 0 [] H) (hl : ∀ i ys H, i ≤ xs.length → Pv i ys H → ys.length ≤ i)
    (hs : ∀ i x ys H, xs[i]? = some x → Pv i ys H → CompTurn Pv g tc te σb i x ys H) (hd : ∀ ys H, Pv xs.length ys H → ∀ p, H p = none → Q (.ref p) (upd H p (.lst ys))) : CompR (Its xs) g tc te σb Q H := comp_its Pv hz h0 hl hs hd
theorem CompR.range {lo : Int} {n : Nat} {g : TG} {tc : TT} {te : TE} {σb : St} {Q : VK} {H : Hp} (Pv : Nat → List V → Hp → Prop) (hz : n ≤ sizeLine) (h0 : Pv 0 [] H) (hl : ∀ i ys H, i ≤ n → Pv i ys H → ys.length ≤ i)
    (hs : ∀ i ys H, i < n → Pv i ys H → CompTurn Pv g tc te σb i (.int (lo + i)) ys H) (hd : ∀ ys H, Pv n ys H → ∀ p, H p = none → Q (.ref p) (upd H p (.lst ys))) : CompR (Itr lo n) g tc te σb Q H := comp_range Pv hz h0 hl hs hd
theorem ForW.of {J : It} {n : Nat} {g : TG} {tb : TS} {D : Ends} {σ : St} {H : Hp} (Pv : Nat → St → Hp → Prop) (h0 : Pv 0 σ H) (hgo : ∀ i σ H, i < n → Pv i σ H → J.go i H) (hst : ∀ σ H, Pv n σ H → J.stop n H)
    (hs : ∀ i σ H x H', i < n → Pv i σ H → J.yld i H x H' → g x σ H' fun σ2 H2 => tb { D with nx := Pv (i + 1), ct := Pv (i + 1), bk := D.nx } σ2 H2) (hd : ∀ σ H, Pv n σ H → D.nx σ H) : ForW J g tb D σ H := by
  refine ⟨fun i m σ H => m = n - i ∧ i ≤ n ∧ Pv i σ H, ⟨n, by simp, Nat.zero_le _, h0⟩, ?_⟩
  rintro i m σ H ⟨rfl, hi, p⟩
  by_cases hlt : i < n
  · exact .inr ⟨hgo i σ H hlt p, Pv (i + 1), fun σ' H' p' => ⟨n - (i + 1), by omega, rfl, hlt, p'⟩, fun x H' y => hs i σ H x H' hlt p y⟩
  · have e : i = n := by omega
    subst e
    exact .inl ⟨hst σ H p, hd σ H p⟩
theorem CompR.of {J : It} {n : Nat} {g : TG} {tc : TT} {te : TE} {σb : St} {Q : VK} {H : Hp} (Pv : Nat → List V → Hp → Prop) (hz : n ≤ sizeLine) (h0 : Pv 0 [] H) (hgo : ∀ i ys H, i < n → Pv i ys H → J.go i H) (hst : ∀ ys H, Pv n ys H → J.stop n H) (hl : ∀ i ys H, i < n → Pv i ys H → ys.length ≤ i)
    (hs : ∀ i ys H x H', i < n → Pv i ys H → J.yld i H x H' → CompTurn Pv g tc te σb i x ys H') (hd : ∀ ys H, Pv n ys H → ∀ p, H p = none → Q (.ref p) (upd H p (.lst ys))) : CompR J g tc te σb Q H := by
  refine ⟨fun i m ys H => m = n - i ∧ i ≤ n ∧ Pv i ys H, ⟨n, by simp, Nat.zero_le _, h0⟩, ?_⟩
  rintro i m ys H ⟨rfl, hi, p⟩
  by_cases hlt : i < n
  · have hyl := hl i ys H hlt p
    refine .inr ⟨hgo i ys H hlt p, by omega, fun x H' y => ?_⟩
    exact hs i ys H x H' hlt p y (fun ys' H' => ∃ m', m' < n - i ∧ m' = n - (i + 1) ∧ i + 1 ≤ n ∧ Pv (i + 1) ys' H') fun ys' H' r => ⟨n - (i + 1), by omega, rfl, hlt, r⟩
  · have e : i = n := by omega
    subst e
    exact .inl ⟨hst ys H p, hd ys H p⟩
section
variable {K : PySem.W.Frag} {a b : Addr} {xs ys : List V} {g : TG} {tb : TS} {D : Ends} {σ σb : St} {H : Hp} {tc : TT} {te : TE} {Q : VK}
theorem ForW.zip (Pv : Nat → St → Hp → Prop) (h0 : Pv 0 σ H) (hl : ∀ i σ H, i ≤ xs.length → Pv i σ H → SqL K H a xs ∧ SqL K H b ys) (n : Nat) (hn : n = min xs.length ys.length)
    (hs : ∀ i x y σ H p, xs[i]? = some x → ys[i]? = some y → Pv i σ H → H p = none → g (.ref p) σ (upd H p (.tup [x, y])) fun σ2 H2 => tb { D with nx := Pv (i + 1), ct := Pv (i + 1), bk := D.nx } σ2 H2) (hd : ∀ σ H, Pv n σ H → D.nx σ H) : ForW (Itz K a b) g tb D σ H := by
  subst hn
  refine ForW.of (n := min xs.length ys.length) Pv h0 (fun i σ H hi p => ?_) (fun σ H p => ?_) (fun i σ H v H' hi p y => ?_) hd
  · obtain ⟨z1, z2⟩ := hl i σ H (by omega) p
    exact ⟨xs, ys, xs[i], ys[i], z1, z2, by rw [List.getElem?_eq_getElem (by omega)], by rw [List.getElem?_eq_getElem (by omega)]⟩
  · obtain ⟨z1, z2⟩ := hl _ σ H (by omega) p
    exact ⟨xs, ys, z1, z2, by omega⟩
  · obtain ⟨q, x, y, hq, rfl, hx, hy, rfl⟩ := y
    obtain ⟨z1, z2⟩ := hl i σ H (by omega) p
    exact hs i x y σ H q (hx xs z1) (hy ys z2) p hq
end
theorem Sub.name {r : St} {v : Option V} : Sub (none :: r) (v :: r) := by
  refine ⟨rfl, fun i w h => ?_⟩
  cases i with
  | zero => cases h
  | succ i => exact h
end L2
local macro_rules | `(tactic| walk_at "RD") => `(tactic| ((try dsimp only [L2.cxOf, L2.cxOfH, L2.Cx.nox, L2.Cx.wish, L2.Cx.block, L2.Cx.tr, L2.Cx.hn]); (try simp only [L2.tVar_ap, L2.tC_ap, L2.tAdd_ap, L2.tSub_ap, L2.tMul_ap, L2.tCmp_ap, L2.tIsN_ap, L2.tNotN_ap, L2.tB_ap, L2.tAnd_ap, L2.tOr_ap, L2.tNot_ap, L2.tAndV_ap, L2.tOrV_ap, L2.tNotV_ap, L2.tIf_ap, L2.tNext_ap, L2.tSeq_ap, L2.tBreak_ap, L2.tCont_ap, L2.tDrop_ap, L2.tRet_ap, L2.tRetN_ap, L2.tNever_ap, L2.gName_ap, L2.gNil_ap, L2.gCons_ap, L2.gTup_ap, L2.gSub_ap, L2.tAsg_ap, L2.tPar_ap, L2.tAug_ap, L2.tAugS_ap, L2.iList_ap, L2.iTup_ap, L2.tOp_ap, L2.tUn_ap, L2.rI_ap, L2.rI0_ap, L2.rU_ap, L2.rEq_ap, L2.rNe_ap, L2.tTest_ap, L2.tChain_ap, L2.tCon_ap, L2.sFld_ap, L2.sFldAug_ap, L2.rAdd_ap, L2.rSub_ap, L2.tNil_ap, L2.tCons_ap, L2.tTup_ap, L2.tLst_ap, L2.tCall_ap, L2.tMeth_ap, L2.tMake_ap, L2.tCallK_ap, L2.tCB_ap, L2.tNoPart_ap, L2.tPart_ap, L2.tSl_ap, L2.rSlT_ap, L2.rLtT_ap, L2.rCatT_ap, L2.rIxL_ap, L2.rIxT_ap, L2.rIxS_ap, L2.rIx_ap, L2.rSetL_ap, L2.rSlL_ap, L2.rIn_ap, L2.tBM0_ap, L2.tBM_ap, L2.rAppend_ap, L2.rExtend_ap, L2.rPop_ap, L2.rPopAt_ap, L2.rReverse_ap, L2.rClear_ap, L2.rCat_ap, L2.rRep_ap, L2.tDGet_ap, L2.tDIn_ap, L2.tDNotIn_ap, L2.sDPut_ap, L2.sDAug_ap, L2.sDDel_ap, L2.tDNewK_ap, L2.tDNewT_ap, L2.tDisp_ap, L2.tDGet1_ap, L2.tDGet2_ap, L2.tDPop1_ap, L2.tDPop2_ap, L2.tTrue_ap, L2.iStr_ap, L2.rSlS_ap, L2.rJoin_ap, L2.rSplit_ap, L2.rIndexS_ap, L2.tMethV_ap, L2.tDGetK_ap, L2.iEnum_ap, L2.iZip_ap, L2.iRev_ap, L2.rInsert_ap, L2.rNeL_ap, L2.rEqL_ap, L2.tJ0_ap, L2.tJI_ap, L2.tJS_ap, L2.tJR_ap, L2.tJoined_ap, L2.tXInit_ap, L2.tMakeX_ap, L2.sFldX0_ap, L2.sFldX1_ap, L2.tFldX_ap, L2.tCallX_ap, L2.tMethX_ap, L2.sRaise_ap, L2.iRngD_ap, L2.tListRev_ap, L2.tMinD_ap, L2.rInR_ap, L2.rIndexL_ap, L2.rKeys_ap, L2.rVals_ap, L2.rIndexT_ap, L2.tF0_ap, L2.tFC_ap, L2.tFI_ap, L2.tFS_ap, L2.tJoinF_ap, L2.tCallF_ap, L2.tFor_ap, L2.tComp_ap, L2.iRng1_ap, L2.iRng2_ap, L2.tFld_ap, L2.sTry_ap, L2.eHan_ap, L2.tCompX_ap, L2.gone_nx, L2.gone_rt, L2.start, L2.sel_map, List.map_cons, List.map_nil, Option.bind_none, Option.bind_some, Option.join_some, Option.join_none, List.length_cons, List.length_nil, Nat.reduceAdd, Nat.reduceSub, Nat.zero_add, List.replicate, List.cons_append, List.nil_append, List.append_nil, List.set_cons_zero, List.set_cons_succ, List.getElem?_cons_zero, List.getElem?_cons_succ, Option.some.injEq, L2.V.int.injEq, L2.V.bl.injEq, L2.V.str.injEq, L2.V.ref.injEq, L2.V.ty.injEq, exists_eq_left', exists_eq_left, exists_and_left, List.cons.injEq, and_true, true_and, and_assoc, Int.zero_add, reduceCtorEq, false_and, exists_false, and_false, ite_true, ite_false, if_true, if_false, Bool.false_eq_true, L2.scal, L2.tyV, false_or, or_false, Bool.not_true, Bool.not_false, decide_true, decide_false])))
namespace My
open PySem L2
def top (i : Nat) : Stmt := PySem.Challenge.pw_lampway_k45_coming_by.main.body.getD i (.Pass ⟨0, 0, 0, 0⟩)
abbrev s_coming_by : Stmt := top 1
theorem sc_coming_by : FnScope ["comings", "kept"] ["comings"] (defScope s_coming_by) := ⟨rfl, rfl, rfl, by decide +kernel, rfl, by decide +kernel, by decide +kernel⟩
abbrev s__law_draw : Stmt := top 3
theorem sc__law_draw : FnScope ["_law_script", "_law_k", "_law_many", "_law_cell", "_law_seed"] ["_law_script", "_law_k", "_law_many"] (defScope s__law_draw) := ⟨rfl, rfl, rfl, by decide +kernel, rfl, by decide +kernel, by decide +kernel⟩
abbrev s__law_list : Stmt := top 4
theorem sc__law_list : FnScope ["_law_script", "_law_base", "_law_row", "_law_k", "_law_cell"] ["_law_script", "_law_base"] (defScope s__law_list) := ⟨rfl, rfl, rfl, by decide +kernel, rfl, by decide +kernel, by decide +kernel⟩
abbrev s__law_turn : Stmt := top 5
theorem sc__law_turn : FnScope ["_law_script", "_law_k", "_law_cell"] ["_law_script", "_law_k"] (defScope s__law_turn) := ⟨rfl, rfl, rfl, by decide +kernel, rfl, by decide +kernel, by decide +kernel⟩
abbrev s_law : Stmt := top 6
theorem sc_law : FnScope ["_law_script", "_law_rows", "_law_handed", "_law_comes", "_law_k", "_law_side", "_law_turn_here", "_law_found"] ["_law_script"] (defScope s_law) := ⟨rfl, rfl, rfl, by decide +kernel, rfl, by decide +kernel, by decide +kernel⟩
set_option genInjectivity false in
structure Adr where
  {a_coming_by a__law_draw a__law_list a__law_turn a_law : Addr}
  {d_coming_by d__law_draw d__law_list d__law_turn d_law : FuncData}
structure Txt (w : World) (K : PySem.W.Frag) (mg : Str → Option Value) (t : Adr) : Prop where
  m_coming_by : mg "coming_by" = some (.ref t.a_coming_by)
  F_coming_by : Fun K "coming_by" "coming_by" s_coming_by t.a_coming_by t.d_coming_by
  m__law_draw : mg "_law_draw" = some (.ref t.a__law_draw)
  F__law_draw : Fun K "_law_draw" "_law_draw" s__law_draw t.a__law_draw t.d__law_draw
  m__law_list : mg "_law_list" = some (.ref t.a__law_list)
  F__law_list : Fun K "_law_list" "_law_list" s__law_list t.a__law_list t.d__law_list
  m__law_turn : mg "_law_turn" = some (.ref t.a__law_turn)
  F__law_turn : Fun K "_law_turn" "_law_turn" s__law_turn t.a__law_turn t.d__law_turn
  m_law : mg "law" = some (.ref t.a_law)
  F_law : Fun K "law" "law" s_law t.a_law t.d_law
  b_bool : mg "bool" = none
  b_int : mg "int" = none
  b_isinstance : mg "isinstance" = none
  b_len : mg "len" = none
  b_list : mg "list" = none
  b_range : mg "range" = none
  bl_law : ∀ (s : Shared) (u : Value), BindsTo s t.d_law ⟨[u], []⟩ [("_law_script", u)]
section
variable {w : World} {K : PySem.W.Frag} {mg : Str → Option Value} {t : Adr} (T : Txt w K mg t)
include T
theorem Txt.n_coming_by : Binds K t.d_coming_by ["comings"] [] := T.F_coming_by.binds fun _ _ _ _ _ _ => us1 fun _ => rfl
theorem Txt.n__law_draw : Binds K t.d__law_draw ["_law_script", "_law_k", "_law_many"] [] := T.F__law_draw.binds fun _ _ _ _ _ _ => us3 fun _ _ _ => rfl
theorem Txt.n__law_list : Binds K t.d__law_list ["_law_script", "_law_base"] [] := T.F__law_list.binds fun _ _ _ _ _ _ => us2 fun _ _ => rfl
theorem Txt.n__law_turn : Binds K t.d__law_turn ["_law_script", "_law_k"] [] := T.F__law_turn.binds fun _ _ _ _ _ _ => us2 fun _ _ => rfl
theorem Txt.n_law : Binds K t.d_law ["_law_script"] [] := T.F_law.binds fun _ _ _ _ _ _ => us1 fun _ => rfl
end
abbrev lq_coming_by : Str := Str.ofString "coming_by" ++ Str.ofString ".<locals>." ++ Str.ofString "<lambda>"
theorem ls_coming_by : LamS "turn" "kept" (lamS (retE s_coming_by)) := ⟨rfl, rfl, rfl, by decide +kernel, rfl, rfl, by decide +kernel, by decide +kernel⟩
/-! ### drawing -/
def draw (ns : List Int) (k m : Int) : Int :=
  ((((if 0 < (ns.length : Int) then ns.getD (k % (ns.length : Int)).toNat 0 else 0) % 1000003 + 31 * k * k + 1) * 48271 % 999983 * 7919) % 524287) % m
theorem draw_lo (ns : List Int) (k : Int) {m : Int} (h : 0 < m) : 0 ≤ draw ns k m := Int.emod_nonneg _ (by omega)
theorem draw_hi (ns : List Int) (k : Int) {m : Int} (h : 0 < m) : draw ns k m < m := Int.emod_lt_of_pos _ h
def sp_draw (K : PySem.W.Frag) (a : Addr) (ns : List Int) : Sp := fun vs H Q _ => ∃ k m, vs = [.ref a, .int k, .int m] ∧ Sc K a ns H ∧ (0 ≤ k ∧ k < 1000000) ∧ 0 < m ∧ Q (.int (draw ns k m)) H
section
variable {P : Program} {w : World} {K : PySem.W.Frag} {mg : Str → Option Value} {base : Heap} {t : Adr}
theorem ok_draw (T : Txt w K mg t) (a : Addr) (ns : List Int) (h63 : ns.length ≤ 63) : FnOk P w K mg base CX0 1 t.a__law_draw t.d__law_draw ["_law_script", "_law_k", "_law_many"] (sp_draw K a ns) := by
  refine T.F__law_draw.ok sc__law_draw (fun vs H Q E h => ?_) (fun cdv A outer s H vs Q E hr h => ?_)
  · obtain ⟨k, m, rfl, _⟩ := h; rfl
  obtain ⟨k, m, rfl, S, ⟨h0, h1⟩, hm, q⟩ := h
  refine ⟨_, (pss_cons (ps_set (i := 3) sc__law_draw.nd rfl (Or.inl rfl) (pe_ifExp (pt_cmpR op_gt (pe_callB call_len_seq rfl T.b_len boot_b_len (pa_cons (pv 0) pa_nil)) pe_int (nomark _)) (pe_ix ix_list (pv 0) (pe_op op_mod (pv 1) (pe_callB call_len_seq rfl T.b_len boot_b_len (pa_cons (pv 0) pa_nil))) (fun _ _ => rfl)) pe_int))
      (pss_cons (ps_set (i := 4) sc__law_draw.nd rfl (Or.inl rfl) (pe_op op_add (pe_op op_add (pe_op op_mod (pv 3) pe_int) (pe_op op_mul (pe_op op_mul pe_int (pv 1)) (pv 1))) pe_int))
      (pss_one (ps_ret (pe_op op_mod (pe_op op_mod (pe_op op_mul (pe_op op_mod (pe_op op_mul (pv 4) pe_int) pe_int) pe_int) pe_int) (pv 2)))))), ?_⟩
  (walk_at "RD")
  refine ⟨_, .inl S.seq, ?_⟩
  rw [List.length_map]
  have hkk : (0 : Int) ≤ k * k ∧ k * k < 1000000 * 1000000 := ⟨Int.mul_nonneg h0 h0, Int.mul_lt_mul' (by omega) h1 h0 (by decide)⟩
  have fin : ∀ i : Int, (0 : Int) < 1000003 ∧ CMul 31 k ∧ CMul (31 * k) k ∧ CMul (i % 1000003 + 31 * k * k + 1) 48271 ∧ (0 : Int) < 999983 ∧ CMul ((i % 1000003 + 31 * k * k + 1) * 48271 % 999983) 7919 ∧ (0 : Int) < 524287 ∧ 0 < m := by
    intro i
    refine ⟨by decide, .inl (by decide), .inr (by omega), .inr (by decide), by decide, .inr (by decide), by decide, hm⟩
  by_cases c : (0 : Int) < (ns.length : Int)
  · rw [if_pos (decide_eq_true c)]
    have hk : 0 ≤ k % (ns.length : Int) ∧ k % (ns.length : Int) < (ns.length : Int) := ⟨Int.emod_nonneg _ (by omega), Int.emod_lt_of_pos _ c⟩
    refine ⟨_, .inl S.seq, by rw [List.length_map]; exact c, _, S.seq, ?_⟩
    rw [List.length_map]
    have hj : (k % (ns.length : Int)).toNat < ns.length := by omega
    refine ⟨.int ns[(k % (ns.length : Int)).toNat], ?_, _, rfl, ?_⟩
    · have e := atI_nat (xs := ns.map V.int) (j := (k % (ns.length : Int)).toNat) (v := .int ns[(k % (ns.length : Int)).toNat]) (by rw [List.getElem?_map, List.getElem?_eq_getElem hj] <;> rfl)
      rwa [Int.toNat_of_nonneg hk.1] at e
    · obtain ⟨f1, f2, f3, f4, f5, f6, f7, f8⟩ := fin ns[(k % (ns.length : Int)).toNat]
      refine ⟨f1, f2, f3, f4, f5, f6, f7, f8, ?_⟩
      have e : draw ns k m = (((ns[(k % (ns.length : Int)).toNat] % 1000003 + 31 * k * k + 1) * 48271 % 999983 * 7919) % 524287) % m := by
        unfold draw
        rw [if_pos c, List.getD_eq_getElem?_getD, List.getElem?_eq_getElem hj]
        rfl
      rw [← e]; exact q
  · rw [if_neg (by simpa using c)]
    obtain ⟨f1, f2, f3, f4, f5, f6, f7, f8⟩ := fin 0
    refine ⟨f1, f2, f3, f4, f5, f6, f7, f8, ?_⟩
    have e : draw ns k m = (((0 % 1000003 + 31 * k * k + 1) * 48271 % 999983 * 7919) % 524287) % m := by
      unfold draw
      rw [if_neg c]
    rw [← e]; exact q
end
/-! ### the promise of coming_by -/
abbrev TabC (Pt : Addr) (H : Hp) : Prop := Tab H Pt (lamP (retE s_coming_by)) lq_coming_by
/-- at f lies a function that tells the numbers of the list at l in turn -/
def Clo (H : Hp) (f l : Addr) (xs : List Int) : Prop := ∃ cl c', H f = some (.ext (LamF f lq_coming_by (lamA (retE s_coming_by)) (lamB (retE s_coming_by)) (lamS (retE s_coming_by)) [(Str.ofString "kept", cl)] c')) ∧ H c' = some (.ext (CodR c' lq_coming_by)) ∧ H cl = some (.ext (CelO cl (.ref l))) ∧ H l = some (.lst (xs.map V.int))
theorem Clo.same {H H' : Hp} {f l : Addr} {xs : List Int} (h : Clo H f l xs) (s : Same H H') : Clo H' f l xs := by
  obtain ⟨cl, c', h1, h2, h3, h4⟩ := h
  exact ⟨cl, c', s _ _ h1, s _ _ h2, s _ _ h3, s _ _ h4⟩
theorem Clo.sameP {Pt : Addr} {H H' : Hp} {f l : Addr} {xs : List Int} (h : Clo H f l xs) (tb : TabC Pt H) (s : SameP Pt H H') : Clo H' f l xs := by
  obtain ⟨cl, c', h1, h2, h3, h4⟩ := h
  exact ⟨cl, c', s _ _ (tb.ne h1 fun _ z => by cases z) h1, s _ _ (tb.ne h2 fun _ z => by cases z) h2, s _ _ (tb.ne h3 fun _ z => by cases z) h3, s _ _ (tb.ne h4 fun _ z => by cases z) h4⟩
theorem Clo.put {H : Hp} {f l p : Addr} {xs ys : List Int} {zs : List V} (h : Clo H f l xs) (hp : H p = some (.lst zs)) (hn : p ≠ l) {o : HO} : Clo (upd H p o) f l xs := by
  obtain ⟨cl, c', h1, h2, h3, h4⟩ := h
  exact ⟨cl, c', by rw [upd_ne (ne_of h1 hp fun z => by cases z)]; exact h1, by rw [upd_ne (ne_of h2 hp fun z => by cases z)]; exact h2, by rw [upd_ne (ne_of h3 hp fun z => by cases z)]; exact h3, by rw [upd_ne (Ne.symm hn)]; exact h4⟩
def sp_coming (Pt : Addr) : Sp := fun vs H Q _ => ∃ a xs, vs = [.ref a] ∧ H a = some (.lst (xs.map V.int)) ∧ TabC Pt H ∧ ∀ f l H', H l = none → SameP Pt H H' → (NoT H → NoT H') → TabC Pt H' → Clo H' f l xs → Q (.ref f) H'
def sp_list (K : PySem.W.Frag) (a : Addr) (ns : List Int) : Sp := fun vs H Q _ => ∃ k, vs = [.ref a, .int k] ∧ Sc K a ns H ∧ (0 ≤ k ∧ k < 1000) ∧ ∀ p xs H', Same H H' → H p = none → NoT H' → H' p = some (.lst (List.map V.int xs)) → xs ≠ [] → xs.length ≤ 30 → Q (.ref p) H'
def sp_turn0 (K : PySem.W.Frag) (a : Addr) (ns : List Int) : Sp := fun vs H Q _ => ∃ k, vs = [.ref a, .int k] ∧ Sc K a ns H ∧ (0 ≤ k ∧ k < 1000) ∧ ∀ v H', Same H H' → Q (.int v) H'
def sp_turn (K : PySem.W.Frag) (a : Addr) (ns : List Int) : Sp := fun vs H Q _ => ∃ k, vs = [.ref a, .int k] ∧ Sc K a ns H ∧ (0 ≤ k ∧ k < 1000) ∧ ∀ v, Q (.int v) H
theorem cell_of (ns : List Int) (k : Int) (h : 0 < (ns.length : Int)) : ∃ v, atI (ns.map V.int) (k % (ns.length : Int)) = some (.int v) := by
  have hk : 0 ≤ k % (ns.length : Int) ∧ k % (ns.length : Int) < (ns.length : Int) := ⟨Int.emod_nonneg _ (by omega), Int.emod_lt_of_pos _ h⟩
  have hj : (k % (ns.length : Int)).toNat < ns.length := by omega
  refine ⟨ns[(k % (ns.length : Int)).toNat], ?_⟩
  have e := atI_nat (xs := ns.map V.int) (j := (k % (ns.length : Int)).toNat) (v := .int ns[(k % (ns.length : Int)).toNat]) (by rw [List.getElem?_map, List.getElem?_eq_getElem hj] <;> rfl)
  rwa [Int.toNat_of_nonneg hk.1] at e
theorem two_at {x y : V} {d : Int} (h0 : 0 ≤ d) (h1 : d < 2) : ∃ v, (v = x ∨ v = y) ∧ atI [x, y] d = some v := by
  have : d = ((0 : Nat) : Int) ∨ d = ((1 : Nat) : Int) := by omega
  rcases this with rfl | rfl
  · exact ⟨x, .inl rfl, atI_nat rfl⟩
  · exact ⟨y, .inr rfl, atI_nat rfl⟩
section
variable {P : Program} {w : World} {K : PySem.W.Frag} {mg : Str → Option Value} {base : Heap} {t : Adr}
theorem ok_coming (T : Txt w K mg t) {c Pt : Addr} (hc : t.d_coming_by.code = .ref c) (hC : PySem.W.CodeHd base c Pt) (hB : base.BuiltinsAt mg Pt) : FnOk P w K mg base CX0 1 t.a_coming_by t.d_coming_by ["comings"] (sp_coming Pt) := by
  refine T.F_coming_by.okLam (y := "kept") (i := 1) (cc := fun L => L + 1) (params := lamA (retE s_coming_by)) (lbody := lamB (retE s_coming_by)) (lscope := lamS (retE s_coming_by)) (lpos := lamP (retE s_coming_by)) sc_coming_by (fun vs H Q E h => ?_) rfl hc hC hB rfl rfl (fun _ => rfl) (fun _ _ => rfl) (fun _ _ => rfl) (fun cdv A outer s H vs Q E hr h => ?_)
  · obtain ⟨a, xs, rfl, _⟩ := h; rfl
  obtain ⟨a, xs, rfl, ha, tb, q⟩ := h
  refine ⟨_, (ps_set (i := 1) sc_coming_by.nd rfl (Or.inr rfl) (pe_callTy call_list_of rfl T.b_list boot_t_list (pa_cons (pv 0) pa_nil))), ?_⟩
  (walk_at "RD")
  refine ⟨_, .inl (SqL.of ha), fun l hl => ⟨tb.step (same_new hl), fun g cl c' H2 sm nt tb2 eg ec el => ?_⟩⟩
  have tb1 : TabC Pt (upd H l (.lst (xs.map V.int))) := tb.step (same_new hl)
  refine q g l H2 hl ((same_new hl).p.trans sm) (fun n => nt n.upd) tb2 ⟨cl, c', eg, ec, el, sm _ _ (tb1.ne upd_same fun _ z => by cases z) upd_same⟩
theorem ok_list (T : Txt w K mg t) (a : Addr) (ns : List Int) (h63 : ns.length ≤ 63) : FnOk P w K mg base CX0 2 t.a__law_list t.d__law_list ["_law_script", "_law_base"] (sp_list K a ns) := by
  have G__law_draw : FnOk P w K mg base CX0 1 t.a__law_draw t.d__law_draw ["_law_script", "_law_k", "_law_many"] (sp_draw K a ns) := ok_draw T a ns h63
  refine T.F__law_list.ok sc__law_list (fun vs H Q E h => ?_) (fun cdv A outer s H vs Q E hr h => ?_)
  · obtain ⟨k, rfl, _⟩ := h; rfl
  obtain ⟨k, rfl, S, hk, q⟩ := h
  refine ⟨_, (pss_cons (ps_set (i := 2) sc__law_list.nd rfl (Or.inl rfl) (pe_lst pa_nil))
      (pss_cons (ps_for PassesOwn.never rfl (pi_range1 rfl T.b_range (pa_cons (pe_op op_add pe_int (pe_call G__law_draw hr rfl T.m__law_draw T.F__law_draw.kp T.n__law_draw .nil pass0 (pa_cons (pv 0) (pa_cons (pv 1) (pa_cons pe_int pa_nil))))) pa_nil)) (pg_name (i := 3) sc__law_list.nd rfl (Or.inl rfl)) (pss_cons (ps_set (i := 4) sc__law_list.nd rfl (Or.inl rfl) (pe_ifExp (pt_cmpR op_gt (pe_callB call_len_seq rfl T.b_len boot_b_len (pa_cons (pv 0) pa_nil)) pe_int (nomark _)) (pe_ix ix_list (pv 0) (pe_op op_mod (pe_op op_add (pv 1) (pv 3)) (pe_callB call_len_seq rfl T.b_len boot_b_len (pa_cons (pv 0) pa_nil))) (fun _ _ => rfl)) pe_int))
      (pss_one (ps_expr (pe_bm PySem.F.plainAttrs_list PySem.F.slot_list_append PySem.F.type_list_append mt_append (pv 2) (pa_cons (pe_ix ix_list (pe_lst (pa_cons (pe_op op_mod (pv 4) (pe_op op_add (pe_op op_pow pe_int pe_int) pe_int)) (pa_cons (pe_call G__law_draw hr rfl T.m__law_draw T.F__law_draw.kp T.n__law_draw .nil pass0 (pa_cons (pv 0) (pa_cons (pe_op op_add (pe_op op_add (pv 1) pe_int) (pv 3)) (pa_cons pe_int pa_nil)))) pa_nil))) (pe_call G__law_draw hr rfl T.m__law_draw T.F__law_draw.kp T.n__law_draw .nil pass0 (pa_cons (pv 0) (pa_cons (pe_op op_add (pe_op op_add (pv 1) pe_int) (pv 3)) (pa_cons pe_int pa_nil)))) (fun _ _ => rfl)) pa_nil))))))
      (pss_one (ps_ret (pv 2))))), ?_⟩
  (walk_at "RD"; repeat (simp only [sp_draw]; walk_at "RD"))
  have d1 := draw_lo ns k (m := 30) (by decide)
  have d2 := draw_hi ns k (m := 30) (by decide)
  refine ⟨by decide, fun p hp => ⟨S.new hp, by omega, by omega, by decide, by omega, by omega, ?_⟩⟩
  have S1 := S.new (o := .lst []) hp
  refine ForW.range (fun i σ H' => Same H H' ∧ NoT H' ∧ ∃ xs x3 x4, H' p = some (.lst (List.map V.int xs)) ∧ xs.length = i ∧ σ = [some (.ref a), some (.int k), some (.ref p), x3, x4]) ⟨same_new hp, S1.nt, [], _, _, upd_same, rfl, rfl⟩ ?_ ?_
  · rintro i σ H' hi ⟨sm, nt, xs, x3, x4, ep, hl, rfl⟩
    have S2 := S.same sm nt
    have hi30 : i < 30 := by omega
    simp only [gName_ap, tSeq_ap, List.set_cons_succ, List.set_cons_zero]
    refine tS_any (fun σ' H'' => H'' = H' ∧ ∃ v, σ' = [some (.ref a), some (.int k), some (.ref p), some (.int (0 + (i : Int))), some (.int v)]) (fun D' hD _ _ _ => ?_) ?_
    · (walk_at "RD"; repeat (simp only [sp_draw]; walk_at "RD"))
      refine ⟨_, .inl S2.seq, ?_⟩
      rw [List.length_map]
      by_cases c : (0 : Int) < (ns.length : Int)
      · rw [if_pos (decide_eq_true c)]
        obtain ⟨v, hv⟩ := cell_of ns (k + (i : Int)) c
        refine ⟨_, .inl S2.seq, by rw [List.length_map]; exact c, _, S2.seq, _, by rw [List.length_map]; exact hv, hD _ _ ⟨rfl, v, by rw [Int.zero_add]⟩⟩
      · rw [if_neg (by simpa using c)]
        exact hD _ _ ⟨rfl, 0, by rw [Int.zero_add]⟩
    rintro σ1 H1 ⟨rfl, v, rfl⟩
    (walk_at "RD"; repeat (simp only [sp_draw]; walk_at "RD"))
    have e1 := draw_lo ns (k + 40 + (i : Int)) (m := 2) (by decide)
    have e2 := draw_hi ns (k + 40 + (i : Int)) (m := 2) (by decide)
    refine ⟨.inl ⟨_, SqL.of ep⟩, ⟨by decide, by decide, by decide⟩, by decide, S2, by omega, by omega, by decide, by decide, fun p1 hp1 => ⟨S2.new hp1, by omega, by omega, by decide, _, SqL.of upd_same, ?_⟩⟩
    have hpp : p ≠ p1 := ne_of_none ep hp1
    obtain ⟨u, hu, hv⟩ := two_at (x := V.int (v % (10 ^ Int.toNat 9 + 1))) (y := V.int (draw ns (k + 1 + (i : Int)) 5)) e1 e2
    obtain ⟨z, rfl⟩ : ∃ z, u = .int z := by rcases hu with rfl | rfl <;> exact ⟨_, rfl⟩
    refine ⟨_, hv, List.map V.int xs, by rw [upd_ne hpp]; exact ep, by rw [List.length_map, hl]; exact Nat.lt_of_lt_of_le hi30 (by decide), (sm.trans (same_new hp1)).updN hp, nt.upd.upd, xs ++ [z], ?_⟩
    refine ⟨?_, by rw [List.length_append, hl]; rfl, _, rfl⟩
    rw [upd_same, List.map_append]; rfl
  · rintro σ H' ⟨sm, nt, xs, x3, x4, ep, hl, rfl⟩
    (walk_at "RD")
    refine q p xs H' sm hp nt ep (fun z => ?_) (by omega)
    subst z
    have : (0 : Nat) = _ := hl
    omega
theorem ok_turn0 (T : Txt w K mg t) (a : Addr) (ns : List Int) (h63 : ns.length ≤ 63) : FnOk P w K mg base CX0 2 t.a__law_turn t.d__law_turn ["_law_script", "_law_k"] (sp_turn0 K a ns) := by
  have G__law_draw : FnOk P w K mg base CX0 1 t.a__law_draw t.d__law_draw ["_law_script", "_law_k", "_law_many"] (sp_draw K a ns) := ok_draw T a ns h63
  refine T.F__law_turn.ok sc__law_turn (fun vs H Q E h => ?_) (fun cdv A outer s H vs Q E hr h => ?_)
  · obtain ⟨k, rfl, _⟩ := h; rfl
  obtain ⟨k, rfl, S, hk, q⟩ := h
  refine ⟨_, (pss_cons (ps_set (i := 2) sc__law_turn.nd rfl (Or.inl rfl) (pe_ifExp (pt_cmpR op_gt (pe_callB call_len_seq rfl T.b_len boot_b_len (pa_cons (pv 0) pa_nil)) pe_int (nomark _)) (pe_ix ix_list (pv 0) (pe_op op_mod (pv 1) (pe_callB call_len_seq rfl T.b_len boot_b_len (pa_cons (pv 0) pa_nil))) (fun _ _ => rfl)) pe_int))
      (pss_one (ps_ret (pe_ix ix_list (pe_lst (pa_cons (pe_call G__law_draw hr rfl T.m__law_draw T.F__law_draw.kp T.n__law_draw .nil pass0 (pa_cons (pv 0) (pa_cons (pe_op op_add pe_int (pv 1)) (pa_cons pe_int pa_nil)))) (pa_cons (pe_op op_mod (pv 2) (pe_op op_add (pe_op op_pow pe_int pe_int) pe_int)) pa_nil))) (pe_call G__law_draw hr rfl T.m__law_draw T.F__law_draw.kp T.n__law_draw .nil pass0 (pa_cons (pv 0) (pa_cons (pe_op op_add pe_int (pv 1)) (pa_cons pe_int pa_nil)))) (fun _ _ => rfl))))), ?_⟩
  simp only [tSeq_ap]
  refine tS_any (fun σ' H'' => H'' = H ∧ ∃ v, σ' = [some (.ref a), some (.int k), some (.int v)]) (fun D' hD _ _ _ => ?_) ?_
  · (walk_at "RD")
    refine ⟨_, .inl S.seq, ?_⟩
    rw [List.length_map]
    by_cases c : (0 : Int) < (ns.length : Int)
    · rw [if_pos (decide_eq_true c)]
      obtain ⟨v, hv⟩ := cell_of ns k c
      refine ⟨_, .inl S.seq, by rw [List.length_map]; exact c, _, S.seq, _, by rw [List.length_map]; exact hv, hD _ _ ⟨rfl, v, rfl⟩⟩
    · rw [if_neg (by simpa using c)]
      exact hD _ _ ⟨rfl, 0, rfl⟩
  rintro σ1 H1 ⟨rfl, v, rfl⟩
  (walk_at "RD"; repeat (simp only [sp_draw]; walk_at "RD"))
  have e1 := draw_lo ns (340 + k) (m := 2) (by decide)
  have e2 := draw_hi ns (340 + k) (m := 2) (by decide)
  refine ⟨S, by omega, by omega, by decide, ⟨by decide, by decide, by decide⟩, by decide, by decide, fun p hp => ⟨S.new hp, by omega, by omega, by decide, _, SqL.of upd_same, ?_⟩⟩
  obtain ⟨u, hu, hv⟩ := two_at (x := V.int (draw ns (300 + k) 90)) (y := V.int (v % (10 ^ Int.toNat 60 + 1))) e1 e2
  obtain ⟨z, rfl⟩ : ∃ z, u = .int z := by rcases hu with rfl | rfl <;> exact ⟨_, rfl⟩
  exact ⟨_, hv, q z _ (same_new hp)⟩
theorem ok_turn (T : Txt w K mg t) (a : Addr) (ns : List Int) (h63 : ns.length ≤ 63) : FnOk P w K mg base CX0 2 t.a__law_turn t.d__law_turn ["_law_script", "_law_k"] (sp_turn K a ns) := by
  refine (ok_turn0 T a ns h63).forget fun vs H Q E h => ?_
  obtain ⟨k, e, S, hk, q⟩ := h
  exact ⟨S.nt, k, e, S, hk, fun v H' sm => ⟨sm, q v⟩⟩
theorem ints_oneK {xs ys : List Int} : ∀ x ∈ List.map V.int xs, ∀ y ∈ List.map V.int ys, oneK x y = true := fun x hx y hy => by
  obtain ⟨i, _, rfl⟩ := List.mem_map.mp hx
  obtain ⟨j, _, rfl⟩ := List.mem_map.mp hy
  rfl
theorem ints_ne {xs : List Int} {a b : Addr} (h : List.map V.int xs = [V.ref a, .ref b]) : False := by
  cases xs with
  | nil => simp at h
  | cons x r => simp at h
structure Good (K : PySem.W.Frag) (a : Addr) (ns : List Int) (H : Hp) (r r0 r1 cs f0 f1 l0 l1 : Addr) (xs0 xs1 : List Int) : Prop where
  S : Sc K a ns H
  er : H r = some (.lst [.ref r0, .ref r1])
  e0 : H r0 = some (.lst (List.map V.int xs0))
  e1 : H r1 = some (.lst (List.map V.int xs1))
  ec : H cs = some (.lst [.ref f0, .ref f1])
  k0 : Clo H f0 l0 xs0
  k1 : Clo H f1 l1 xs1
theorem Good.put {K : PySem.W.Frag} {a : Addr} {ns : List Int} {H : Hp} {r r0 r1 cs f0 f1 l0 l1 p : Addr} {xs0 xs1 : List Int} (G : Good K a ns H r r0 r1 cs f0 f1 l0 l1 xs0 xs1) {zs ys : List V} (hp : H p = some (.lst zs))
    (n : p ≠ r ∧ p ≠ r0 ∧ p ≠ r1 ∧ p ≠ cs ∧ p ≠ l0 ∧ p ≠ l1) : Good K a ns (upd H p (.lst ys)) r r0 r1 cs f0 f1 l0 l1 xs0 xs1 :=
  ⟨G.S.set hp (fun _ _ z => by cases z), by rw [upd_ne n.1.symm]; exact G.er, by rw [upd_ne n.2.1.symm]; exact G.e0, by rw [upd_ne n.2.2.1.symm]; exact G.e1, by rw [upd_ne n.2.2.2.1.symm]; exact G.ec, Clo.put (ys := xs0) G.k0 hp n.2.2.2.2.1, Clo.put (ys := xs0) G.k1 hp n.2.2.2.2.2⟩
def sp_law (K : PySem.W.Frag) (Pt : Addr) : Sp := fun vs H Q _ => ∃ a ns, vs = [.ref a] ∧ Sc K a ns H ∧ ns.length ≤ 63 ∧ TabC Pt H ∧ ∀ H', Q (.bl true) H'
theorem ok_law (T : Txt w K mg t) {c Pt : Addr} (hc : t.d_coming_by.code = .ref c) (hC : PySem.W.CodeHd base c Pt) (hB : base.BuiltinsAt mg Pt) : FnOk P w K mg base CX0 4 t.a_law t.d_law ["_law_script"] (sp_law K Pt) := by
  refine T.F_law.ok sc_law (fun vs H Q E h => ?_) (fun cdv A outer s H vs Q E hr h => ?_)
  · obtain ⟨a, ns, rfl, _⟩ := h; rfl
  obtain ⟨a, ns, rfl, S, h63, tb, q⟩ := h
  have hU := hr.units
  have G__law_draw : FnOk P w K mg base CX0 3 t.a__law_draw t.d__law_draw ["_law_script", "_law_k", "_law_many"] (sp_draw K a ns) := (ok_draw T a ns h63).mono (by decide)
  have G__law_list : FnOk P w K mg base CX0 3 t.a__law_list t.d__law_list ["_law_script", "_law_base"] (sp_list K a ns) := (ok_list T a ns h63).mono (by decide)
  have G__law_turn : FnOk P w K mg base CX0 3 t.a__law_turn t.d__law_turn ["_law_script", "_law_k"] (sp_turn K a ns) := (ok_turn T a ns h63).mono (by decide)
  have G_coming_by : FnOk P w K mg base CX0 3 t.a_coming_by t.d_coming_by ["comings"] (sp_coming Pt) := (ok_coming T hc hC hB).mono (by decide)
  refine ⟨_, (pss_cons (ps_set (i := 1) sc_law.nd rfl (Or.inl rfl) (pe_lst (pa_cons (pe_call G__law_list hr rfl T.m__law_list T.F__law_list.kp T.n__law_list .nil pass0 (pa_cons (pv 0) (pa_cons pe_int pa_nil))) (pa_cons (pe_call G__law_list hr rfl T.m__law_list T.F__law_list.kp T.n__law_list .nil pass0 (pa_cons (pv 0) (pa_cons pe_int pa_nil))) pa_nil))))
      (pss_cons (ps_set (i := 2) sc_law.nd rfl (Or.inl rfl) (pe_lst (pa_cons (pe_callTy call_list_of rfl T.b_list boot_t_list (pa_cons (pe_ix ix_list (pv 1) pe_int (fun _ _ => rfl)) pa_nil)) (pa_cons (pe_callTy call_list_of rfl T.b_list boot_t_list (pa_cons (pe_ix ix_list (pv 1) pe_int (fun _ _ => rfl)) pa_nil)) pa_nil))))
      (pss_cons (ps_set (i := 3) sc_law.nd rfl (Or.inl rfl) (pe_lst (pa_cons (pe_call G_coming_by hr rfl T.m_coming_by T.F_coming_by.kp T.n_coming_by .nil pass0 (pa_cons (pe_ix ix_list (pv 2) pe_int (fun _ _ => rfl)) pa_nil)) (pa_cons (pe_call G_coming_by hr rfl T.m_coming_by T.F_coming_by.kp T.n_coming_by .nil pass0 (pa_cons (pe_ix ix_list (pv 2) pe_int (fun _ _ => rfl)) pa_nil)) pa_nil))))
      (pss_cons (ps_for PassesOwn.never rfl (pi_range1 rfl T.b_range (pa_cons pe_int pa_nil)) (pg_name (i := 4) sc_law.nd rfl (Or.inl rfl)) (pss_cons (ps_set (i := 5) sc_law.nd rfl (Or.inl rfl) (pe_op op_mod (pe_op op_add (pv 4) (pe_op op_fdiv (pv 4) pe_int)) pe_int))
      (pss_cons (ps_set (i := 6) sc_law.nd rfl (Or.inl rfl) (pe_call G__law_turn hr rfl T.m__law_turn T.F__law_turn.kp T.n__law_turn .nil pass0 (pa_cons (pv 0) (pa_cons (pe_op op_mod (pv 4) pe_int) pa_nil))))
      (pss_cons (ps_set (i := 7) sc_law.nd rfl (Or.inl rfl) (pe_callG (q := lq_coming_by) (params := lamA (retE s_coming_by)) (body := lamB (retE s_coming_by)) (scope := lamS (retE s_coming_by)) (pe_ix ix_list (pv 3) (pv 5) (fun _ _ => rfl)) ls_coming_by hr (pa_cons (pv 6) pa_nil) (fun _ _ _ _ _ => rfl) (fun _ _ _ _ _ => ⟨_, (pe_ix ix_list (pv 1) (pe_op op_mod (pv 0) (pe_callB call_len_seq rfl T.b_len boot_b_len (pa_cons (pv 1) pa_nil))) (fun _ _ => rfl)), by first | rfl | (dsimp only [cxLam]; done) | (dsimp only [cxLam]; exact rfl)⟩)))
      (pss_cons (ps_if (PW.pt (pw_or (pt_not (pt_val (pe_callB call_isi rfl T.b_isinstance boot_b_isinstance (pa_cons (pv 7) (pa_cons (pe_bltn (v := .ty "int") rfl T.b_int boot_t_int rfl) pa_nil))))) (pw_or (pt_val (pe_callB call_isi rfl T.b_isinstance boot_b_isinstance (pa_cons (pv 7) (pa_cons (pe_bltn (v := .ty "bool") rfl T.b_bool boot_t_bool rfl) pa_nil)))) (pw_or1 (pt_cmpR op_ne (pv 7) (pe_ix ix_list (pe_ix ix_list (pv 1) (pv 5) (fun _ _ => rfl)) (pe_op op_mod (pv 6) (pe_callB call_len_seq rfl T.b_len boot_b_len (pa_cons (pe_ix ix_list (pv 1) (pv 5) (fun _ _ => rfl)) pa_nil))) (fun _ _ => rfl)) (nomark _)))))) (pss_one (ps_ret pe_bl)) pss_nil)
      (pss_one (ps_if (pt_cmpR op_eq (pv 4) pe_int (nomark _)) (pss_cons (ps_if (pt_cmpR (op_neL hU) (pv 2) (pv 1) (nomark _)) (pss_one (ps_ret pe_bl)) pss_nil)
      (pss_cons (ps_asg (pe_op op_add (pe_ix ix_list (pe_ix ix_list (pv 2) pe_int (fun _ _ => rfl)) pe_int (fun _ _ => rfl)) pe_int) (pg_sub (pe_ix ix_list (pv 2) pe_int (fun _ _ => rfl)) pe_int set_list))
      (pss_cons (ps_expr (pe_bm PySem.F.plainAttrs_list PySem.F.slot_list_append PySem.F.type_list_append mt_append (pe_ix ix_list (pv 2) pe_int (fun _ _ => rfl)) (pa_cons pe_int pa_nil)))
      (pss_one (ps_expr (pe_bm0 PySem.F.plainAttrs_list PySem.F.slot_list_clear PySem.F.type_list_clear mt_clear (pe_ix ix_list (pv 2) pe_int (fun _ _ => rfl)))))))) pss_nil)))))))
      (pss_one (ps_ret pe_bl)))))), ?_⟩
  simp only [tSeq_ap]
  refine tS_any (fun σ' H' => Sc K a ns H' ∧ TabC Pt H' ∧ ∃ r r0 r1 xs0 xs1, H' r = some (.lst [.ref r0, .ref r1]) ∧ H' r0 = some (.lst (List.map V.int xs0)) ∧ H' r1 = some (.lst (List.map V.int xs1)) ∧ (xs0 ≠ [] ∧ xs0.length ≤ 30) ∧ (xs1 ≠ [] ∧ xs1.length ≤ 30) ∧ σ' = [some (.ref a), some (.ref r), none, none, none, none, none, none]) (fun D' hD _ _ _ => ?_) ?_
  · (walk_at "RD")
    refine ⟨10, rfl, S, ⟨by decide, by decide⟩, fun r0 xs0 H1 s1 hn1 n1 e1 ne1 l1 => ?_⟩
    refine ⟨110, rfl, S.same s1 n1, ⟨by decide, by decide⟩, fun r1 xs1 H2 s2 hn2 n2 e2 ne2 l2 => ?_⟩
    refine ⟨by decide, fun r hr => ?_⟩
    have s3 := same_new (o := .lst [.ref r0, .ref r1]) hr
    exact hD _ _ ⟨((S.same s1 n1).same s2 n2).new hr, ((tb.step s1).step s2).step s3, r, r0, r1, xs0, xs1, upd_same, s3 _ _ (s2 _ _ e1), s3 _ _ e2, ⟨ne1, l1⟩, ⟨ne2, l2⟩, rfl⟩
  rintro σ1 H1 ⟨S1, tb1, r, r0, r1, xs0, xs1, er, e0, e1, x0, x1, rfl⟩
  clear tb S
  simp only [tSeq_ap]
  refine tS_any (fun σ' H' => Sc K a ns H' ∧ TabC Pt H' ∧ Same H1 H' ∧ ∃ hd h0 h1, H' hd = some (.lst [.ref h0, .ref h1]) ∧ H' h0 = some (.lst (List.map V.int xs0)) ∧ H' h1 = some (.lst (List.map V.int xs1)) ∧ H1 h0 = none ∧ H1 h1 = none ∧ h1 ≠ h0 ∧ σ' = [some (.ref a), some (.ref r), some (.ref hd), none, none, none, none, none]) (fun D' hD _ _ _ => ?_) ?_
  · (walk_at "RD")
    refine ⟨_, SqL.of er, _, atI_nat (j := 0) rfl, _, rfl, _, .inl (SqL.of e0), fun h0 hh0 => ?_⟩
    have s1 := same_new (o := .lst (List.map V.int xs0)) hh0
    refine ⟨_, SqL.of (s1 _ _ er), _, atI_nat (j := 1) rfl, _, rfl, _, .inl (SqL.of (s1 _ _ e1)), fun h1 hh1 => ?_⟩
    have s2 := same_new (o := .lst (List.map V.int xs1)) hh1
    refine ⟨by decide, fun hd hhd => ?_⟩
    have s3 := same_new (o := .lst [.ref h0, .ref h1]) hhd
    have sa := (s1.trans s2).trans s3
    have h10 : h1 ≠ h0 := fun z => by subst z; rw [upd_same] at hh1; cases hh1
    refine hD _ _ ⟨((S1.new hh0).new hh1).new hhd, tb1.step sa, sa, hd, h0, h1, upd_same, s3 _ _ (s2 _ _ upd_same), s3 _ _ upd_same, hh0, ?_, h10, rfl⟩
    rw [upd_ne h10] at hh1
    exact hh1
  rintro σ1 H2 ⟨S2, tb2, s12, hd, h0, h1, ed, eh0, eh1, n0, n1, h10, rfl⟩
  have q0 : ∀ {b o}, H1 b = some o → b ≠ h0 ∧ b ≠ h1 := fun e => ⟨ne_of_none e n0, ne_of_none e n1⟩
  simp only [tSeq_ap]
  refine tS_any (fun σ' H' => NoT H' ∧ SameP Pt H2 H' ∧ ∃ cs f0 f1 l0 l1, H' cs = some (.lst [.ref f0, .ref f1]) ∧ Clo H' f0 l0 xs0 ∧ Clo H' f1 l1 xs1 ∧ H2 l0 = none ∧ H2 l1 = none ∧ H2 cs = none ∧ σ' = [some (.ref a), some (.ref r), some (.ref hd), some (.ref cs), none, none, none, none]) (fun D' hD _ _ _ => ?_) ?_
  · (walk_at "RD")
    refine ⟨_, SqL.of ed, _, atI_nat (j := 0) rfl, h0, xs0, rfl, eh0, tb2, fun f0 l0 H3 hl0 sp3 nt3 tb3 k0 => ?_⟩
    have u3 : ∀ {b zs}, H2 b = some (.lst zs) → H3 b = some (.lst zs) := fun e => sp3 _ _ (tb2.ne e fun _ z => by cases z) e
    refine ⟨_, SqL.of (u3 ed), _, atI_nat (j := 1) rfl, h1, xs1, rfl, u3 eh1, tb3, fun f1 l1 H4 hl1 sp4 nt4 tb4 k1 => ?_⟩
    refine ⟨by decide, fun cs hcs => ?_⟩
    have s5 := same_new (o := .lst [.ref f0, .ref f1]) hcs
    have back : ∀ b, H4 b = none → H2 b = none := fun b hb => by
      cases e : H2 b with
      | none => rfl
      | some o =>
        by_cases hP : b = Pt
        · subst hP
          obtain ⟨ps, e', _⟩ := tb4
          rw [hb] at e'; cases e'
        · rw [sp4 b o hP (sp3 b o hP e)] at hb; cases hb
    have back3 : ∀ b, H3 b = none → H2 b = none := fun b hb => by
      cases e : H2 b with
      | none => rfl
      | some o =>
        by_cases hP : b = Pt
        · subst hP
          obtain ⟨ps, e', _⟩ := tb3
          rw [hb] at e'; cases e'
        · rw [sp3 b o hP e] at hb; cases hb
    exact hD _ _ ⟨(nt4 (nt3 S2.nt)).upd, (sp3.trans sp4).trans s5.p, cs, f0, f1, l0, l1, upd_same, (k0.sameP tb3 sp4).same s5, k1.same s5, hl0, back3 _ hl1, back _ hcs, rfl⟩
  rintro σ1 H3 ⟨nt3, sp3, cs, f0, f1, l0, l1, ec, k0, k1, hl0, hl1, hcs, rfl⟩
  have u3 : ∀ {b zs}, H2 b = some (.lst zs) → H3 b = some (.lst zs) := fun e => sp3 _ _ (tb2.ne e fun _ z => by cases z) e
  have S3 : Sc K a ns H3 := by
    refine ⟨?_, nt3⟩
    rcases S2.sq with ⟨o, h⟩ | h
    · exact .inl ⟨o, sp3 _ _ (tb2.ne h fun _ z => by cases z) h⟩
    · exact .inr h
  have G3 : Good K a ns H3 r r0 r1 cs f0 f1 l0 l1 xs0 xs1 := ⟨S3, u3 (s12 _ _ er), u3 (s12 _ _ e0), u3 (s12 _ _ e1), ec, k0, k1⟩
  have nh0 : h0 ≠ r ∧ h0 ≠ r0 ∧ h0 ≠ r1 ∧ h0 ≠ cs ∧ h0 ≠ l0 ∧ h0 ≠ l1 := ⟨(q0 er).1.symm, (q0 e0).1.symm, (q0 e1).1.symm, ne_of_none eh0 hcs, ne_of_none eh0 hl0, ne_of_none eh0 hl1⟩
  have nh1 : h1 ≠ r ∧ h1 ≠ r0 ∧ h1 ≠ r1 ∧ h1 ≠ cs ∧ h1 ≠ l0 ∧ h1 ≠ l1 := ⟨(q0 er).2.symm, (q0 e0).2.symm, (q0 e1).2.symm, ne_of_none eh1 hcs, ne_of_none eh1 hl0, ne_of_none eh1 hl1⟩
  have ed3 := u3 ed
  have eh03 := u3 eh0
  have eh13 := u3 eh1
  clear sp3 u3 S3 tb2 tb1 S1 S2 k0 k1 ec q0 hl0 hl1 hcs s12
  (walk_at "RD")
  refine ⟨by decide, by decide, ?_⟩
  refine ForW.range (fun i σ H' => (i ≤ 20 → H' = H3) ∧ Good K a ns H' r r0 r1 cs f0 f1 l0 l1 xs0 xs1 ∧ ∃ x4 x5 x6 x7, σ = [some (.ref a), some (.ref r), some (.ref hd), some (.ref cs), x4, x5, x6, x7]) ⟨fun _ => rfl, G3, _, _, _, _, rfl⟩ ?_ ?_
  · rintro i σ H' hi ⟨h20, G, x4, x5, x6, x7, rfl⟩
    have hi40 : i < 40 := by omega
    obtain ⟨sd, hsd⟩ : ∃ sd : Int, ((i : Int) + (i : Int) / 20) % 2 = sd := ⟨_, rfl⟩
    have sd0 : 0 ≤ sd := by rw [← hsd]; exact Int.emod_nonneg _ (by decide)
    have sd1 : sd < 2 := by rw [← hsd]; exact Int.emod_lt_of_pos _ (by decide)
    simp only [gName_ap, tSeq_ap, List.set_cons_succ, List.set_cons_zero]
    refine tS_any (fun σ' H'' => H'' = H' ∧ σ' = [some (.ref a), some (.ref r), some (.ref hd), some (.ref cs), some (.int (i : Int)), some (.int sd), x6, x7]) (fun D' hD _ _ _ => ?_) ?_
    · (walk_at "RD")
      rw [hsd]
      exact ⟨⟨by decide, by decide⟩, by decide, hD _ _ ⟨rfl, rfl⟩⟩
    rintro σ1 H4 ⟨rfl, rfl⟩
    simp only [tSeq_ap]
    refine tS_any (fun σ' H'' => H'' = H4 ∧ ∃ v, σ' = [some (.ref a), some (.ref r), some (.ref hd), some (.ref cs), some (.int (i : Int)), some (.int sd), some (.int v), x7]) (fun D' hD _ _ _ => ?_) ?_
    · (walk_at "RD")
      exact ⟨by decide, _, rfl, G.S, by omega, fun v => hD _ _ ⟨rfl, v, rfl⟩⟩
    rintro σ1 H5 ⟨rfl, v, rfl⟩
    obtain ⟨f, rr, l, xs, a1, a2, er2, kf, hne⟩ : ∃ f rr l xs, atI [V.ref f0, .ref f1] sd = some (.ref f) ∧ atI [V.ref r0, .ref r1] sd = some (.ref rr) ∧ H5 rr = some (.lst (List.map V.int xs)) ∧ Clo H5 f l xs ∧ xs ≠ [] := by
      have : sd = ((0 : Nat) : Int) ∨ sd = ((1 : Nat) : Int) := by omega
      rcases this with z | z
      · rw [z]; exact ⟨f0, r0, l0, xs0, atI_nat rfl, atI_nat rfl, G.e0, G.k0, x0.1⟩
      · rw [z]; exact ⟨f1, r1, l1, xs1, atI_nat rfl, atI_nat rfl, G.e1, G.k1, x1.1⟩
    have hpos : (0 : Int) < (xs.length : Int) := by
      cases xs with
      | nil => exact absurd rfl hne
      | cons _ _ => simp
    obtain ⟨z, hz⟩ := cell_of xs v hpos
    simp only [tSeq_ap]
    refine tS_any (fun σ' H'' => H'' = H5 ∧ σ' = [some (.ref a), some (.ref r), some (.ref hd), some (.ref cs), some (.int (i : Int)), some (.int sd), some (.int v), some (.int z)]) (fun D' hD _ _ _ => ?_) ?_
    · obtain ⟨cl, c', c1, c2, c3, c4⟩ := kf
      have hcl : l ≠ cl := ne_of c4 c3 fun z => by cases z
      have hl : SqL K (delH H5 cl) l (List.map V.int xs) := SqL.of (by rw [del_ne hcl]; exact c4)
      (walk_at "RD")
      refine ⟨_, SqL.of G.ec, _, a1, f, rfl, ⟨cl, c', c1⟩, cl, c', c1, c2, _, c3, l, rfl, _, .inl hl, by rw [List.length_map]; exact hpos, l, rfl, _, hl, _, by rw [List.length_map]; exact hz, ?_⟩
      rw [upd_del c3]
      exact hD _ _ ⟨rfl, rfl⟩
    rintro σ1 H6 ⟨rfl, rfl⟩
    simp only [tSeq_ap]
    refine tIfS_by false (fun Q hQ => ?_) (fun hb => nomatch hb) (fun _ => ?_)
    · (walk_at "RD")
      refine ⟨_, .int _, _, rfl, ?_⟩
      rw [if_neg (by decide)]
      refine ⟨_, .int _, _, rfl, ?_⟩
      rw [if_neg (by decide)]
      refine ⟨_, SqL.of G.er, _, a2, _, SqL.of G.er, _, a2, _, rfl, _, .inl (SqL.of er2), by rw [List.length_map]; exact hpos, _, rfl, _, SqL.of er2, _, by rw [List.length_map]; exact hz, rfl, ?_⟩
      rw [decide_eq_true rfl]
      exact hQ
    · simp only [tNext_ap]
      by_cases h2 : i = 20
      · refine tIfS_by true (fun Q hQ => ?_) (fun _ => ?_) (fun hc => nomatch hc)
        · (walk_at "RD")
          rw [decide_eq_true (by rw [h2]; rfl)]
          exact hQ
        have eH := h20 (by omega)
        subst eH
        simp only [tSeq_ap]
        refine tIfS_by false (fun Q hQ => ?_) (fun hc => nomatch hc) (fun _ => ?_)
        · (walk_at "RD")
          refine ⟨_, EqH.lst (k := 7) (e := fun _ => true) (SqL.of ed3) (SqL.of G.er) rfl (fun j x y g1 g2 => ?_), by rw [all_of_get (fun _ _ => rfl)]; exact hQ⟩
          match j, g1, g2 with
          | 0, g1, g2 =>
            cases g1; cases g2
            have := EqH.flats (K := K) (k := 6) (SqL.of eh03) (SqL.of G.e0) ints_oneK
            rw [decide_eq_true rfl] at this
            exact this
          | 1, g1, g2 =>
            cases g1; cases g2
            have := EqH.flats (K := K) (k := 6) (SqL.of eh13) (SqL.of G.e1) ints_oneK
            rw [decide_eq_true rfl] at this
            exact this
          | j + 2, g1, _ => simp at g1
        have hnn : H6 hd = some (.lst [.ref h0, .ref h1]) := ed3
        have d0 : hd ≠ h0 := fun z => by
          rw [z, eh03] at hnn
          exact ints_ne (HO.lst.inj (Option.some.inj hnn))
        have d1 : hd ≠ h1 := fun z => by
          rw [z, eh13] at hnn
          exact ints_ne (HO.lst.inj (Option.some.inj hnn))
        obtain ⟨y0, ys0, rfl⟩ : ∃ y ys, xs0 = y :: ys := by
          cases xs0 with
          | nil => exact absurd rfl x0.1
          | cons y ys => exact ⟨y, ys, rfl⟩
        have hl30 : ys0.length ≤ 30 := by have := x0.2; rw [List.length_cons] at this; omega
        simp only [tNext_ap, tSeq_ap]
        refine tS_any (fun σ' H' => H' = upd H6 h0 (.lst (V.int (y0 + 1) :: List.map V.int ys0)) ∧ σ' = [some (.ref a), some (.ref r), some (.ref hd), some (.ref cs), some (.int (i : Int)), some (.int sd), some (.int v), some (.int z)]) (fun D' hD _ _ _ => ?_) ?_
        · (walk_at "RD")
          refine ⟨_, SqL.of ed3, _, atI_nat (j := 0) rfl, _, rfl, _, SqL.of eh03, _, atI_nat (j := 0) rfl, _, rfl, _, SqL.of ed3, _, atI_nat (j := 0) rfl, _, rfl, _, eh03, 0, ?_, hD _ _ ⟨rfl, rfl⟩⟩
          unfold ixN
          rw [if_pos (by decide), if_pos (by rw [List.length_map, List.length_cons]; omega)]
          rfl
        rintro σ1 H7 ⟨rfl, rfl⟩
        have G7 := G.put (ys := V.int (y0 + 1) :: List.map V.int ys0) eh03 nh0
        have ed7 : upd H6 h0 (.lst (V.int (y0 + 1) :: List.map V.int ys0)) hd = some (.lst [.ref h0, .ref h1]) := by rw [upd_ne d0]; exact ed3
        have e07 : upd H6 h0 (.lst (V.int (y0 + 1) :: List.map V.int ys0)) h0 = some (.lst (V.int (y0 + 1) :: List.map V.int ys0)) := upd_same
        have e17 : upd H6 h0 (.lst (V.int (y0 + 1) :: List.map V.int ys0)) h1 = some (.lst (List.map V.int xs1)) := by rw [upd_ne h10]; exact eh13
        generalize upd H6 h0 (.lst (V.int (y0 + 1) :: List.map V.int ys0)) = H7 at G7 ed7 e07 e17 ⊢
        simp only [tSeq_ap]
        refine tS_any (fun σ' H' => H' = upd H7 h0 (.lst ((V.int (y0 + 1) :: List.map V.int ys0) ++ [.int 3])) ∧ σ' = [some (.ref a), some (.ref r), some (.ref hd), some (.ref cs), some (.int (i : Int)), some (.int sd), some (.int v), some (.int z)]) (fun D' hD _ _ _ => ?_) ?_
        · (walk_at "RD")
          refine ⟨_, SqL.of ed7, _, atI_nat (j := 0) rfl, .inl ⟨_, SqL.of e07⟩, _, rfl, _, e07, ?_, hD _ _ ⟨rfl, rfl⟩⟩
          rw [List.length_cons, List.length_map]
          exact Nat.lt_of_le_of_lt (show ys0.length + 1 ≤ 31 by omega) (by decide)
        rintro σ1 H8 ⟨rfl, rfl⟩
        have G8 := G7.put (ys := (V.int (y0 + 1) :: List.map V.int ys0) ++ [.int 3]) e07 nh0
        have ed8 : upd H7 h0 (.lst ((V.int (y0 + 1) :: List.map V.int ys0) ++ [.int 3])) hd = some (.lst [.ref h0, .ref h1]) := by rw [upd_ne d0]; exact ed7
        have e18 : upd H7 h0 (.lst ((V.int (y0 + 1) :: List.map V.int ys0) ++ [.int 3])) h1 = some (.lst (List.map V.int xs1)) := by rw [upd_ne h10]; exact e17
        generalize upd H7 h0 (.lst ((V.int (y0 + 1) :: List.map V.int ys0) ++ [.int 3])) = H8 at G8 ed8 e18 ⊢
        (walk_at "RD")
        exact ⟨_, SqL.of ed8, _, atI_nat (j := 1) rfl, .inl ⟨_, SqL.of e18⟩, _, rfl, _, e18, fun hh => absurd hh (by omega), G8.put e18 nh1, _, rfl⟩
      · refine tIfS_by false (fun Q hQ => ?_) (fun hc => nomatch hc) (fun _ => ?_)
        · (walk_at "RD")
          rw [decide_eq_false (by omega)]
          exact hQ
        · (walk_at "RD")
          exact ⟨fun hh => h20 (by omega), G, _, rfl⟩
  · rintro σ H' ⟨h20, G, x4, x5, x6, x7, rfl⟩
    (walk_at "RD")
    exact q _
end
end My
open PySem PySem.W PyProof.Rows
set_option maxRecDepth 100000 in
set_option maxHeartbeats 0 in
theorem PySem.Challenge.cw_lampway_k45_coming_by_holds : PySem.Challenge.rw_lampway_k45_coming_by.Holds := by
  w_on; o_law; k_head; (case hw => w_witness2)
  k_fill
  refine L2.walk_ofT (fx := Str.ofString "coming_by") (l := PySem.Challenge.rw_lampway_k45_coming_by) (n := 63) (k := 4) (x := "_law_script") (CX := L2.CX0) (sp := My.sp_law) rfl (by decide) rfl ⟨rfl, by decide, by decide⟩ (fun w h Y => PySem.W.km_in_of Y) (by intro p; kernel_rfl) (by kernel_rfl) ?F ?S ?C
  case F =>
    intro w mg fa h KX G hmg
    have T : ∃ t, My.Txt w (L2.KOf KX) mg t := by
      dsimp only [L2.KOf]
      refine' ⟨My.Adr.mk, ⟨?maa, ?Fab, ?mac, ?Fad, ?mae, ?Faf, ?mag, ?Fah, ?mai, ?Faj, ?bak, ?bal, ?bam, ?ban, ?bao, ?bap, ?laq⟩⟩
      case maa | mac | mae | mag | mai => (try dsimp only); refine' PySem.W.mg_of KX G ?z; case z => k_is
      case Fab | Fad | Faf | Fah | Faj => (try dsimp only); refine' L2.fun_mk ?x ?y ?z; (case x => k_is); (case y => k_is); (case z => k_is)
      case bak | bal | bam | ban | bao | bap => (try dsimp only); refine' PySem.W.mg_none_of KX G ?z; case z => k_is
      case laq => (try dsimp only); exact fun _ _ => .of_eq rfl
    obtain ⟨t, T⟩ := T
    have e0 := hmg.symm.trans T.m_law
    cases e0
    exact ⟨t.d_law, T.bl_law, fun base c Pt kb nb hC hB hc => My.ok_law T (L2.code_of T.F_coming_by T.m_coming_by hc) hC hB⟩
  case S => exact fun K H a Pt ns hl hO hS => ⟨a, ns, rfl, L2.Sc.of_onlyT hO hS, hl, ⟨#[], hO.1, .inl rfl⟩, fun _ => rfl⟩
  case C => exact fun _ _ _ _ z => z
