import PyProof.Rows.All
import Wide.All
import OpenK.AllK
import Wide.FinOn
import Lean
import PyProof.EqAt
import PyProof.EqKinds
import PyProof.TupleCall
import PySem.Challenge.RW_lampway_k11_in_order
set_option Elab.async false
set_option linter.all false
set_option maxRecDepth 100000
namespace L2
open PySem PySem.Spec PyProof.Rows
abbrev Key := Sum Int Str
def keyIs : Key → Value → Bool
  | .inl k, v => Value.isInt k v
  | .inr x, v => Value.isStrOf x v
def keyH (w : World) : Key → Int
  | .inl k => hashInt k
  | .inr x => hashStr w x
theorem keyIs_shape : ∀ {k : Key} {v : Value}, keyIs k v = true → (∃ i t, k = Sum.inl i ∧ v = Value.int i t) ∨ (∃ x t, k = Sum.inr x ∧ v = Value.str x t)
  | .inl i, v, h => by
    obtain ⟨t, e⟩ := Value.isInt_shape (k := i) (v := v) h
    exact .inl ⟨i, t, rfl, e⟩
  | .inr x, v, h => by
    obtain ⟨t, e⟩ := Value.isStrOf_shape (x := x) (v := v) h
    exact .inr ⟨x, t, rfl, e⟩
theorem key_ll (a b : Int) : decide ((Sum.inl a : Key) = Sum.inl b) = (a == b) := by
  by_cases e : a = b
  · subst e; simp
  · have h : ¬ (Sum.inl a : Key) = Sum.inl b := fun q => e (Sum.inl.inj q)
    rw [decide_eq_false h]
    exact (beq_eq_false_iff_ne.mpr e).symm
theorem key_rr (a b : Str) : decide ((Sum.inr a : Key) = Sum.inr b) = decide (a = b) := by
  by_cases e : a = b
  · subst e; simp
  · have h : ¬ (Sum.inr a : Key) = Sum.inr b := fun q => e (Sum.inr.inj q)
    rw [decide_eq_false h, decide_eq_false e]
theorem key_lr (a : Int) (b : Str) : decide ((Sum.inl a : Key) = Sum.inr b) = false := decide_eq_false (fun q => nomatch q)
theorem key_rl (a : Str) (b : Int) : decide ((Sum.inr a : Key) = Sum.inl b) = false := decide_eq_false (fun q => nomatch q)
def mixKind (prog : Program) (w : World) : PySem.KeyKind prog w Key where
  is := keyIs
  hash := keyH w
  inj := fun v a b ha hb => by
    rcases keyIs_shape ha with ⟨i, t, rfl, rfl⟩ | ⟨x, t, rfl, rfl⟩
    · rcases keyIs_shape hb with ⟨j, u, rfl, e⟩ | ⟨y, u, rfl, e⟩
      · injection e with e1 _; rw [e1]
      · exact nomatch e
    · rcases keyIs_shape hb with ⟨j, u, rfl, e⟩ | ⟨y, u, rfl, e⟩
      · exact nomatch e
      · injection e with e1 _; rw [e1]
  byValue := fun k v h => by
    rcases keyIs_shape h with ⟨i, t, rfl, rfl⟩ | ⟨x, t, rfl, rfl⟩ <;> rfl
  pyHash := fun hv h => by
    rcases keyIs_shape hv with ⟨i, t, rfl, rfl⟩ | ⟨x, t, rfl, rfl⟩
    · exact wpAny_pyHash_int h
    · exact wpAny_pyHash_str h
  eqBool := fun hu hv h => by
    rcases keyIs_shape hu with ⟨i, t, rfl, rfl⟩ | ⟨x, t, rfl, rfl⟩
    · rcases keyIs_shape hv with ⟨j, u, rfl, rfl⟩ | ⟨y, u, rfl, rfl⟩
      · rw [key_ll] at h; exact wpAny_eqBool_int h
      · rw [key_lr] at h; exact SeqAt.EqAt.int_str i t y u _ _ _ _ h
    · rcases keyIs_shape hv with ⟨j, u, rfl, rfl⟩ | ⟨y, u, rfl, rfl⟩
      · rw [key_rl] at h; exact SeqAt.EqAt.str_int x t j u _ _ _ _ h
      · rw [key_rr] at h; exact wpAny_eqBool_str h
  «strs» := fun k x t v h => by
    rcases keyIs_shape h with ⟨i, u, rfl, e⟩ | ⟨y, u, rfl, e⟩
    · exact nomatch e
    · injection e with e1 _
      subst e1
      cases v <;> rfl
end L2
namespace L2
open PySem PySem.Spec PyProof.Rows
inductive V where
  | non | bl (b : Bool) | int (i : Int) | str (x : Str) | byt (b : Array UInt8) | flt (b : UInt64) | ref (a : Addr) | ty (n : String)
  deriving DecidableEq
def RelV : V → Value → Prop
  | .non, u => u = Value.none
  | .bl b, u => u = Value.bool b
  | .int i, u => ∃ t, u = Value.int i t
  | .str x, u => ∃ t, u = Value.str x t
  | .byt b, u => ∃ t, u = Value.bytes b t
  | .flt b, u => ∃ t, u = Value.float b t
  | .ref a, u => u = Value.ref a
  | .ty n, u => u = Value.type n
abbrev Vals : List V → List Value → Prop := Paired RelV
theorem Vals.length {xs : List V} {us : List Value} (r : Vals xs us) : xs.length = us.length := Paired.length r
theorem Vals.get : ∀ {xs : List V} {us : List Value} {i : Nat} {x : V}, Vals xs us → xs[i]? = some x → ∃ u, us[i]? = some u ∧ RelV x u
  | _, _, _, _, .nil, e => by simp at e
  | _, _, 0, _, .cons r _, e => by simp at e; subst e; exact ⟨_, rfl, r⟩
  | _, _, i + 1, x, .cons _ t, e => by
    obtain ⟨u, h1, h2⟩ := Vals.get (i := i) (x := x) t (by simpa using e)
    exact ⟨u, by simpa using h1, h2⟩
theorem Vals.set {x : V} {u : Value} (r : RelV x u) : ∀ {xs : List V} {us : List Value} (i : Nat), Vals xs us → Vals (xs.set i x) (us.set i u)
  | _, _, _, .nil => .nil
  | _, _, 0, .cons _ t => .cons r t
  | _, _, i + 1, .cons q t => .cons q (Vals.set r i t)
theorem Vals.append : ∀ {xs ys : List V} {us ws : List Value}, Vals xs us → Vals ys ws → Vals (xs ++ ys) (us ++ ws)
  | _, _, _, _, .nil, s => s
  | _, _, _, _, .cons r t, s => .cons r (Vals.append t s)
theorem Vals.take : ∀ {xs : List V} {us : List Value} (n : Nat), Vals xs us → Vals (xs.take n) (us.take n)
  | _, _, 0, _ => .nil
  | _, _, _ + 1, .nil => .nil
  | _, _, n + 1, .cons r t => .cons r (Vals.take n t)
theorem Vals.drop : ∀ {xs : List V} {us : List Value} (n : Nat), Vals xs us → Vals (xs.drop n) (us.drop n)
  | _, _, 0, r => r
  | _, _, _ + 1, .nil => .nil
  | _, _, n + 1, .cons _ t => Vals.drop n t
theorem Vals.none_of : ∀ {xs : List V} {us : List Value} {i : Nat}, Vals xs us → xs[i]? = none → us[i]? = none := fun {xs us i} r e => by
  have h1 := r.length
  have h2 : xs.length ≤ i := List.getElem?_eq_none_iff.mp e
  exact List.getElem?_eq_none_iff.mpr (by omega)
def RelO : Option V → Option Value → Prop
  | some v, some u => RelV v u
  | none, none => True
  | _, _ => False
def KV {κ : Type} : List (κ × V) → List (κ × Value) → Prop := Paired fun (p : κ × V) (q : κ × Value) => p.1 = q.1 ∧ RelV p.2 q.2
def kV : Key → V
  | .inl i => .int i
  | .inr x => .str x
inductive HO where
    | lst (xs : List V)
    | tup (xs : List V)
    | dK (kvs : List (Key × V)) | dT (kvs : List (List Key × V))
    | set (S : Int → Bool) (n : Nat)
    | ins (C dx : Addr) (fs : List (Str × V))
    | own (x : Addr)
    | xd (fs : List (Str × V))
    | met (f x : Addr)
    | rng (lo hi : Int)
    | frz (o : Obj) (u : HO)
    | tbl (ps : Array Value)
    | ext (φ : Heap → Prop)
abbrev Hp := Addr → Option HO
def upd (H : Hp) (a : Addr) (o : HO) : Hp := fun b => if b = a then some o else H b
theorem upd_same {H : Hp} {a : Addr} {o : HO} : upd H a o a = some o := by unfold upd; rw [if_pos rfl]
theorem upd_ne {H : Hp} {a b : Addr} {o : HO} (h : b ≠ a) : upd H a o b = H b := by unfold upd; rw [if_neg h]
theorem upd_upd {H : Hp} {a : Addr} {o u : HO} : upd (upd H a o) a u = upd H a u := by
  funext b; unfold upd; split <;> rfl
theorem ne_of {H : Hp} {a b : Addr} {o u : HO} (h : H a = some o) (h' : H b = some u) (d : o ≠ u) : a ≠ b := by
  intro e; subst e; rw [h] at h'; exact d (Option.some.inj h')
theorem ne_of_none {H : Hp} {a b : Addr} {o : HO} (h : H a = some o) (h' : H b = none) : a ≠ b := by
  intro e; subst e; rw [h] at h'; cases h'
section
variable (P : Program) (w : World)
def ObjOk (H : Hp) (h : Heap) (a : Addr) : HO → Prop
  | .lst xs => xs.length ≤ sizeLine ∧ ∃ (its : List Value) (n : Nat), Vals xs its ∧ h.get? a = some { cls := .type "list", data := .seq its.toArray n }
  | .tup xs => xs.length ≤ sizeLine ∧ ∃ its : List Value, Vals xs its ∧ IsTup h a its.toArray
  | .dK kvs => kvs.length ≤ sizeLine ∧ (a == sysModules) = false ∧ ∃ vs, KV kvs vs ∧ h.DictOf (mixKind P w) a vs
  | .dT kvs => kvs.length ≤ sizeLine ∧ (a == sysModules) = false ∧ ∃ xs : List (List Key × Addr × Value),
      Paired (fun (p : List Key × V) (q : List Key × Addr × Value) => p.1 = q.1 ∧ H q.2.1 = some (.tup (p.1.map kV)) ∧ RelV p.2 q.2.2) kvs xs ∧
      ∃ o es ep, h.get? a = some o ∧ o.ExactDict ∧ o.data = .dict es ep ∧ es.toList = xs.map (entryOfKey (tupleKind (mixKind P w))) ∧ (xs.map (·.1)).Nodup
  | .set S n => h.SetOf (intKind P w) a S n
  | .ins C dx fs => H dx = some (.own a) ∧ fs.length ≤ 1000 ∧ dx ≠ a ∧ h.get? a = some (PySem.W.instObj C dx) ∧
      ∃ mA, h.Ns1 dx mA ∧ (∀ f, RelO (fs.lookup f) (mA f)) ∧ PySem.Within mA (fs.map (·.1))
  | .own _ => ∃ o, h.get? a = some o
  | .xd fs => ∃ mA, h.Ns1 a mA ∧ ∀ f, RelO (fs.lookup f) (mA f)
  | .rng lo hi => ∃ t u v, h.get? a = some { cls := .type "range", data := .fields #[.int lo t, .int hi u, .int 1 v] }
  | .frz o u => h.get? a = some o ∧ ObjOk H h a u
  | .tbl ps => h.get? a = some { cls := .none, data := .fields ps }
  | .met f x => h.get? a = some (PySem.W.methodObj (.ref f) (.ref x))
  | .ext φ => φ h ∧ (∃ o, h.get? a = some o) ∧ ∀ h1 h2 : Heap, φ h1 → (∀ o, h1.get? a = some o → h2.get? a = some o) → φ h2
def HOk (H : Hp) (h : Heap) : Prop := ∀ a o, H a = some o → ObjOk P w H h a o
end
section
variable {P : Program} {w : World} {H H' : Hp} {h h' : Heap} {a : Addr} {o : HO}
theorem ObjOk.lt (x : ObjOk P w H h a o) : a < h.objs.size := by
  cases o with
  | lst xs => obtain ⟨_, _, _, _, e⟩ := x; exact Heap.lt_size e
  | tup xs => obtain ⟨_, _, _, p⟩ := x; exact p.lt
  | dK kvs => obtain ⟨_, _, _, _, o, _, _, e, _⟩ := x; exact Heap.lt_size e
  | dT kvs => obtain ⟨_, _, _, _, o, _, _, e, _⟩ := x; exact Heap.lt_size e
  | set S n => obtain ⟨o, _, _, _, e, _⟩ := x; exact Heap.lt_size e
  | ins C dx fs => obtain ⟨_, _, _, e, _⟩ := x; exact Heap.lt_size e
  | own y => obtain ⟨_, e⟩ := x; exact Heap.lt_size e
  | xd fs => obtain ⟨_, ⟨_, _, _, e, _⟩, _⟩ := x; exact Heap.lt_size e
  | rng lo hi => obtain ⟨_, _, _, e⟩ := x; exact Heap.lt_size e
  | frz ob u => obtain ⟨e, _⟩ := x; exact Heap.lt_size e
  | tbl ps => exact Heap.lt_size (show h.get? a = some _ from x)
  | met f y => exact Heap.lt_size (show h.get? a = some _ from x)
  | ext φ => obtain ⟨_, ⟨_, e⟩, _⟩ := x; exact Heap.lt_size e
theorem Paired.mapP {α β : Type} {F G : α → β → Prop} : ∀ {l₁ : List α} {l₂ : List β}, Paired F l₁ l₂ → (∀ a b, F a b → G a b) → Paired G l₁ l₂
  | _, _, .nil, _ => .nil
  | _, _, .cons r t, f => .cons (f _ _ r) (Paired.mapP t f)
theorem ObjOk.stay (x : ObjOk P w H h a o) (k : ∀ b u, (b = a ∨ H b = some (.own a)) → h.get? b = some u → h'.get? b = some u)
    (ho : ∀ b, H b = some (.own a) → H' b = some (.own a)) (ht : ∀ b xs, H b = some (.tup xs) → H' b = some (.tup xs)) : ObjOk P w H' h' a o := by
  induction o with
  | lst xs => obtain ⟨z, its, n, r, e⟩ := x; exact ⟨z, its, n, r, k _ _ (.inl rfl) e⟩
  | tup xs => obtain ⟨z, its, r, ob, e, c⟩ := x; exact ⟨z, its, r, ob, k _ _ (.inl rfl) e, c⟩
  | dK kvs => obtain ⟨z, y, vs, r, ob, es, ep, e, c⟩ := x; exact ⟨z, y, vs, r, ob, es, ep, k _ _ (.inl rfl) e, c⟩
  | dT kvs =>
    obtain ⟨z, y, xs, r, ob, es, ep, e, c⟩ := x
    exact ⟨z, y, xs, Paired.mapP r fun p q z => ⟨z.1, ht _ _ z.2.1, z.2.2⟩, ob, es, ep, k _ _ (.inl rfl) e, c⟩
  | set S n => obtain ⟨ob, es, ep, t, e, c⟩ := x; exact ⟨ob, es, ep, t, k _ _ (.inl rfl) e, c⟩
  | ins C dx fs =>
    obtain ⟨d, z, ne, e, mA, ⟨od, es, ep, e2, c⟩, r⟩ := x
    exact ⟨ho _ d, z, ne, k _ _ (.inl rfl) e, mA, ⟨od, es, ep, k _ _ (.inr d) e2, c⟩, r⟩
  | own y => obtain ⟨ob, e⟩ := x; exact ⟨ob, k _ _ (.inl rfl) e⟩
  | xd fs => obtain ⟨mA, ⟨od, es, ep, e, c⟩, r⟩ := x; exact ⟨mA, ⟨od, es, ep, k _ _ (.inl rfl) e, c⟩, r⟩
  | rng lo hi => obtain ⟨t, u, v, e⟩ := x; exact ⟨t, u, v, k _ _ (.inl rfl) e⟩
  | frz ob u ih => obtain ⟨e, q⟩ := x; exact ⟨k _ _ (.inl rfl) e, ih q⟩
  | tbl ps =>
    have e : h.get? a = some { cls := .none, data := .fields ps } := x
    show h'.get? a = some { cls := .none, data := .fields ps }
    exact k a _ (.inl rfl) e
  | met f y =>
    have e : h.get? a = some (PySem.W.methodObj (.ref f) (.ref y)) := x
    show h'.get? a = some (PySem.W.methodObj (.ref f) (.ref y))
    exact k a _ (.inl rfl) e
  | ext φ => obtain ⟨p, ⟨o, e⟩, st⟩ := x; exact ⟨st _ _ p fun o q => k _ _ (.inl rfl) q, ⟨o, k _ _ (.inl rfl) e⟩, st⟩
theorem HOk.lt (x : HOk P w H h) (e : H a = some o) : a < h.objs.size := (x a o e).lt
theorem HOk.fresh (x : HOk P w H h) (e : h.objs.size ≤ a) : H a = none := by
  cases q : H a with
  | none => rfl
  | some u => exact absurd (Nat.lt_of_lt_of_le (x.lt q) e) (Nat.lt_irrefl _)
theorem HOk.kept (x : HOk P w H h) (k : ∀ b u, h.get? b = some u → h'.get? b = some u) : HOk P w H h' := fun a o e =>
  (x a o e).stay (fun b u _ q => k b u q) (fun _ q => q) fun _ _ q => q
theorem HOk.laid (x : HOk P w H h) (k : ∀ b u, h.get? b = some u → h'.get? b = some u) (hp : h.objs.size ≤ a) (new : ObjOk P w (upd H a o) h' a o) : HOk P w (upd H a o) h' := fun b u e => by
  have hn := x.fresh hp
  by_cases hb : b = a
  · subst hb; rw [upd_same] at e; cases e; exact new
  · rw [upd_ne hb] at e
    exact (x b u e).stay (fun c v _ q => k c v q) (fun c q => by rw [upd_ne (ne_of_none q hn)]; exact q) fun c xs q => by rw [upd_ne (ne_of_none q hn)]; exact q
end
def Rd (H : Hp) (a : Addr) (u : HO) : Prop := H a = some u ∨ ∃ o, H a = some (.frz o u)
theorem Rd.of {H : Hp} {a : Addr} {u : HO} (h : H a = some u) : Rd H a u := .inl h
theorem Rd.ok {P : Program} {w : World} {H : Hp} {h : Heap} {a : Addr} {u : HO} (r : Rd H a u) (x : HOk P w H h) : ObjOk P w H h a u := by
  rcases r with r | ⟨o, r⟩
  · exact x a u r
  · obtain ⟨_, q⟩ := x a _ r
    exact q
def Mut : Option HO → Prop
  | some (.lst _) => True
  | some (.dK _) => True
  | some (.dT _) => True
  | some (.set _ _) => True
  | some (.ins _ _ _) => True
  | some (.ext _) => True
  | _ => False
section
variable {P : Program} {w : World} {H : Hp} {h h' : Heap} {x e : Addr} {o' : HO}
theorem HOk.write (ok : HOk P w H h) (mu : Mut (H x)) (he : e = x ∨ H e = some (.own x)) (k : ∀ b u, b ≠ e → h.get? b = some u → h'.get? b = some u) (heo : ∃ u, h'.get? e = some u)
    (new : ObjOk P w (upd H x o') h' x o') : HOk P w (upd H x o') h' := fun b u q => by
  have nown : ∀ c y, H c = some (.own y) → c ≠ x := fun c y r z => by subst z; rw [r] at mu; exact mu
  have ntup : ∀ c xs, H c = some (.tup xs) → c ≠ x := fun c xs r z => by subst z; rw [r] at mu; exact mu
  by_cases hb : b = x
  · subst hb; rw [upd_same] at q; cases q; exact new
  · rw [upd_ne hb] at q
    by_cases hbe : b = e
    · have q' : H b = some (.own x) := by
        rcases he with z | z
        · exact absurd (hbe.trans z) hb
        · rw [hbe]; exact z
      rw [q] at q'; cases q'
      obtain ⟨v, hv⟩ := heo
      exact ⟨v, by rw [hbe]; exact hv⟩
    · refine (ok b u q).stay (fun c v hc r => k c v ?_ r) (fun c r => by rw [upd_ne (nown c b r)]; exact r) fun c xs r => by rw [upd_ne (ntup c xs r)]; exact r
      rcases hc with rfl | hc
      · exact hbe
      · rintro rfl
        rcases he with z | z
        · exact nown c b hc z
        · rw [hc] at z; cases z; exact hb rfl
end
structure Un (fs ex : List Addr) (H H' : Hp) (h h' : Heap) : Prop where
  keep : ∀ b o, h.get? b = some o → H b = none → b ∉ fs → b ∉ ex → h'.get? b = some o
  slot : ∀ b o, h.get? b = some o → H b = none → b ∈ fs → b ∉ ex → ∃ sl, h'.get? b = some { o with slots := sl }
  free : ∀ b o, h.get? b = some o → H b = none → b ∉ ex → H' b = none
  there : ∀ b o, h.get? b = some o → b ∉ ex → ∃ o', h'.get? b = some o'
  tups : ∀ b xs, H b = some (.tup xs) → H' b = some (.tup xs)
  frzs : ∀ b o u, H b = some (.frz o u) → H' b = some (.frz o u)
  tbls : ∀ b ps, H b = some (.tbl ps) → ∃ more, H' b = some (.tbl (ps ++ more))
section
variable {fs fs' ex ex' : List Addr} {H H1 H2 : Hp} {h h1 h2 h' : Heap} {a x e : Addr} {o : HO}
theorem Un.any (u : Un fs ex H H1 h h1) {b : Addr} {ob : Obj} (q : h.get? b = some ob) (n : H b = none) (hx : b ∉ ex) : ∃ sl, h1.get? b = some { ob with slots := sl } := by
  by_cases hb : b ∈ fs
  · exact u.slot b ob q n hb hx
  · exact ⟨ob.slots, u.keep b ob q n hb hx⟩
theorem Un.trans (a : Un fs ex H H1 h h1) (b : Un fs ex H1 H2 h1 h2) : Un fs ex H H2 h h2 where
  keep := fun c ob q n hc hx => b.keep c ob (a.keep c ob q n hc hx) (a.free c ob q n hx) hc hx
  slot := fun c ob q n hc hx => by
    obtain ⟨sl, e1⟩ := a.slot c ob q n hc hx
    obtain ⟨sl', e2⟩ := b.slot c _ e1 (a.free c ob q n hx) hc hx
    exact ⟨sl', e2⟩
  free := fun c ob q n hx => by
    obtain ⟨o', e1⟩ := a.there c ob q hx
    exact b.free c o' e1 (a.free c ob q n hx) hx
  there := fun c ob q hx => by
    obtain ⟨o', e1⟩ := a.there c ob q hx
    exact b.there c o' e1 hx
  tups := fun c xs q => b.tups c xs (a.tups c xs q)
  frzs := fun c ob xs q => b.frzs c ob xs (a.frzs c ob xs q)
  tbls := fun c ps q => by
    obtain ⟨m1, e1⟩ := a.tbls c ps q
    obtain ⟨m2, e2⟩ := b.tbls c _ e1
    exact ⟨m1 ++ m2, by rw [e2, Array.append_assoc]⟩
theorem Un.kept (k : ∀ b u, h.get? b = some u → h'.get? b = some u) : Un fs ex H H h h' :=
  ⟨fun b ob q _ _ _ => k b ob q, fun b ob q _ _ _ => ⟨ob.slots, k b ob q⟩, fun _ _ _ n _ => n, fun b ob q _ => ⟨ob, k b ob q⟩, fun _ _ q => q, fun _ _ _ q => q, fun _ ps q => ⟨#[], by rw [q]; simp⟩⟩
theorem Un.refl : Un fs ex H H h h := Un.kept fun _ _ q => q
theorem Un.laid (k : ∀ b u, h.get? b = some u → h'.get? b = some u) (hp : h.objs.size ≤ a) (hn : H a = none) : Un fs ex H (upd H a o) h h' where
  keep := fun b u q _ _ _ => k b u q
  slot := fun b u q _ _ _ => ⟨u.slots, k b u q⟩
  free := fun b u q n _ => by rw [upd_ne (Nat.ne_of_lt (Nat.lt_of_lt_of_le (Heap.lt_size q) hp))]; exact n
  there := fun b u q _ => ⟨u, k b u q⟩
  tups := fun b xs q => by rw [upd_ne (ne_of_none q hn)]; exact q
  frzs := fun b u xs q => by rw [upd_ne (ne_of_none q hn)]; exact q
  tbls := fun b ps q => ⟨#[], by rw [upd_ne (ne_of_none q hn), q]; simp⟩
theorem Un.write (mu : Mut (H x)) (he : e = x ∨ H e = some (.own x)) (k : ∀ b u, b ≠ e → h.get? b = some u → h'.get? b = some u) (heo : ∃ u, h'.get? e = some u) : Un fs ex H (upd H x o) h h' := by
  have hx : ∀ b, H b = none → b ≠ x := fun b n z => by subst z; rw [n] at mu; exact mu
  have hb : ∀ b, H b = none → b ≠ e := fun b n z => by
    subst z
    rcases he with r | r
    · exact hx b n r
    · rw [n] at r; cases r
  have hm : ∀ b u, H b = some u → ¬ Mut (some u) → b ≠ x := fun b u q nm z => by subst z; rw [q] at mu; exact nm mu
  refine ⟨fun b u q n _ _ => k b u (hb b n) q, fun b u q n _ _ => ⟨u.slots, k b u (hb b n) q⟩, fun b u q n _ => by rw [upd_ne (hx b n)]; exact n, fun b u q _ => ?_,
    fun b xs q => by rw [upd_ne (hm b _ q fun z => z)]; exact q, fun b u xs q => by rw [upd_ne (hm b _ q fun z => z)]; exact q, fun b ps q => ⟨#[], by rw [upd_ne (hm b _ q fun z => z), q]; simp⟩⟩
  by_cases hbe : b = e
  · subst hbe; exact heo
  · exact ⟨u, k b u hbe q⟩
theorem Un.mono (u : Un fs ex H H1 h h1) (hs : ∀ b ∈ fs, b ∈ fs') (hx : ∀ b ∈ ex, b ∈ ex') : Un fs' ex' H H1 h h1 :=
  ⟨fun b ob q n hb he => u.keep b ob q n (fun z => hb (hs b z)) fun z => he (hx b z), fun _ _ q n _ he => u.any q n fun z => he (hx _ z), fun b ob q n he => u.free b ob q n fun z => he (hx b z), fun b ob q he => u.there b ob q fun z => he (hx b z), u.tups, u.frzs, u.tbls⟩
end
def trk (h : Heap) (H : Hp) : List Addr := (List.range h.objs.size).filter fun a => (H a).isSome
def hidT (h : Heap) (H : Hp) : Heap := PySem.W.hideAll h (trk h H)
theorem hidT_size (h : Heap) (H : Hp) : (hidT h H).objs.size = h.objs.size := PySem.W.hideAll_size _ _
theorem hidT_get {h : Heap} {H : Hp} {b : Addr} {o : Obj} (e : h.get? b = some o) (n : H b = none) : (hidT h H).get? b = some o :=
  PySem.W.hideAll_get _ e fun hm => by
    have q : (H b).isSome = true := (List.mem_filter.mp hm).2
    rw [n] at q; simp at q
theorem of_hidT {h : Heap} {H : Hp} {b : Addr} {o : Obj} (e : (hidT h H).get? b = some o) : h.get? b = some o ∧ H b = none := by
  have e' : h.get? b = some o := PySem.W.of_hideAll (trk h H) e
  refine ⟨e', ?_⟩
  cases q : H b with
  | none => rfl
  | some x =>
    have hm : b ∈ trk h H := List.mem_filter.mpr ⟨List.mem_range.mpr (Heap.lt_size e'), by simp [q]⟩
    have z : (hidT h H).get? b = none := PySem.W.hideAll_none (trk h H) hm
    rw [z] at e; cases e
def allNews (g h : Heap) (L : Addr) : List (Addr × Obj) := (List.range h.objs.size).filterMap fun a => if a = L ∨ (g.get? a).isSome = true then none else (h.get? a).map fun o => (a, o)
def rest (g h : Heap) (L d : Addr) : List (Addr × Obj) := (allNews g h L).filter fun p => decide (p.1 ≠ d)
end L2
namespace L2
open PySem PySem.Spec PyProof.Rows
structure Mod (K : PySem.W.Frag) (mg : Str → Option Value) (base : Heap) : Prop where
  kin : K.In base
  glob : base.Ns mainGlobals mg
  blt : ∃ mb, base.Ns builtinsNs mb ∧ ∀ x : Str, x ≠ "__name__" → mb x = bootBuiltins x
  nolimit : base.NoLimit
structure Cx where
  prog : Program
  w : World
  K : PySem.W.Frag
  mg : Str → Option Value
  base : Heap
  A : Around
  N : List Str
  s₀ : Shared
  H₀ : Hp
  env : Env
  outer : List Env
  stack : List Env
  ex : List Addr
  fn : Str → Bool
  calm : Bool
  pn : List (Addr × Obj)
  xe : Value → Shared → Prop
def frs (l : List Env) : List Addr := l.filterMap (·.frame)
abbrev Cx.fs (X : Cx) : List Addr := frs X.outer
def Vis (sc : Scope) (x : Str) : Prop := sc.names.lookup x = some .local ∨ sc.names.lookup x = some .cell ∨ sc.names.lookup x = some .free
def Loc (sc : Scope) (x : Str) : Prop := sc.names.lookup x = some .local ∨ sc.names.lookup x = some .cell
def Look (env : Env) (h : Heap) (m : Str → Option Value) (x : Str) (u : Value) : Prop :=
  (env.kindOf x = some .local ∧ m x = some u) ∨ ((env.kindOf x = some .cell ∨ env.kindOf x = some .free) ∧ ∃ c, env.cells.lookup x = some c ∧ h.IsCell c (some u))
structure Cx.Ok (X : Cx) : Prop where
  mod : Mod X.K X.mg X.base
  kind : X.env.scope.kind = .function
  glob : X.env.globals = mainGlobals
  blt : X.env.builtins = builtinsNs
  above : X.s₀.heap.objs.size ≤ X.env.locals
  inj : ∀ x y c, X.env.cells.lookup x = some c → X.env.cells.lookup y = some c → x = y
  has : ∀ x, (X.env.kindOf x = some .cell ∨ X.env.kindOf x = some .free) → ∃ c, X.env.cells.lookup x = some c
  cab : ∀ x c, X.fn x = true → X.env.cells.lookup x = some c → X.s₀.heap.objs.size ≤ c
  hd : X.calm = true → X.A.handled = none
  frames : X.A.frames = some X.stack
  stk : X.stack = X.outer ∨ (X.stack = X.env :: X.outer ∧ X.env.frame = some X.env.locals)
  exf : ∀ b ∈ X.ex, b ≠ X.env.locals ∧ ∀ x c, X.env.cells.lookup x = some c → c ≠ b
  bs : ∀ b o, X.base.get? b = some o → X.s₀.heap.get? b = some o ∧ X.H₀ b = none
  bsz : X.base.objs.size ≤ X.s₀.heap.objs.size
  noex : ∀ b o, X.base.get? b = some o → b ∉ X.ex
  exfs : ∀ b ∈ X.ex, b ∉ X.fs
  funs : X.s₀.heap.FunFrames X.base X.outer
  frf : ∀ b ∈ X.fs, X.H₀ b = none
structure Inv (X : Cx) (pins : List (Addr × Obj)) (σ : List (Option V)) (H : Hp) (s : Shared) : Prop where
  ok : X.Ok
  os : s.os = X.s₀.os
  bare : AllBare s.gens
  base : Un X.fs X.ex X.H₀ H X.s₀.heap s.heap
  loc : ∃ m, s.heap.Ns X.env.locals m ∧ ∀ (i : Nat) (x : Str) (v : V), X.N[i]? = some x → σ[i]? = some (some v) → Vis X.env.scope x → ∃ u, RelV v u ∧ Look X.env s.heap m x u
  cell : ∀ x c, X.env.cells.lookup x = some c → ∃ v, s.heap.IsCell c v
  free : H X.env.locals = none
  freeC : ∀ x c, X.env.cells.lookup x = some c → H c = none
  pin : ∀ p ∈ X.pn ++ pins, s.heap.get? p.1 = some p.2 ∧ H p.1 = none ∧ p.1 ≠ X.env.locals ∧ p.1 ∉ X.fs ∧ ∀ v, p.2.data ≠ .cell v
  hok : HOk X.prog X.w H s.heap
  len : σ.length = X.N.length
section
variable {X : Cx} {pins : List (Addr × Obj)} {σ : List (Option V)} {H H' : Hp} {s : Shared} {h' : Heap}
theorem Cx.Ok.nofr (ok : X.Ok) {b : Addr} {o : Obj} (e : X.base.get? b = some o) : b ∉ X.fs := fun hb => by
  have := (ok.funs.mem hb).1
  rw [e] at this; cases this
theorem Inv.bs (I : Inv X pins σ H s) : ∀ b o, X.base.get? b = some o → s.heap.get? b = some o ∧ H b = none := fun b o e =>
  ⟨I.base.keep b o (I.ok.bs b o e).1 (I.ok.bs b o e).2 (I.ok.nofr e) (I.ok.noex b o e), I.base.free b o (I.ok.bs b o e).1 (I.ok.bs b o e).2 (I.ok.noex b o e)⟩
theorem Inv.bk (I : Inv X pins σ H s) : ∀ b o, X.base.get? b = some o → s.heap.get? b = some o := fun b o e => (I.bs b o e).1
theorem Inv.mod (I : Inv X pins σ H s) : Mod X.K X.mg X.base := I.ok.mod
theorem Inv.kIn (I : Inv X pins σ H s) : X.K.In s.heap := I.ok.mod.kin.keeps I.bk
theorem Inv.nolimit (I : Inv X pins σ H s) : s.heap.NoLimit := I.ok.mod.nolimit.keeps I.bk
theorem Inv.fr (I : Inv X pins σ H s) : ∃ m, Fr X.base X.env.locals s.heap m :=
  let ⟨m, hn, _⟩ := I.loc
  ⟨m, hn, I.bk, Nat.le_trans I.ok.bsz I.ok.above⟩
theorem Inv.lt (I : Inv X pins σ H s) : X.env.locals < s.heap.objs.size := let ⟨_, hn, _⟩ := I.loc; hn.lt
theorem Inv.sz (I : Inv X pins σ H s) : X.s₀.heap.objs.size ≤ s.heap.objs.size := Nat.le_trans I.ok.above (Nat.le_of_lt I.lt)
theorem Inv.nofs (I : Inv X pins σ H s) {a : Addr} (h : s.heap.objs.size ≤ a) : a ∉ X.fs := fun hb => by
  obtain ⟨_, o, ho, _⟩ := I.ok.funs.mem hb
  exact absurd (Nat.lt_of_lt_of_le (Heap.lt_size ho) (Nat.le_trans I.sz h)) (Nat.lt_irrefl _)
theorem Inv.cne (I : Inv X pins σ H s) : ∀ x c, X.env.cells.lookup x = some c → c ≠ X.env.locals := fun x c e z => by
  obtain ⟨v, o, ho, hd⟩ := I.cell x c e
  obtain ⟨m, ⟨o', es, ep, ho', hd', _⟩, _⟩ := I.loc
  rw [z, ho'] at ho; cases ho; rw [hd'] at hd; cases hd
theorem Inv.funs (I : Inv X pins σ H s) : s.heap.FunFrames X.base X.outer := by
  have all : ∀ (l : List Env), (∀ b ∈ frs l, b ∈ X.fs) → X.s₀.heap.FunFrames X.base l → s.heap.FunFrames X.base l := by
    intro l
    induction l with
    | nil => intro _ _; trivial
    | cons env r ih =>
      intro hs hl
      obtain ⟨hk, ⟨L, o, hf, hn, ho, hd⟩, hr⟩ := hl
      have hL : L ∈ X.fs := hs L (by unfold frs; rw [List.filterMap_cons, hf]; exact List.mem_cons_self)
      obtain ⟨sl, e⟩ := I.base.slot L o ho (I.ok.frf L hL) hL fun z => I.ok.exfs L z hL
      exact ⟨hk, ⟨L, _, hf, hn, e, hd⟩, ih (fun b hb => hs b (by unfold frs; rw [List.filterMap_cons, hf]; exact List.mem_cons_of_mem _ hb)) hr⟩
  exact all X.outer (fun _ hb => hb) I.ok.funs
theorem Inv.stack (I : Inv X pins σ H s) : s.heap.FunFrames X.base X.stack := by
  rcases I.ok.stk with e | ⟨e, hf⟩
  · rw [e]; exact I.funs
  · rw [e]
    obtain ⟨m, hn, _⟩ := I.loc
    refine .cons (by rw [I.ok.kind]; decide) hf hn ?_ I.funs
    exact Heap.get?_none_of_le (Nat.le_trans I.ok.bsz I.ok.above)
theorem Inv.stkSub (I : Inv X pins σ H s) : ∀ b ∈ frs X.stack, b ∈ X.env.locals :: X.fs := fun b hb => by
  rcases I.ok.stk with e | ⟨e, hf⟩
  · rw [e] at hb; exact List.mem_cons_of_mem _ hb
  · rw [e] at hb
    unfold frs at hb
    rw [List.filterMap_cons, hf] at hb
    exact hb
theorem Inv.stkFree (I : Inv X pins σ H s) : ∀ b ∈ frs X.stack, H b = none := fun b hb => by
  rcases List.mem_cons.mp (I.stkSub b hb) with e | hb
  · rw [e]; exact I.free
  · obtain ⟨_, o, ho, _⟩ := I.ok.funs.mem hb
    exact I.base.free b o ho (I.ok.frf b hb) fun z => I.ok.exfs b z hb
theorem Inv.step {g' : Array GenState} {t' : Nat} {d' : Drawn} {ch : List Addr} (I : Inv X pins σ H s)
    (hch : ∀ b ∈ ch, (b ∈ X.ex ∨ X.s₀.heap.objs.size ≤ b) ∧ b ≠ X.env.locals ∧ (∀ x c, X.env.cells.lookup x = some c → c ≠ b) ∧ ∀ p ∈ X.pn ++ pins, p.1 ≠ b)
    (keep : ∀ b o, b ≠ X.env.locals → b ∉ X.fs → b ∉ ch → s.heap.get? b = some o → H b = none → h'.get? b = some o)
    (slot : ∀ b o, b ≠ X.env.locals → b ∈ X.fs → b ∉ ch → s.heap.get? b = some o → H b = none → ∃ sl, h'.get? b = some { o with slots := sl }) (free : ∀ b o, b ∉ ch → s.heap.get? b = some o → H b = none → H' b = none)
    (there : ∀ b o, b ∉ ch → s.heap.get? b = some o → ∃ o', h'.get? b = some o')
    (tups : ∀ b xs, H b = some (.tup xs) → H' b = some (.tup xs)) (frzs : ∀ b o u, H b = some (.frz o u) → H' b = some (.frz o u)) (tbls : ∀ b ps, H b = some (.tbl ps) → ∃ more, H' b = some (.tbl (ps ++ more)))
    (ns : ∀ m, s.heap.Ns X.env.locals m → h'.Ns X.env.locals m) (hok : HOk X.prog X.w H' h') (hg : AllBare g') :
    Inv X pins σ H' { s with heap := h', gens := g', drawn := d', toks := t' } := by
  have neL : ∀ b o, X.s₀.heap.get? b = some o → b ≠ X.env.locals := fun b o e => Nat.ne_of_lt (Nat.lt_of_lt_of_le (Heap.lt_size e) I.ok.above)
  have neC : ∀ b o, X.s₀.heap.get? b = some o → b ∉ X.ex → b ∉ ch := fun b o e hx hb => by
    rcases (hch b hb).1 with z | z
    · exact hx z
    · exact absurd (Nat.lt_of_lt_of_le (Heap.lt_size e) z) (Nat.lt_irrefl _)
  have cellK : ∀ x c, X.env.cells.lookup x = some c → ∀ v, s.heap.IsCell c v → h'.IsCell c v := fun x c e v ⟨o, ho, hd⟩ => by
    have nch : c ∉ ch := fun z => (hch c z).2.2.1 x c e rfl
    by_cases hc : c ∈ X.fs
    · obtain ⟨sl, q⟩ := slot c o (I.cne x c e) hc nch ho (I.freeC x c e)
      exact ⟨_, q, hd⟩
    · exact ⟨o, keep c o (I.cne x c e) hc nch ho (I.freeC x c e), hd⟩
  refine ⟨I.ok, I.os, hg, ⟨fun b o e n hb hx => ?_, fun b o e n hb hx => ?_, fun b o e n hx => ?_, fun b o e hx => ?_, fun b xs e => tups b xs (I.base.tups b xs e), fun b o xs e => frzs b o xs (I.base.frzs b o xs e), fun b ps e => ?_⟩, ?_, fun x c e => ?_, ?_, fun x c e => ?_, fun p hp => ?_, hok, I.len⟩
  · exact keep b o (neL b o e) hb (neC b o e hx) (I.base.keep b o e n hb hx) (I.base.free b o e n hx)
  · obtain ⟨sl, e1⟩ := I.base.slot b o e n hb hx
    obtain ⟨sl', e2⟩ := slot b _ (neL b o e) hb (neC b o e hx) e1 (I.base.free b o e n hx)
    exact ⟨sl', e2⟩
  · obtain ⟨o', e1⟩ := I.base.there b o e hx
    exact free b o' (neC b o e hx) e1 (I.base.free b o e n hx)
  · obtain ⟨o', e1⟩ := I.base.there b o e hx
    exact there b o' (neC b o e hx) e1
  · obtain ⟨m1, e1⟩ := I.base.tbls b ps e
    obtain ⟨m2, e2⟩ := tbls b _ e1
    exact ⟨m1 ++ m2, by rw [e2, Array.append_assoc]⟩
  · obtain ⟨m, hn, hl⟩ := I.loc
    refine ⟨m, ns m hn, fun i x v e1 e2 e3 => ?_⟩
    obtain ⟨u, r, l⟩ := hl i x v e1 e2 e3
    refine ⟨u, r, ?_⟩
    rcases l with l | ⟨k, c, e, z⟩
    · exact .inl l
    · exact .inr ⟨k, c, e, cellK x c e _ z⟩
  · obtain ⟨v, z⟩ := I.cell x c e
    exact ⟨v, cellK x c e v z⟩
  · obtain ⟨m, ⟨o, _, _, ho, _⟩, _⟩ := I.loc
    exact free _ o (fun z => (hch _ z).2.1 rfl) ho I.free
  · obtain ⟨v, o, ho, hd⟩ := I.cell x c e
    exact free c o (fun z => (hch c z).2.2.1 x c e rfl) ho (I.freeC x c e)
  · obtain ⟨e, n, ne, nf, d⟩ := I.pin p hp
    have nch : p.1 ∉ ch := fun z => (hch p.1 z).2.2.2 p hp rfl
    exact ⟨keep p.1 p.2 ne nf nch e n, free p.1 p.2 nch e n, ne, nf, d⟩
theorem Inv.un {t' : Nat} (I : Inv X pins σ H s) (u : Un X.fs [] H H' s.heap h') (hok : HOk X.prog X.w H' h') : Inv X pins σ H' { s with heap := h', toks := t' } := by
  obtain ⟨m, ⟨o, es, ep, ho, r⟩, _⟩ := id I.loc
  obtain ⟨sl, hL⟩ := u.any ho I.free (by simp)
  exact I.step (g' := s.gens) (d' := s.drawn) (ch := []) (fun _ z => nomatch z) (fun b o _ hb _ e n => u.keep b o e n hb (by simp)) (fun b o _ hb _ e n => u.slot b o e n hb (by simp)) (fun b o _ e n => u.free b o e n (by simp)) (fun b o _ e => u.there b o e (by simp)) u.tups u.frzs u.tbls (fun m' hm => by
    obtain ⟨o', es', ep', ho', r'⟩ := hm
    rw [ho] at ho'; cases ho'
    exact ⟨_, es', ep', hL, r'⟩) hok I.bare
theorem Inv.call {g' : Array GenState} {t' : Nat} {d' : Drawn} {ch : List Addr} (I : Inv X pins σ H s) (u : Un (frs X.stack) ch H H' s.heap h') (hok : HOk X.prog X.w H' h') (hg : AllBare g')
    (hch : ∀ b ∈ ch, (b ∈ X.ex ∨ X.s₀.heap.objs.size ≤ b) ∧ b ≠ X.env.locals ∧ (∀ x c, X.env.cells.lookup x = some c → c ≠ b) ∧ ∀ p ∈ X.pn ++ pins, p.1 ≠ b) :
    Inv X pins σ H' { s with heap := h', gens := g', drawn := d', toks := t' } := by
  obtain ⟨m, ⟨o, es, ep, ho, r⟩, _⟩ := id I.loc
  obtain ⟨sl, hL⟩ := u.any ho I.free fun z => (hch _ z).2.1 rfl
  exact I.step (ch := ch) hch (fun b o hL hb hc e n => u.keep b o e n (fun z => (List.mem_cons.mp (I.stkSub b z)).elim hL hb) hc) (fun b o _ _ hc e n => u.any e n hc) (fun b o hc e n => u.free b o e n hc) (fun b o hc e => u.there b o e hc) u.tups u.frzs u.tbls (fun m' hm => by
    obtain ⟨o', es', ep', ho', r'⟩ := hm
    rw [ho] at ho'; cases ho'
    exact ⟨_, es', ep', hL, r'⟩) hok hg
theorem Inv.turned {t' : Nat} {it : Addr} (I : Inv X pins σ H s) (k : ∀ b o, b ≠ it → s.heap.get? b = some o → h'.get? b = some o) (hn : H it = none) (hL : it ≠ X.env.locals)
    (h1 : it ∈ X.ex ∨ X.s₀.heap.objs.size ≤ it) (h2 : ∀ x c, X.env.cells.lookup x = some c → c ≠ it) (h3 : ∀ p ∈ X.pn ++ pins, p.1 ≠ it) : Inv X pins σ H { s with heap := h', toks := t' } := by
  have nit : ∀ b u, H b = some u → b ≠ it := fun b u e z => by rw [z, hn] at e; cases e
  refine I.step (g' := s.gens) (d' := s.drawn) (ch := [it]) (fun b hb => ?_) (fun b o _ _ hc e _ => k b o (fun z => hc (by simp [z])) e) (fun b o _ _ hc e _ => ⟨o.slots, k b o (fun z => hc (by simp [z])) e⟩) (fun _ _ _ _ n => n)
    (fun b o hc e => ⟨o, k b o (fun z => hc (by simp [z])) e⟩) (fun _ _ e => e) (fun _ _ _ e => e) (fun b ps e => ⟨#[], by rw [e]; simp⟩) (fun m hm => ?_) (fun b u e => ?_) I.bare
  · have e : b = it := by simpa using hb
    subst e
    exact ⟨h1, hL, h2, h3⟩
  · obtain ⟨o, es, ep, ho, r⟩ := hm
    exact ⟨o, es, ep, k _ o (Ne.symm hL) ho, r⟩
  · refine (I.hok b u e).stay (fun c v hc q => k c v ?_ q) (fun _ q => q) fun _ _ q => q
    rcases hc with z | z
    · rw [z]; exact nit b u e
    · exact nit c _ z
theorem Inv.tok (I : Inv X pins σ H s) (t : Nat) : Inv X pins σ H { s with toks := t } := I.un (h' := s.heap) (t' := t) Un.refl I.hok
theorem Inv.kept {t' : Nat} (I : Inv X pins σ H s) (k : ∀ b u, s.heap.get? b = some u → h'.get? b = some u) : Inv X pins σ H { s with heap := h', toks := t' } := I.un (Un.kept k) (I.hok.kept k)
theorem Inv.laid {a : Addr} {o : HO} {t' : Nat} (I : Inv X pins σ H s) (k : ∀ b u, s.heap.get? b = some u → h'.get? b = some u) (hp : s.heap.objs.size ≤ a) (new : ObjOk X.prog X.w (upd H a o) h' a o) :
    Inv X pins σ (upd H a o) { s with heap := h', toks := t' } := I.un (Un.laid k hp (I.hok.fresh hp)) (I.hok.laid k hp new)
theorem Inv.write {x e : Addr} {o : HO} {t' : Nat} (I : Inv X pins σ H s) (mu : Mut (H x)) (he : e = x ∨ H e = some (.own x)) (k : ∀ b u, b ≠ e → s.heap.get? b = some u → h'.get? b = some u) (heo : ∃ u, h'.get? e = some u)
    (new : ObjOk X.prog X.w (upd H x o) h' x o) : Inv X pins σ (upd H x o) { s with heap := h', toks := t' } := I.un (Un.write mu he k heo) (I.hok.write mu he k heo new)
theorem Inv.weak {σ' : List (Option V)} (I : Inv X pins σ H s) (hl : σ'.length = σ.length) (w : ∀ (i : Nat) v, σ'[i]? = some (some v) → σ[i]? = some (some v)) : Inv X pins σ' H s :=
  ⟨I.ok, I.os, I.bare, I.base, let ⟨m, hn, hl'⟩ := I.loc; ⟨m, hn, fun i x v e1 e2 e3 => hl' i x v e1 (w i v e2) e3⟩, I.cell, I.free, I.freeC, I.pin, I.hok, hl.trans I.len⟩
theorem Inv.pins_of {pins' : List (Addr × Obj)} (I : Inv X pins σ H s) (h : ∀ p ∈ pins', s.heap.get? p.1 = some p.2 ∧ H p.1 = none ∧ p.1 ≠ X.env.locals ∧ p.1 ∉ X.fs ∧ ∀ v, p.2.data ≠ .cell v) : Inv X pins' σ H s :=
  ⟨I.ok, I.os, I.bare, I.base, I.loc, I.cell, I.free, I.freeC, fun p hp => (List.mem_append.mp hp).elim (fun z => I.pin p (List.mem_append_left _ z)) (h p), I.hok, I.len⟩
theorem nodup_ix {N : List Str} (hN : N.Nodup) {i j : Nat} {x : Str} (a : N[i]? = some x) (b : N[j]? = some x) : i = j := by
  obtain ⟨h1, e1⟩ := List.getElem?_eq_some_iff.mp a
  obtain ⟨h2, e2⟩ := List.getElem?_eq_some_iff.mp b
  exact (List.getElem_inj hN).mp (e1.trans e2.symm)
theorem store_ok2 {M : Model} {A : Around} {E : Value → Shared → Prop} {i : Nat} {x : Str} {v : V} {u : Value} {Q : Unit → Shared → Prop} (I : Inv X pins σ H s) (hN : X.N.Nodup) (hi : X.N[i]? = some x) (hx : Loc X.env.scope x) (r : RelV v u)
    (h : ∀ s', Inv X pins (σ.set i (some v)) H s' → (∃ a, Heap.SameBut a s.heap s'.heap ∧ (a = X.env.locals ∨ X.env.cells.lookup x = some a)) → Q () s') (hf : X.fn x = true ∨ X.env.scope.names.lookup x = some .local := by first | exact .inl rfl | exact .inr rfl | assumption) : wpAny M A (storeName X.env x u) Q E s := by
  obtain ⟨m, hn, hl⟩ := id I.loc
  have hcls : (X.env.scope.kind == .class || (X.env.scope.kind == .module && X.env.locals != X.env.globals)) = false := by rw [I.ok.kind]; rfl
  have hiσ : i < σ.length := by rw [I.len]; exact (List.getElem?_eq_some_iff.mp hi).1
  have cne := I.cne
  have tracked : ∀ {a : Addr} {h' : Heap}, (∃ o, s.heap.get? a = some o ∧ H a = none) → Heap.SameBut a s.heap h' → HOk X.prog X.w H h' := fun {a h'} ha hs b ob e => by
    obtain ⟨_, _, hfree⟩ := ha
    refine (I.hok b ob e).stay (fun c w' hc q => (hs.2 c ?_).trans q) (fun _ q => q) fun _ _ q => q
    rintro rfl
    rcases hc with rfl | hc
    · rw [hfree] at e; cases e
    · rw [hfree] at hc; cases hc
  rcases hx with hk | hk
  · refine wpAny_storeName_local hk hn (fun h' hn' hs => ?_) hcls
    obtain ⟨oL, _, _, hoL, _⟩ := id hn
    refine h _ ⟨I.ok, I.os, I.bare, ⟨fun b o e n hb hx => ?_, fun b o e n hb hx => ?_, I.base.free, fun b o e hx => ?_, I.base.tups, I.base.frzs, I.base.tbls⟩, ⟨_, hn', fun j y v' e1 e2 e3 => ?_⟩, fun y c e => ?_, I.free, I.freeC, fun p hp => ?_, tracked ⟨oL, hoL, I.free⟩ hs, by simpa using I.len⟩ ⟨_, hs, .inl rfl⟩
    · exact (hs.2 b (Nat.ne_of_lt (Nat.lt_of_lt_of_le (Heap.lt_size e) I.ok.above))).trans (I.base.keep b o e n hb hx)
    · obtain ⟨sl, e1⟩ := I.base.slot b o e n hb hx
      exact ⟨sl, (hs.2 b (Nat.ne_of_lt (Nat.lt_of_lt_of_le (Heap.lt_size e) I.ok.above))).trans e1⟩
    · obtain ⟨o', e1⟩ := I.base.there b o e hx
      exact ⟨o', (hs.2 b (Nat.ne_of_lt (Nat.lt_of_lt_of_le (Heap.lt_size e) I.ok.above))).trans e1⟩
    · by_cases hj : j = i
      · subst hj
        rw [hi] at e1; cases e1
        rw [List.getElem?_set_self hiσ] at e2
        cases e2
        exact ⟨u, r, .inl ⟨hk, by simp⟩⟩
      · rw [List.getElem?_set_ne (Ne.symm hj)] at e2
        obtain ⟨u', r', q⟩ := hl j y v' e1 e2 e3
        refine ⟨u', r', ?_⟩
        rcases q with ⟨k, e⟩ | ⟨k, c, e, z⟩
        · refine .inl ⟨k, ?_⟩
          have : y ≠ x := fun e => hj (nodup_ix hN e1 (e ▸ hi))
          simp [this, e]
        · exact .inr ⟨k, c, e, z.sameBut hs (cne y c e)⟩
    · obtain ⟨w', z⟩ := I.cell y c e
      exact ⟨w', z.sameBut hs (cne y c e)⟩
    · obtain ⟨e, n, ne, nf, d⟩ := I.pin p hp
      exact ⟨(hs.2 p.1 ne).trans e, n, ne, nf, d⟩
  · have hfn : X.fn x = true := by
      rcases hf with z | z
      · exact z
      · rw [z] at hk; cases hk
    obtain ⟨c, hc⟩ := I.ok.has x (.inl hk)
    obtain ⟨w', z⟩ := I.cell x c hc
    refine wpAny_storeName_cell I.ok.kind hk hc z (fun h' hc' hs => ?_)
    obtain ⟨oc, hoc, hocd⟩ := id z
    refine h { s with heap := h' } ⟨I.ok, I.os, I.bare, ⟨fun b o e n hb hx => ?_, fun b o e n hb hx => ?_, I.base.free, fun b o e hx => ?_, I.base.tups, I.base.frzs, I.base.tbls⟩, ⟨m, hn.sameBut hs (Ne.symm (cne x c hc)), fun j y v' e1 e2 e3 => ?_⟩, fun y c' e => ?_, I.free, I.freeC, fun p hp => ?_, tracked ⟨oc, hoc, I.freeC x c hc⟩ hs, by simpa using I.len⟩ ⟨c, hs, .inr hc⟩
    · exact (hs.2 b (Nat.ne_of_lt (Nat.lt_of_lt_of_le (Heap.lt_size e) (I.ok.cab x c hfn hc)))).trans (I.base.keep b o e n hb hx)
    · obtain ⟨sl, e1⟩ := I.base.slot b o e n hb hx
      exact ⟨sl, (hs.2 b (Nat.ne_of_lt (Nat.lt_of_lt_of_le (Heap.lt_size e) (I.ok.cab x c hfn hc)))).trans e1⟩
    · obtain ⟨o', e1⟩ := I.base.there b o e hx
      exact ⟨o', (hs.2 b (Nat.ne_of_lt (Nat.lt_of_lt_of_le (Heap.lt_size e) (I.ok.cab x c hfn hc)))).trans e1⟩
    · by_cases hj : j = i
      · subst hj
        rw [hi] at e1; cases e1
        rw [List.getElem?_set_self hiσ] at e2
        cases e2
        exact ⟨u, r, .inr ⟨.inl hk, c, hc, hc'⟩⟩
      · rw [List.getElem?_set_ne (Ne.symm hj)] at e2
        obtain ⟨u', r', q⟩ := hl j y v' e1 e2 e3
        refine ⟨u', r', ?_⟩
        rcases q with q | ⟨k, c', e, z'⟩
        · exact .inl q
        · refine .inr ⟨k, c', e, z'.sameBut hs ?_⟩
          rintro rfl
          exact hj (nodup_ix hN e1 (I.ok.inj _ _ _ e hc ▸ hi))
    · by_cases hcc : c' = c
      · subst hcc; exact ⟨_, hc'⟩
      · obtain ⟨w2, z2⟩ := I.cell y c' e
        exact ⟨w2, z2.sameBut hs hcc⟩
    · obtain ⟨e, n, ne, nf, d⟩ := I.pin p hp
      refine ⟨(hs.2 p.1 ?_).trans e, n, ne, nf, d⟩
      intro q
      rw [q, hoc] at e
      have q' : oc = p.2 := Option.some.inj e
      exact d w' (by rw [← q']; exact hocd)
theorem store_ok {M : Model} {A : Around} {E : Value → Shared → Prop} {i : Nat} {x : Str} {v : V} {u : Value} {Q : Unit → Shared → Prop} (I : Inv X pins σ H s) (hN : X.N.Nodup) (hi : X.N[i]? = some x) (hx : Loc X.env.scope x) (r : RelV v u)
    (h : ∀ s', Inv X pins (σ.set i (some v)) H s' → Q () s') (hf : X.fn x = true ∨ X.env.scope.names.lookup x = some .local := by first | exact .inl rfl | exact .inr rfl | assumption) : wpAny M A (storeName X.env x u) Q E s :=
  store_ok2 I hN hi hx r (fun s' I' _ => h s' I') hf
theorem Inv.call' {s' : Shared} {ch : List Addr} (I : Inv X pins σ H s) (ho : s'.os = s.os) (u : Un (frs X.stack) ch H H' s.heap s'.heap) (hok : HOk X.prog X.w H' s'.heap) (hg : AllBare s'.gens)
    (hch : ∀ b ∈ ch, (b ∈ X.ex ∨ X.s₀.heap.objs.size ≤ b) ∧ b ≠ X.env.locals ∧ (∀ x c, X.env.cells.lookup x = some c → c ≠ b) ∧ ∀ p ∈ X.pn ++ pins, p.1 ≠ b) : Inv X pins σ H' s' := by
  obtain ⟨h', g', d', t', o'⟩ := s'
  have e : o' = s.os := ho
  subst e
  exact I.call (g' := g') (t' := t') (d' := d') u hok hg hch
end
abbrev XK := Value → Option Addr → Hp → Prop
abbrev St := List (Option V)
abbrev VK := V → Hp → Prop
abbrev TE := St → Hp → VK → Prop
abbrev TT := St → Hp → (Bool → Hp → Prop) → Prop
abbrev TA := St → Hp → (List V → Hp → Prop) → Prop
structure Ends where
  nx : St → Hp → Prop
  rt : VK
  bk : St → Hp → Prop := fun _ _ => False
  ct : St → Hp → Prop := fun _ _ => False
abbrev TS := Ends → St → Hp → Prop
def EP (X : Cx) (pins : List (Addr × Obj)) (σ : St) (Q : VK) (u : Value) (s' : Shared) : Prop := ∃ v H', Inv X pins σ H' s' ∧ RelV v u ∧ Q v H'
def TP (X : Cx) (pins : List (Addr × Obj)) (σ : St) (Q : Bool → Hp → Prop) (b : Bool) (s' : Shared) : Prop := ∃ H', Inv X pins σ H' s' ∧ Q b H'
def AP (X : Cx) (pins : List (Addr × Obj)) (σ : St) (Q : List V → Hp → Prop) (us : List Value) (s' : Shared) : Prop := ∃ vs H', Inv X pins σ H' s' ∧ Vals vs us ∧ Q vs H'
def SP (X : Cx) (pins : List (Addr × Obj)) (D : Ends) (f : Flow) (s' : Shared) : Prop :=
  match f with
  | .next => ∃ σ' H', Inv X pins σ' H' s' ∧ D.nx σ' H'
  | .brk => ∃ σ' H', Inv X pins σ' H' s' ∧ D.bk σ' H'
  | .cont => ∃ σ' H', Inv X pins σ' H' s' ∧ D.ct σ' H'
  | .ret u => ∃ v σ' H', Inv X pins σ' H' s' ∧ RelV v u ∧ D.rt v H'
def PE (X : Cx) (e : Expr) (t : TE) : Prop :=
  ∀ (pins : List (Addr × Obj)) (s : Shared) (σ : St) (H : Hp) (Q : VK), Inv X pins σ H s → t σ H Q → wpAny (model X.prog X.w) X.A (eval e X.env) (EP X pins σ Q) X.xe s
def PT (X : Cx) (e : Expr) (t : TT) : Prop :=
  ∀ (pins : List (Addr × Obj)) (s : Shared) (σ : St) (H : Hp) (Q : Bool → Hp → Prop), Inv X pins σ H s → t σ H Q → wpAny (model X.prog X.w) X.A (isTrue e X.env (eval e X.env)) (TP X pins σ Q) X.xe s
def PW (X : Cx) (e : Expr) (t : TT) : Prop :=
  ∀ (whole : Sem Value) (pins : List (Addr × Obj)) (s : Shared) (σ : St) (H : Hp) (Q : Bool → Hp → Prop), Inv X pins σ H s → t σ H Q → wpAny (model X.prog X.w) X.A (isTrue e X.env whole) (TP X pins σ Q) X.xe s
theorem PW.pt {X : Cx} {e : Expr} {t : TT} (h : PW X e t) : PT X e t := h _
def PA (X : Cx) (es : List Expr) (t : TA) : Prop :=
  ∀ (pos : Pos) (pins : List (Addr × Obj)) (s : Shared) (σ : St) (H : Hp) (Q : List V → Hp → Prop), Inv X pins σ H s → t σ H Q → wpAny (model X.prog X.w) X.A (spliced (backTo pos (starEach es X.env))) (AP X pins σ Q) X.xe s
def PS (X : Cx) (st : Stmt) (t : TS) : Prop :=
  ∀ (pins : List (Addr × Obj)) (s : Shared) (σ : St) (H : Hp) (D : Ends), Inv X pins σ H s → t D σ H → wpAny (model X.prog X.w) X.A (exec st X.env) (SP X pins D) X.xe s
def PSs (X : Cx) (st : List Stmt) (t : TS) : Prop :=
  ∀ (pins : List (Addr × Obj)) (s : Shared) (σ : St) (H : Hp) (D : Ends), Inv X pins σ H s → t D σ H → wpAny (model X.prog X.w) X.A (execs st X.env) (SP X pins D) X.xe s
theorem thn {α : Type} {t : Sem α} {Q Q' : α → Shared → Prop} {M : Model} {A : Around} {E : Value → Shared → Prop} {s : Shared} (h : wpAny M A t Q E s) (hQ : ∀ a s, Q a s → Q' a s) : wpAny M A t Q' E s := wpAny_mono h hQ fun _ _ x => x
end L2
namespace L2
open PySem PySem.Spec PyProof.Rows
section
variable {X : Cx}
def tVar (i : Nat) : TE := fun σ H Q => ∃ v, σ[i]? = some (some v) ∧ Q v H
def tC (v : V) : TE := fun _ H Q => Q v H
theorem pe_var {i : Nat} {x : Str} {pos : Pos} (hN : X.N[i]? = some x) (hv : Vis X.env.scope x) (hd : (x == ("__debug__" : Str)) = false := by decide) (hcd : (x == ("__classdict__" : Str)) = false := by decide) : PE X (.Name x pos) (tVar i) := by
  intro pins s σ H Q I h
  obtain ⟨v, e, h⟩ := h
  obtain ⟨m, hn, hl⟩ := I.loc
  obtain ⟨u, r, l⟩ := hl i x v hN e hv
  have fin : EP X pins σ Q u s := ⟨v, H, I, r, h⟩
  rcases l with ⟨hk, hm⟩ | ⟨hk, c, hc, hcell⟩
  · exact wpAny_Name (wpAny_loadName_local I.ok.kind hk hn hm fin) hd
  · rcases hk with hk | hk
    · exact wpAny_Name (wpAny_loadName_cell I.ok.kind hk hc hcell fin) hd
    · exact wpAny_Name (wpAny_loadName_free I.ok.kind hk hc hcell fin hcd) hd
theorem pe_int {i j pos} : PE X (.Constant (.int i) j pos) (tC (.int i)) := fun _ _ _ H _ I h => wpAny_Constant_int ⟨.int i, H, I.tok _, ⟨_, rfl⟩, h⟩
theorem pe_bl {b j pos} : PE X (.Constant (.bool b) j pos) (tC (.bl b)) := fun _ _ _ H _ I h => Constant_bool ⟨.bl b, H, I, rfl, h⟩
theorem pe_str {x j pos} : PE X (.Constant (.str x) j pos) (tC (.str x)) := fun _ _ _ H _ I h => Calls.Constant_str ⟨.str x, H, I.tok _, ⟨_, rfl⟩, h⟩
def Gl (X : Cx) (x : Str) : Prop := X.env.kindOf x = some .globalImplicit
theorem ld_glob {E : Value → Shared → Prop} {pins : List (Addr × Obj)} {s : Shared} {σ : St} {H : Hp} {x : Str} {u : Value} {pos : Pos} {Q : Value → Shared → Prop} (I : Inv X pins σ H s) (hg : Gl X x) (hm : X.mg x = some u) (h : Q u s)
    (hd : (x == ("__debug__" : Str)) = false := by decide) : wpAny (model X.prog X.w) X.A (eval (.Name x pos) X.env) Q E s :=
  Calls.Name_function_global I.ok.kind hg (Calls.loadGlobal_global (by rw [I.ok.glob]; exact I.mod.glob.keeps I.bk) hm h) hd
theorem ld_blt {E : Value → Shared → Prop} {pins : List (Addr × Obj)} {s : Shared} {σ : St} {H : Hp} {x : Str} {u : Value} {pos : Pos} {Q : Value → Shared → Prop} (I : Inv X pins σ H s) (hg : Gl X x) (hm : X.mg x = none) (hv : bootBuiltins x = some u) (h : Q u s)
    (hn : x ≠ "__name__" := by decide) (hd : (x == ("__debug__" : Str)) = false := by decide) : wpAny (model X.prog X.w) X.A (eval (.Name x pos) X.env) Q E s := by
  obtain ⟨mb, h1, h2⟩ := I.mod.blt
  exact Calls.Name_function_global I.ok.kind hg (Calls.loadGlobal_builtin (by rw [I.ok.glob]; exact I.mod.glob.keeps I.bk) hm (by rw [I.ok.blt]; exact h1.keeps I.bk) ((h2 x hn).trans hv) h) hd
theorem pe_bltn {x : Str} {v : V} {u : Value} {pos : Pos} (hg : Gl X x) (hm : X.mg x = none) (hv : bootBuiltins x = some u) (r : RelV v u) (hn : x ≠ "__name__" := by decide) (hd : (x == ("__debug__" : Str)) = false := by decide) : PE X (.Name x pos) (tC v) :=
  fun _ _ _ H _ I h => ld_blt I hg hm hv ⟨v, H, I, r, h⟩ hn hd
def t2I (ta tb : TE) (k : Int → Int → Hp → Prop) : St → Hp → Prop := fun σ H => ta σ H fun x H1 => tb σ H1 fun y H2 => ∃ i j, x = .int i ∧ y = .int j ∧ k i j H2
def tAdd (ta tb : TE) : TE := fun σ H Q => t2I ta tb (fun i j H2 => Q (.int (i + j)) H2) σ H
def tSub (ta tb : TE) : TE := fun σ H Q => t2I ta tb (fun i j H2 => Q (.int (i - j)) H2) σ H
def tMul (ta tb : TE) : TE := fun σ H Q => t2I ta tb (fun i j H2 => (-(2 ^ 64) < i ∧ i < 2 ^ 64) ∧ Q (.int (i * j)) H2) σ H
variable {a b : Expr} {ta tb : TE} {pos : Pos}
def tCmp (p : Int → Int → Bool) (ta tb : TE) : TE := fun σ H Q => t2I ta tb (fun i j H2 => Q (.bl (p i j)) H2) σ H
def tIsN (ta : TE) : TE := fun σ H Q => ta σ H fun x H1 => Q (.bl (decide (x = .non))) H1
def tNotN (ta : TE) : TE := fun σ H Q => ta σ H fun x H1 => Q (.bl (!decide (x = .non))) H1
def tB (t : TE) : TT := fun σ H Q => t σ H fun x H1 => ∃ c, x = .bl c ∧ Q c H1
theorem pt_val {e : Expr} {t : TE} (h : PE X e t) (he : ∀ whole, isTrue e X.env whole = (do let v ← whole; standAt e.pos; holding [v] (truthy v)) := by intro _; rfl) : PT X e (tB t) := by
  intro pins s σ H Q I hw
  refine isTrue_plain (thn (h pins s σ H _ I hw) fun v s1 ⟨x, H1, I1, r1, q1⟩ => ?_) (he _)
  obtain ⟨d, rfl, q⟩ := q1
  cases r1
  exact wpAny_truthy_bool ⟨H1, I1, q⟩
variable {tA tB' : TT} {rest : List Expr}
def tAnd (t u : TT) : TT := fun σ H Q => t σ H fun c H1 => if c = true then u σ H1 Q else Q false H1
def tOr (t u : TT) : TT := fun σ H Q => t σ H fun c H1 => if c = true then Q true H1 else u σ H1 Q
def tNot (t : TT) : TT := fun σ H Q => t σ H fun c H1 => Q (!c) H1
theorem pw_and1 (ha : PT X a tA) : PW X (.BoolOp .And [a] pos) tA := by
  intro wh pins s σ H Q I h
  refine isTrue_and (thn (ha pins s σ H Q I h) fun c s1 e => ?_)
  cases c with
  | true => exact isTrue_and_nil e
  | false => exact e
theorem pw_or1 (ha : PT X a tA) : PW X (.BoolOp .Or [a] pos) tA := by
  intro wh pins s σ H Q I h
  refine isTrue_or (thn (ha pins s σ H Q I h) fun c s1 e => ?_)
  cases c with
  | false => exact isTrue_or_nil e
  | true => exact e
theorem pw_and (ha : PT X a tA) (hb : PW X (.BoolOp .And (b :: rest) pos) tB') : PW X (.BoolOp .And (a :: b :: rest) pos) (tAnd tA tB') := by
  intro wh pins s σ H Q I h
  refine isTrue_and (thn (ha pins s σ H _ I h) fun c s1 ⟨H1, I1, q1⟩ => ?_)
  cases c with
  | true => exact hb wh pins s1 σ H1 Q I1 q1
  | false => exact ⟨H1, I1, q1⟩
theorem pw_or (ha : PT X a tA) (hb : PW X (.BoolOp .Or (b :: rest) pos) tB') : PW X (.BoolOp .Or (a :: b :: rest) pos) (tOr tA tB') := by
  intro wh pins s σ H Q I h
  refine isTrue_or (thn (ha pins s σ H _ I h) fun c s1 ⟨H1, I1, q1⟩ => ?_)
  cases c with
  | true => exact ⟨H1, I1, q1⟩
  | false => exact hb wh pins s1 σ H1 Q I1 q1
theorem pt_not (ha : PT X a tA) : PT X (.UnaryOp .Not a pos) (tNot tA) := by
  intro pins s σ H Q I h
  exact isTrue_not (ha pins s σ H (fun c H1 => Q (!c) H1) I h)
def tAndV (ta tb : TE) : TE := fun σ H Q => ta σ H fun x H1 => ∃ c, x = .bl c ∧ if c = true then tb σ H1 Q else Q (.bl false) H1
def tOrV (ta tb : TE) : TE := fun σ H Q => ta σ H fun x H1 => ∃ c, x = .bl c ∧ if c = true then Q (.bl true) H1 else tb σ H1 Q
def tNotV (ta : TE) : TE := fun σ H Q => ta σ H fun x H1 => ∃ c, x = .bl c ∧ Q (.bl (!c)) H1
theorem pe_one {op} {t : TE} (h : PE X a t) : PE X (.BoolOp op [a] pos) t := fun pins s σ H Q I hw => BoolOp_one (h pins s σ H Q I hw)
theorem pe_and (ha : PE X a ta) (hb : PE X (.BoolOp .And (b :: rest) pos) tb) : PE X (.BoolOp .And (a :: b :: rest) pos) (tAndV ta tb) := by
  intro pins s σ H Q I h
  refine BoolOp_and (thn (ha pins s σ H _ I h) fun v s1 ⟨x, H1, I1, r1, q1⟩ => ?_)
  obtain ⟨c, rfl, q1⟩ := q1
  cases r1
  refine wpAny_truthy_bool ?_
  cases c with
  | true => exact hb pins s1 σ H1 Q I1 q1
  | false => exact ⟨.bl false, H1, I1, rfl, q1⟩
theorem pe_or (ha : PE X a ta) (hb : PE X (.BoolOp .Or (b :: rest) pos) tb) : PE X (.BoolOp .Or (a :: b :: rest) pos) (tOrV ta tb) := by
  intro pins s σ H Q I h
  refine BoolOp_or (thn (ha pins s σ H _ I h) fun v s1 ⟨x, H1, I1, r1, q1⟩ => ?_)
  obtain ⟨c, rfl, q1⟩ := q1
  cases r1
  refine wpAny_truthy_bool ?_
  cases c with
  | false => exact hb pins s1 σ H1 Q I1 q1
  | true => exact ⟨.bl true, H1, I1, rfl, q1⟩
theorem pe_not (ha : PE X a ta) : PE X (.UnaryOp .Not a pos) (tNotV ta) := by
  intro pins s σ H Q I h
  refine UnaryOp_ (thn (ha pins s σ H _ I h) fun v s1 ⟨x, H1, I1, r1, q1⟩ => ?_)
  obtain ⟨c, rfl, q1⟩ := q1
  cases r1
  exact not_of (wpAny_truthy_bool ⟨.bl (!c), H1, I1, rfl, q1⟩)
def tIf (t : TT) (ta tb : TE) : TE := fun σ H Q => t σ H fun c H1 => if c = true then ta σ H1 Q else tb σ H1 Q
theorem pe_ifExp {c : Expr} (hc : PT X c tA) (ha : PE X a ta) (hb : PE X b tb) : PE X (.IfExp c a b pos) (tIf tA ta tb) := by
  intro pins s σ H Q I h
  refine wpAny_IfExp (thn (hc pins s σ H _ I h) fun d s1 ⟨H1, I1, q1⟩ => ?_)
  cases d with
  | true => exact ha pins s1 σ H1 Q I1 q1
  | false => exact hb pins s1 σ H1 Q I1 q1
end
end L2
namespace L2
open PySem PySem.Spec PyProof.Rows
def SqL (K : PySem.W.Frag) (H : Hp) (a : Addr) (xs : List V) : Prop :=
  Rd H a (.lst xs) ∨
    ∃ (o : Obj) (its : Array Value) (n : Nat), K.lookup a = some o ∧ o.cls = .type "list" ∧ o.dict = none ∧ o.data = .seq its n ∧ its.size ≤ sizeLine ∧ Vals xs its.toList
def SqT (K : PySem.W.Frag) (H : Hp) (a : Addr) (xs : List V) : Prop :=
  Rd H a (.tup xs) ∨
    ∃ (o : Obj) (its : Array Value) (n : Nat), K.lookup a = some o ∧ o.cls = .type "tuple" ∧ o.data = .seq its n ∧ its.size ≤ sizeLine ∧ Vals xs its.toList
def absV : Value → Option V
  | .none => some .non
  | .bool b => some (.bl b)
  | .int i _ => some (.int i)
  | .str x _ => some (.str x)
  | .bytes b _ => some (.byt b)
  | .float b _ => some (.flt b)
  | .ref a => some (.ref a)
  | .type n => some (.ty n)
  | _ => none
theorem RelV.abs {x : V} {u : Value} (r : RelV x u) : absV u = some x := by
  cases x with
  | non => cases r; rfl
  | bl _ => cases r; rfl
  | int _ => obtain ⟨t, rfl⟩ := r; rfl
  | str _ => obtain ⟨t, rfl⟩ := r; rfl
  | byt _ => obtain ⟨t, rfl⟩ := r; rfl
  | flt _ => obtain ⟨t, rfl⟩ := r; rfl
  | ref _ => cases r; rfl
  | ty _ => cases r; rfl
theorem RelV.inj {x y : V} {u : Value} (r : RelV x u) (q : RelV y u) : x = y := Option.some.inj (r.abs.symm.trans q.abs)
theorem Vals.inj : ∀ {xs ys : List V} {us : List Value}, Vals xs us → Vals ys us → xs = ys
  | _, _, _, .nil, .nil => rfl
  | _, _, _, .cons r t, .cons r' t' => by rw [r.inj r', Vals.inj t t']
section
variable {X : Cx} {pins : List (Addr × Obj)} {σ : St} {H : Hp} {s : Shared} {a : Addr} {xs ys : List V}
theorem SqL.of {K : PySem.W.Frag} (h : H a = some (.lst xs)) : SqL K H a xs := .inl (.inl h)
theorem SqT.of {K : PySem.W.Frag} (h : H a = some (.tup xs)) : SqT K H a xs := .inl (.inl h)
theorem Inv.list (I : Inv X pins σ H s) (h : SqL X.K H a xs) : ∃ its : List Value, Vals xs its ∧ PlainL s.heap a its.toArray ∧ xs.length ≤ sizeLine := by
  rcases h with h | ⟨o, its, n, hk, hc, hd, hs, hz, r⟩
  · obtain ⟨z, its, n, r, e⟩ := h.ok I.hok
    exact ⟨its, r, ⟨_, n, e, rfl, rfl, rfl⟩, z⟩
  · refine ⟨its.toList, r, ⟨o, n, I.kIn a o hk, hc, hd, by simpa using hs⟩, ?_⟩
    have e := r.length
    simp only [Array.length_toList] at e
    omega
theorem Inv.tuple (I : Inv X pins σ H s) (h : SqT X.K H a xs) : ∃ its : List Value, Vals xs its ∧ IsTup s.heap a its.toArray ∧ xs.length ≤ sizeLine := by
  rcases h with h | ⟨o, its, n, hk, hc, hs, hz, r⟩
  · obtain ⟨z, its, r, p⟩ := h.ok I.hok
    exact ⟨its, r, p, z⟩
  · refine ⟨its.toList, r, ⟨o, I.kIn a o hk, hc, n, by simpa using hs⟩, ?_⟩
    have e := r.length
    simp only [Array.length_toList] at e
    omega
theorem Inv.list_inj (I : Inv X pins σ H s) (h : SqL X.K H a xs) (h' : SqL X.K H a ys) : xs = ys := by
  obtain ⟨its, r, ⟨o, n, e, _, _, d⟩, _⟩ := I.list h
  obtain ⟨its', r', ⟨o', n', e', _, _, d'⟩, _⟩ := I.list h'
  rw [e] at e'; cases e'
  rw [d] at d'
  injection d' with d1 _
  have : its = its' := by simpa using congrArg Array.toList d1
  subst this
  exact r.inj r'
theorem Inv.tuple_inj (I : Inv X pins σ H s) (h : SqT X.K H a xs) (h' : SqT X.K H a ys) : xs = ys := by
  obtain ⟨its, r, ⟨o, e, _, n, d⟩, _⟩ := I.tuple h
  obtain ⟨its', r', ⟨o', e', _, n', d'⟩, _⟩ := I.tuple h'
  rw [e] at e'; cases e'
  rw [d] at d'
  injection d' with d1 _
  have : its = its' := by simpa using congrArg Array.toList d1
  subst this
  exact r.inj r'
end
abbrev Cx.wish (X : Cx) (E : Value → Shared → Prop) : Cx := { X with xe := E }
abbrev Cx.nox (X : Cx) : Cx := X.wish fun _ _ => False
theorem Cx.Ok.wish {X : Cx} (ok : X.Ok) (E : Value → Shared → Prop) : (X.wish E).Ok :=
  ⟨ok.mod, ok.kind, ok.glob, ok.blt, ok.above, ok.inj, ok.has, ok.cab, ok.hd, ok.frames, ok.stk, ok.exf, ok.bs, ok.bsz, ok.noex, ok.exfs, ok.funs, ok.frf⟩
theorem Cx.Ok.unwish {X : Cx} {E : Value → Shared → Prop} (ok : (X.wish E).Ok) : X.Ok :=
  ⟨ok.mod, ok.kind, ok.glob, ok.blt, ok.above, ok.inj, ok.has, ok.cab, ok.hd, ok.frames, ok.stk, ok.exf, ok.bs, ok.bsz, ok.noex, ok.exfs, ok.funs, ok.frf⟩
section
variable {X : Cx} {pins : List (Addr × Obj)} {σ : St} {H : Hp} {s : Shared} {E : Value → Shared → Prop}
theorem Inv.wish (I : Inv X pins σ H s) (E : Value → Shared → Prop) : Inv (X.wish E) pins σ H s := ⟨I.ok.wish E, I.os, I.bare, I.base, I.loc, I.cell, I.free, I.freeC, I.pin, I.hok, I.len⟩
theorem Inv.unwish (I : Inv (X.wish E) pins σ H s) : Inv X pins σ H s := ⟨I.ok.unwish, I.os, I.bare, I.base, I.loc, I.cell, I.free, I.freeC, I.pin, I.hok, I.len⟩
theorem SP.unwish {D : Ends} {f : Flow} {s' : Shared} (h : SP (X.wish E) pins D f s') : SP X pins D f s' := by
  cases f with
  | next => obtain ⟨σ', H', I, q⟩ := h; exact ⟨σ', H', I.unwish, q⟩
  | brk => obtain ⟨σ', H', I, q⟩ := h; exact ⟨σ', H', I.unwish, q⟩
  | cont => obtain ⟨σ', H', I, q⟩ := h; exact ⟨σ', H', I.unwish, q⟩
  | ret u => obtain ⟨v, σ', H', I, r, q⟩ := h; exact ⟨v, σ', H', I.unwish, r, q⟩
theorem PE.nox {e : Expr} {t : TE} (h : PE X.nox e t) : PE X e t := fun pins s σ H Q I hw =>
  wpAny_mono (h pins s σ H Q (I.wish _) hw) (fun _ _ ⟨v, H', I', r, q⟩ => ⟨v, H', I'.unwish, r, q⟩) fun _ _ z => False.elim z
theorem PT.nox {e : Expr} {t : TT} (h : PT X.nox e t) : PT X e t := fun pins s σ H Q I hw =>
  wpAny_mono (h pins s σ H Q (I.wish _) hw) (fun _ _ ⟨H', I', q⟩ => ⟨H', I'.unwish, q⟩) fun _ _ z => False.elim z
theorem PSs.nox {st : List Stmt} {t : TS} (h : PSs X.nox st t) : PSs X st t := fun pins s σ H D I hw =>
  wpAny_mono (h pins s σ H D (I.wish _) hw) (fun _ _ q => q.unwish) fun _ _ z => False.elim z
end
section
variable {X : Cx} {st : Stmt} {rest : List Stmt} {t u : TS} {e : Expr} {te : TE} {pos : Pos}
def tNext : TS := fun D σ H => D.nx σ H
def tSeq (t u : TS) : TS := fun D σ H => t { D with nx := u D } σ H
theorem pss_nil : PSs X [] tNext := fun _ _ σ H _ I h => wpAny_execs_nil ⟨σ, H, I, h⟩
theorem pss_cons (h1 : PS X st t) (h2 : PSs X rest u) : PSs X (st :: rest) (tSeq t u) := by
  intro pins s σ H D I h
  refine wpAny_execs_cons (thn (h1 pins s σ H { D with nx := u D } I h) fun f s1 q => ?_)
  cases f with
  | next =>
    obtain ⟨σ', H', I', q⟩ := q
    exact h2 pins s1 σ' H' D I' q
  | ret v => exact q
  | brk => exact q
  | cont => exact q
theorem pss_one (h1 : PS X st t) : PSs X [st] t := by
  intro pins s σ H D I h
  refine wpAny_execs_cons (thn (h1 pins s σ H D I h) fun f s1 q => ?_)
  cases f with
  | next => exact wpAny_execs_nil q
  | ret v => exact q
  | brk => exact q
  | cont => exact q
def tBreak : TS := fun D σ H => D.bk σ H
def tCont : TS := fun D σ H => D.ct σ H
theorem Inv.quiet {pins : List (Addr × Obj)} {σ : St} {H : Hp} {s : Shared} (I : Inv X pins σ H s) : interactive X.env = false := by simp [interactive, I.ok.kind]
def tDrop (te : TE) : TS := fun D σ H => te σ H fun _ H1 => D.nx σ H1
theorem ps_expr (he : PE X e te) (hs : swapsWith e none pos.line X.env = pure false := by rfl) : PS X (.Expr e pos) (tDrop te) := by
  intro pins s σ H D I h
  exact wpAny_Expr_any (thn (he pins s σ H _ I h) fun v s1 ⟨x, H1, I1, r1, q1⟩ => ⟨σ, H1, I1, q1⟩) I.quiet hs
def tRet (te : TE) : TS := fun D σ H => te σ H D.rt
theorem ps_ret (he : PE X e te) : PS X (.Return (some e) pos) (tRet te) := by
  intro pins s σ H D I h
  exact wpAny_Return_some (thn (he pins s σ H _ I h) fun v s1 ⟨x, H1, I1, r1, q1⟩ => ⟨x, σ, H1, I1, r1, q1⟩)
def tRetN : TS := fun D _ H => D.rt .non H
def tIfS (c : TT) (t u : TS) : TS := fun D σ H => c σ H fun b H1 => if b = true then t D σ H1 else u D σ H1
theorem ps_if {c : Expr} {a b : List Stmt} {tc : TT} (hc : PT X c tc) (ha : PSs X a t) (hb : PSs X b u) : PS X (.If c a b pos) (tIfS tc t u) := by
  intro pins s σ H D I h
  refine wpAny_If (thn (hc pins s σ H _ I h) fun d s1 ⟨H1, I1, q1⟩ => ?_)
  cases d with
  | true => exact ha pins s1 σ H1 D I1 q1
  | false => exact hb pins s1 σ H1 D I1 q1
def tNever : TS := fun _ _ _ => False
end
abbrev TG := V → St → Hp → (St → Hp → Prop) → Prop
abbrev TGs := List V → St → Hp → (St → Hp → Prop) → Prop
def PG (X : Cx) (target : Expr) (t : TG) : Prop :=
  ∀ (pins : List (Addr × Obj)) (s : Shared) (σ : St) (H : Hp) (v : V) (u : Value) (Q : St → Hp → Prop), Inv X pins σ H s → RelV v u → t v σ H Q →
    wpAny (model X.prog X.w) X.A (assign target X.env u) (fun _ s' => ∃ σ' H', Inv X pins σ' H' s' ∧ Q σ' H') X.xe s
def PGs (X : Cx) (ts : List Expr) (t : TGs) : Prop :=
  ∀ (pins : List (Addr × Obj)) (s : Shared) (σ : St) (H : Hp) (vs : List V) (us : List Value) (Q : St → Hp → Prop), Inv X pins σ H s → Vals vs us → t vs σ H Q →
    wpAny (model X.prog X.w) X.A (assignInOrder ((assignEach ts X.env).map (·.2)) us) (fun _ s' => ∃ σ' H', Inv X pins σ' H' s' ∧ Q σ' H') X.xe s
abbrev TSet := V → V → V → Hp → (Hp → Prop) → Prop
def PSet (X : Cx) (t : TSet) : Prop :=
  ∀ (pins : List (Addr × Obj)) (s : Shared) (σ : St) (H : Hp) (o i v : V) (ov iv u : Value) (Q : Hp → Prop), Inv X pins σ H s → RelV o ov → RelV i iv → RelV v u → t o i v H Q →
    wpAny (model X.prog X.w) X.A (setItem ov iv u) (fun _ s' => ∃ H', Inv X pins σ H' s' ∧ Q H') X.xe s
abbrev TIp := V → V → Hp → VK → Prop
section
variable {X : Cx} {pos : Pos}
def gName (i : Nat) : TG := fun v σ H Q => Q (σ.set i (some v)) H
theorem pg_name {i : Nat} {x : Str} (hN : X.N.Nodup) (hi : X.N[i]? = some x) (hx : Loc X.env.scope x) (hf : X.fn x = true ∨ X.env.scope.names.lookup x = some .local := by first | exact .inl rfl | exact .inr rfl | assumption) : PG X (.Name x pos) (gName i) := by
  intro pins s σ H v u Q I r h
  exact wpAny_assign_Name (store_ok I hN hi hx r (fun s' I' => ⟨_, H, I', h⟩) hf)
def gNil : TGs := fun vs σ H Q => vs = [] ∧ Q σ H
def gCons (t : TG) (u : TGs) : TGs := fun vs σ H Q => ∃ v r, vs = v :: r ∧ t v σ H fun σ' H' => u r σ' H' Q
theorem pgs_nil : PGs X [] gNil := by
  intro pins s σ H vs us Q I r h
  obtain ⟨e, h⟩ := h
  subst e
  cases r
  exact assignInOrder_nil ⟨σ, H, I, h⟩
theorem pgs_cons {e : Expr} {es : List Expr} {t : TG} {u : TGs} (h1 : PG X e t) (h2 : PGs X es u)
    (hs : (assignEach (e :: es) X.env).map (·.2) = assign e X.env :: (assignEach es X.env).map (·.2) := by rfl) : PGs X (e :: es) (gCons t u) := by
  intro pins s σ H vs us Q I r h
  obtain ⟨v, vr, e1, h⟩ := h
  subst e1
  cases r with
  | cons r rr =>
    rw [hs]
    refine assignInOrder_cons (thn (h1 pins s σ H _ _ _ I r h) fun _ s1 ⟨σ1, H1, I1, q1⟩ => ?_)
    exact h2 pins s1 σ1 H1 _ _ Q I1 rr q1
def gTup (K : PySem.W.Frag) (n : Nat) (t : TGs) : TG := fun v σ H Q => ∃ a xs, v = .ref a ∧ SqT K H a xs ∧ xs.length = n ∧ t xs σ H Q
theorem pg_tup {es : List Expr} {k : Nat} {t : TGs} {n : Nat} (hc : X.calm = true) (h : PGs X es t)
    (hn : (assignEach es X.env).length = n := by rfl) (hst : (assignEach es X.env).findIdx? (·.1) = none := by rfl) : PG X (.Tuple es k pos) (gTup X.K n t) := by
  intro pins s σ H v u Q I r hw
  obtain ⟨a, xs, e1, hq, hl, hw⟩ := hw
  subst e1
  cases r
  obtain ⟨its, rv, ht, hz⟩ := I.tuple hq
  refine assign_Tuple_tuple (I.ok.hd hc) ht (by simp [hn, ← hl, rv.length]) hst fun h' hx => ?_
  have I1 : Inv X pins σ H { s with heap := h' } := I.kept (t' := s.toks) fun b o e => hx b o (Nat.ne_of_lt (Heap.lt_size e)) e
  exact h pins _ σ H xs _ Q I1 (by simpa using rv) hw
def gSub (to ti : TE) (t : TSet) : TG := fun v σ H Q => to σ H fun o H1 => ti σ H1 fun i H2 => t o i v H2 fun H3 => Q σ H3
theorem pg_sub {o i : Expr} {to ti : TE} {t : TSet} (ho : PE X o to) (hi : PE X i ti) (hs : PSet X t)
    (ha : ∀ v, assign (.Subscript o i pos) X.env v = (do
      let ov ← holding [v] (eval o X.env)
      let iv ← holding [v, ov] (eval i X.env)
      standAt pos
      holding [v, ov, iv] (setItem ov iv v)
      release [v, ov, iv] []) := by intro _; rfl) : PG X (.Subscript o i pos) (gSub to ti t) := by
  intro pins s σ H v u Q I r h
  rw [ha]
  refine wpAny_bind (wpAny_holding (thn (ho pins s σ H _ I h) fun ov s1 ⟨x, H1, I1, r1, q1⟩ => ?_))
  refine wpAny_bind (wpAny_holding (thn (hi pins s1 σ H1 _ I1 q1) fun iv s2 ⟨y, H2, I2, r2, q2⟩ => ?_))
  refine wpAny_bind (wpAny_standAt (wpAny_bind (wpAny_holding (thn (hs pins s2 σ H2 x y v ov iv u _ I2 r1 r2 r q2) fun _ s3 ⟨H3, I3, q3⟩ => ?_))))
  exact wpAny_release ⟨σ, H3, I3, q3⟩
def tAsg (te : TE) (g : TG) : TS := fun D σ H => te σ H fun x H1 => g x σ H1 D.nx
theorem ps_asg {tg e : Expr} {te : TE} {g : TG} (he : PE X e te) (hg : PG X tg g) (hs : swapsWithSole [tg] e pos.line X.env = pure false := by rfl) (hw : swappedStores [tg] e X.env = pure none := by rfl)
    (h1 : (assignEach [tg] X.env).map (·.2) = [assign tg X.env] := by rfl) : PS X (.Assign [tg] e pos) (tAsg te g) := by
  intro pins s σ H D I h
  refine wpAny_Assign_stores (thn (he pins s σ H _ I h) fun v s1 ⟨x, H1, I1, r1, q1⟩ => ?_) hs hw
  rw [h1]
  exact thn (hg pins s1 σ H1 x v _ I1 r1 q1) fun _ s2 q => q
theorem ps_set {i : Nat} {x : Str} {e : Expr} {te : TE} {pos' : Pos} (hN : X.N.Nodup) (hi : X.N[i]? = some x) (hx : Loc X.env.scope x) (he : PE X e te) (hs : swapsWith e (some (.Name x pos')) pos.line X.env = pure false := by rfl) (hf : X.fn x = true ∨ X.env.scope.names.lookup x = some .local := by first | exact .inl rfl | exact .inr rfl | assumption) :
    PS X (.Assign [.Name x pos'] e pos) (tAsg te (gName i)) := by
  intro pins s σ H D I h
  refine wpAny_Assign_Name (thn (he pins s σ H _ I h) fun v s1 ⟨y, H1, I1, r1, q1⟩ => ?_) hs
  exact store_ok I1 hN hi hx r1 (fun s2 I2 => ⟨_, H1, I2, q1⟩) hf
def tPar (i j : Nat) (ta : TA) : TS := fun D σ H => ta σ H fun vs H1 => ∃ v w, vs = [v, w] ∧ D.nx ((σ.set i (some v)).set j (some w)) H1
def tAug (i : Nat) (te : TE) (ti : TIp) : TS := fun D σ H => ∃ x, σ[i]? = some (some x) ∧ te σ H fun y H1 => ti x y H1 fun z H2 => D.nx (σ.set i (some z)) H2
def tAugS (to ti te : TE) (tget : V → V → Hp → VK → Prop) (tip : TIp) (tset : TSet) : TS := fun D σ H => to σ H fun o H1 => ti σ H1 fun i H2 => tget o i H2 fun x H3 => te σ H3 fun y H4 => tip x y H4 fun z H5 => tset o i z H5 fun H6 => D.nx σ H6
end
section
variable {X : Cx} {pos : Pos}
end
structure It where
  go : Nat → Hp → Prop
  yld : Nat → Hp → V → Hp → Prop
  stop : Nat → Hp → Prop
def FpOk (X : Cx) (pins : List (Addr × Obj)) (H : Hp) (b : Addr) : Prop :=
  H b = none ∧ b ≠ X.env.locals ∧ b ∉ X.fs ∧ (b ∈ X.ex ∨ X.s₀.heap.objs.size ≤ b) ∧ (∀ x c, X.env.cells.lookup x = some c → c ≠ b) ∧ ∀ p ∈ X.pn ++ pins, p.1 ≠ b
theorem Inv.fpOk {X : Cx} {pins : List (Addr × Obj)} {σ : St} {H H' : Hp} {s : Shared} {b : Addr} (I : Inv X pins σ H s) (hb : s.heap.objs.size ≤ b) (hn : H' b = none) : FpOk X pins H' b := by
  refine ⟨hn, Nat.ne_of_gt (Nat.lt_of_lt_of_le I.lt hb), I.nofs hb, .inr (Nat.le_trans I.sz hb), fun x c e z => ?_, fun p hp z => ?_⟩
  · obtain ⟨v, q⟩ := I.cell x c e
    exact absurd (Nat.lt_of_lt_of_le q.lt (by rw [z]; exact hb)) (Nat.lt_irrefl _)
  · exact absurd (Nat.lt_of_lt_of_le (Heap.lt_size (I.pin p hp).1) (by rw [z]; exact hb)) (Nat.lt_irrefl _)
structure Turn (P : Program) (w : World) (K : PySem.W.Frag) (tg : Expr) (J : It) (fp : List Addr) (it : Addr) (tn : Nat → Heap → Prop) : Prop where
  mem : it ∈ fp
  obj : ∀ i h, tn i h → ∀ b ∈ fp, ∃ o, h.get? b = some o ∧ ∀ v, o.data ≠ .cell v
  keep : ∀ i h h', tn i h → (∀ b ∈ fp, ∀ o, h.get? b = some o → h'.get? b = some o) → tn i h'
  item : ∀ (X : Cx), X.prog = P → X.w = w → X.K = K → X.calm = true → ∀ (i : Nat) (pins : List (Addr × Obj)) (s : Shared) (σ : St) (H : Hp) (E : Value → Shared → Prop), Inv X pins σ H s → (∀ b ∈ fp, FpOk X pins H b) → tn i s.heap → J.go i H →
    wpAny (model P w) X.A (pyNext (.ref it)) (fun r s1 => ∃ u, r = some u ∧
      wpAny (model P w) X.A (letOwnedTupleGo tg (.ref it) u) (fun _ s2 => ∃ x H', Inv X pins σ H' s2 ∧ RelV x u ∧ J.yld i H x H' ∧ tn (i + 1) s2.heap ∧ ∀ b ∈ fp, H' b = none) E s1) E s
  done : ∀ (X : Cx), X.prog = P → X.w = w → X.K = K → X.calm = true → ∀ (i : Nat) (pins : List (Addr × Obj)) (s : Shared) (σ : St) (H : Hp) (E : Value → Shared → Prop), Inv X pins σ H s → (∀ b ∈ fp, FpOk X pins H b) → tn i s.heap → J.stop i H →
    wpAny (model P w) X.A (pyNext (.ref it)) (fun r s1 => r = none ∧ Inv X pins σ H s1) E s
  self : ∀ (A : Around) (i : Nat) (s : Shared) (Q : Value → Shared → Prop) (E : Value → Shared → Prop), tn i s.heap → Q (.ref it) s → wpAny (model P w) A (pyIter (.ref it)) Q E s
abbrev TI := St → Hp → (It → Hp → Prop) → Prop
def PIE (X : Cx) (pins : List (Addr × Obj)) (σ : St) (tg : Expr) (R : It → Hp → Prop) (itv : Value) (s2 : Shared) : Prop :=
  ∃ (it : Addr) (fp : List Addr) (tn : Nat → Heap → Prop) (J : It) (H' : Hp), itv = .ref it ∧ Inv X pins σ H' s2 ∧ Turn X.prog X.w X.K tg J fp it tn ∧ tn 0 s2.heap ∧ (∀ b ∈ fp, FpOk X pins H' b) ∧ R J H'
def PI (X : Cx) (tg iter : Expr) (wi : TI) : Prop :=
  ∀ (pins : List (Addr × Obj)) (s : Shared) (σ : St) (H : Hp) (R : It → Hp → Prop), Inv X pins σ H s → wi σ H R →
    wpAny (model X.prog X.w) X.A (eval iter X.env) (fun v s1 => wpAny (model X.prog X.w) X.A (pyIter v) (PIE X pins σ tg R) X.xe s1) X.xe s
theorem go_of {M : Model} {A : Around} {E : Value → Shared → Prop} {s : Shared} {tg : Expr} {it : Addr} {u : Value} {o : Obj} {n : String} {vs : Array Value} {Q : Unit → Shared → Prop} (ho : s.heap.get? it = some o) (hc : o.cls = .type n) (hd : o.data = .fields vs)
    (hn : ["enumerate", "zip", "dict_itemiterator", "dict_reverseitemiterator", "odict_iterator", "itertools.zip_longest", "itertools.pairwise"].contains n = false) (hQ : Q () s) : wpAny M A (letOwnedTupleGo tg (.ref it) u) Q E s := by
  unfold letOwnedTupleGo
  cases tg <;> first
    | exact wpAny_pure hQ
    | (cases u <;> first
        | exact wpAny_pure hQ
        | (refine wpAny_bind (wpAny_load ho ?_)
           rw [hc, hd]
           show wpAny M A (if (["enumerate", "zip", "dict_itemiterator", "dict_reverseitemiterator", "odict_iterator", "itertools.zip_longest", "itertools.pairwise"].contains n && vs[0]? == some (rawInt _)) = true then _ else _) Q E s
           rw [if_neg (by intro h; rw [hn, Bool.false_and] at h; cases h)]
           exact wpAny_pure hQ))
def Itl (K : PySem.W.Frag) (a : Addr) : It :=
  ⟨fun i H => ∃ xs x, SqL K H a xs ∧ xs[i]? = some x, fun i H x H' => H' = H ∧ ∀ xs, SqL K H a xs → xs[i]? = some x, fun i H => ∃ xs, SqL K H a xs ∧ xs.length ≤ i⟩
def Itt (K : PySem.W.Frag) (a : Addr) : It :=
  ⟨fun i H => ∃ xs x, SqT K H a xs ∧ xs[i]? = some x, fun i H x H' => H' = H ∧ ∀ xs, SqT K H a xs → xs[i]? = some x, fun i H => ∃ xs, SqT K H a xs ∧ xs.length ≤ i⟩
def Itr (lo : Int) (n : Nat) : It := ⟨fun i _ => i < n, fun i H x H' => H' = H ∧ x = .int (lo + i), fun i _ => n ≤ i⟩
theorem turn_list {P : Program} {w : World} {K : PySem.W.Frag} {tg : Expr} (a it : Addr) : Turn P w K tg (Itl K a) [it] it (fun i h => h.IsListIter it a i) where
  mem := by simp
  obj := fun i h st b hb => by
    have e : b = it := by simpa using hb
    subst e
    obtain ⟨o, e, c, d⟩ := st
    exact ⟨o, e, fun v z => by rw [d] at z; cases z⟩
  keep := fun i h h' st k => st.at fun o e => k it (by simp) o e
  item := by
    intro X hP hw hK hc i pins s σ H E I hf st hg
    subst hP hw hK
    obtain ⟨xs, x, hq, hx⟩ := hg
    obtain ⟨its, rv, p, hz⟩ := I.list hq
    obtain ⟨u, hu, ru⟩ := rv.get hx
    obtain ⟨f0, f1, f2, f3, f4, f5⟩ := hf it (by simp)
    refine wpAny_pyNext_list_item st p.isList (x := u) (by simpa using hu) fun h' st' sb => ?_
    have I1 : Inv X pins σ H { s with heap := h' } := I.turned (t' := s.toks) (fun b o hb e => (sb.2 b hb).trans e) f0 f1 f3 f4 f5
    obtain ⟨o, e, c, d⟩ := id st'
    exact ⟨u, rfl, go_of (s := { s with heap := h' }) e c d (by decide) ⟨x, H, I1, ru, ⟨rfl, fun ys hy => by rw [I.list_inj hy hq]; exact hx⟩, st', fun b hb => (hf b hb).1⟩⟩
  done := by
    intro X hP hw hK hc i pins s σ H E I hf st hg
    subst hP hw hK
    obtain ⟨xs, hq, hx⟩ := hg
    obtain ⟨its, rv, p, hz⟩ := I.list hq
    obtain ⟨f0, f1, f2, f3, f4, f5⟩ := hf it (by simp)
    have hl := rv.length
    exact wpAny_pyNext_list_end (I.ok.hd hc) st p.isList (by simp; omega) fun h' eb => ⟨rfl, I.turned (t' := s.toks) (fun b o hb e => eb b o hb e) f0 f1 f3 f4 f5⟩
  self := fun _ _ _ _ _ st h => wpAny_pyIter_listiter st h
theorem turn_range {P : Program} {w : World} {K : PySem.W.Frag} {tg : Expr} (it : Addr) (lo : Int) (n : Nat) : Turn P w K tg (Itr lo n) [it] it (fun i h => IsRangeIter h it (lo + (i : Nat) * 1) ((n : Int) - (i : Nat)) 1) where
  mem := by simp
  obj := fun i h st b hb => by
    have e : b = it := by simpa using hb
    subst e
    exact ⟨_, st, fun v z => by
      have z' : Data.fields _ = Data.cell v := z
      cases z'⟩
  keep := fun i h h' st k => k it (by simp) _ st
  item := by
    intro X hP hw hK hc i pins s σ H E I hf st hg
    subst hP hw hK
    obtain ⟨f0, f1, f2, f3, f4, f5⟩ := hf it (by simp)
    have W := Walks.range (prog := X.prog) (w := X.w) (I.ok.hd hc) it lo 1 n
    refine W.item i s _ _ hg st fun v h' tk hv st' kk => ?_
    obtain ⟨t, rfl⟩ := hv
    have I1 : Inv X pins σ H { s with heap := h', toks := tk } := I.turned (fun b o hb e => kk b o (by simpa using hb) e) f0 f1 f3 f4 f5
    refine ⟨_, rfl, go_of (s := { s with heap := h', toks := tk }) (n := "range_iterator") st' rfl rfl (by decide) ⟨.int (lo + i), H, I1, ⟨t, ?_⟩, ⟨rfl, rfl⟩, st', fun b hb => (hf b hb).1⟩⟩
    rw [Int.mul_one]
  done := by
    intro X hP hw hK hc i pins s σ H E I hf st hg
    subst hP hw hK
    obtain ⟨f0, f1, f2, f3, f4, f5⟩ := hf it (by simp)
    exact wpAny_pyNext_range_end (I.ok.hd hc) st (by have : n ≤ i := hg; omega) fun h' eb => ⟨rfl, I.turned (t' := s.toks) (fun b o hb e => eb b o hb e) f0 f1 f3 f4 f5⟩
  self := fun _ _ _ _ _ st h => wpAny_pyIter_rangeiter st h
end L2
namespace L2
open PySem PySem.Spec PyProof.Rows
section
variable {X : Cx} {tg : Expr}
def iList (K : PySem.W.Frag) (tl : TE) : TI := fun σ H R => tl σ H fun x H1 => ∃ a, x = .ref a ∧ (∃ xs, SqL K H1 a xs) ∧ R (Itl K a) H1
def iTup (K : PySem.W.Frag) (tl : TE) : TI := fun σ H R => tl σ H fun x H1 => ∃ a, x = .ref a ∧ (∃ xs, SqT K H1 a xs) ∧ R (Itt K a) H1
theorem pi_list {l : Expr} {tl : TE} (hl : PE X l tl) : PI X tg l (iList X.K tl) := by
  intro pins s σ H R I h
  refine thn (hl pins s σ H _ I h) fun v s1 ⟨x, H1, I1, r1, q1⟩ => ?_
  obtain ⟨a, e, ⟨xs, hq⟩, q⟩ := q1
  subst e
  cases r1
  obtain ⟨its, rv, p, hz⟩ := I1.list hq
  refine wpAny_pyIter_list p.isList ?_
  refine ⟨s1.heap.objs.size, [s1.heap.objs.size], _, _, H1, rfl, I1.kept (t' := s1.toks) fun b o e => Heap.get?_push_of_some _ e, turn_list a _, ⟨_, Heap.get?_push_size _ rfl, rfl, rfl⟩, fun b hb => ?_, q⟩
  have e : b = s1.heap.objs.size := by simpa using hb
  subst e
  exact I1.fpOk (Nat.le_refl _) (I1.hok.fresh (Nat.le_refl _))
theorem range_it {pins : List (Addr × Obj)} {σ : St} {H : Hp} {s : Shared} {R : It → Hp → Prop} {E : Value → Shared → Prop} {lo hi : Int} {t u v : Tok} {tk : Nat} (I : Inv X pins σ H s) (h1 : -(2 ^ 62) ≤ lo) (h2 : lo < 2 ^ 62) (h3 : -(2 ^ 62) ≤ hi) (h4 : hi < 2 ^ 62)
    (q : R (Itr lo (hi - lo).toNat) H) : wpAny (model X.prog X.w) X.A (pyIter (.ref s.heap.objs.size)) (PIE X pins σ tg R) E { s with heap := s.heap.push { cls := .type "range", data := .fields #[.int lo t, .int hi u, .int 1 v] }, toks := tk } := by
  refine wpAny_pyIter_range (IsRange.new ..) (small_one h1 h2 h3 h4) ?_
  have I1 : Inv X pins σ H { s with heap := s.heap.push { cls := .type "range", data := .fields #[.int lo t, .int hi u, .int 1 v] }, toks := tk } := I.kept fun b o e => Heap.get?_push_of_some _ e
  refine ⟨(s.heap.push { cls := .type "range", data := .fields #[.int lo t, .int hi u, .int 1 v] }).objs.size, [(s.heap.push { cls := .type "range", data := .fields #[.int lo t, .int hi u, .int 1 v] }).objs.size], _, _, H, rfl,
    I1.kept (t' := tk) fun b o e => Heap.get?_push_of_some _ e, turn_range _ lo (hi - lo).toNat, ?_, fun b hb => ?_, q⟩
  · have e1 : lo + ((0 : Nat) : Int) * 1 = lo := by simp
    have e2 : (((hi - lo).toNat : Nat) : Int) - ((0 : Nat) : Int) = Builtin.Range.rangeSize lo hi 1 := by rw [rangeSize_one]; split <;> omega
    show IsRangeIter _ _ (lo + ((0 : Nat) : Int) * 1) ((((hi - lo).toNat : Nat) : Int) - ((0 : Nat) : Int)) 1
    rw [e1, e2]
    exact Heap.get?_push_size _ rfl
  · have e : b = (s.heap.push { cls := .type "range", data := .fields #[.int lo t, .int hi u, .int 1 v] }).objs.size := by simpa using hb
    subst e
    exact I1.fpOk (Nat.le_refl _) (I1.hok.fresh (Nat.le_refl _))
def iRng1 (ta : TA) : TI := fun σ H R => ta σ H fun vs H1 => ∃ j : Int, vs = [.int j] ∧ -(2 ^ 62) ≤ j ∧ j < 2 ^ 62 ∧ R (Itr 0 j.toNat) H1
def iRng2 (ta : TA) : TI := fun σ H R => ta σ H fun vs H1 => ∃ i j : Int, vs = [.int i, .int j] ∧ (-(2 ^ 62) ≤ i ∧ i < 2 ^ 62 ∧ -(2 ^ 62) ≤ j ∧ j < 2 ^ 62) ∧ R (Itr i (j - i).toNat) H1
theorem pi_range1 {a : Expr} {ta : TA} {p pos : Pos} (hg : Gl X "range") (hm : X.mg "range" = none) (ha : PA X [a] ta) (hs : starEach [a] X.env = [(false, eval a X.env)] := by rfl) : PI X tg (.Call (.Name "range" p) [a] [] pos) (iRng1 ta) := by
  intro pins s σ H R I h
  refine Call_ (ld_blt I hg hm boot_range (PyProof.Rows.callWith_type1 (thn (ha pos pins s σ H _ I h) fun us s1 ⟨vs, H1, I1, r1, q1⟩ => ?_) hs rfl))
  obtain ⟨j, e, q1, q2, q⟩ := q1
  subst e
  cases r1 with
  | cons r rr =>
    cases rr
    obtain ⟨t, rfl⟩ := r
    exact call_range_1 (range_it I1 (by omega) (by omega) q1 q2 (by simpa using q))
def tFor (wi : TI) (g : TG) (tb : TS) : TS := fun D σ H => wi σ H fun J H1 => ∃ W : Nat → Nat → St → Hp → Prop, (∃ m, W 0 m σ H1) ∧ ∀ i m σ H, W i m σ H →
  (J.stop i H ∧ D.nx σ H) ∨ (J.go i H ∧ ∃ N : St → Hp → Prop, (∀ σ' H', N σ' H' → ∃ m', m' < m ∧ W (i + 1) m' σ' H') ∧ ∀ x H', J.yld i H x H' → g x σ H' fun σ2 H2 => tb { D with nx := N, ct := N, bk := D.nx } σ2 H2)
def pinsAt (fp : List Addr) (h : Heap) : List (Addr × Obj) := fp.filterMap fun b => (h.get? b).map fun o => (b, o)
theorem mem_pinsAt {fp : List Addr} {h : Heap} {b : Addr} {o : Obj} (hb : b ∈ fp) (e : h.get? b = some o) : (b, o) ∈ pinsAt fp h := List.mem_filterMap.mpr ⟨b, hb, by rw [e]; rfl⟩
theorem of_pinsAt {fp : List Addr} {h : Heap} {p : Addr × Obj} (hp : p ∈ pinsAt fp h) : p.1 ∈ fp ∧ h.get? p.1 = some p.2 := by
  obtain ⟨b, hb, e⟩ := List.mem_filterMap.mp hp
  cases q : h.get? b with
  | none => rw [q] at e; cases e
  | some o =>
    rw [q] at e
    have e' : (b, o) = p := Option.some.inj e
    subst e'
    exact ⟨hb, q⟩
theorem Inv.pinned {pins : List (Addr × Obj)} {σ : St} {H : Hp} {s : Shared} {fp : List Addr} (I : Inv X pins σ H s) (hf : ∀ b ∈ fp, FpOk X pins H b) (ho : ∀ b ∈ fp, ∃ o, s.heap.get? b = some o ∧ ∀ v, o.data ≠ .cell v) : Inv X (pins ++ pinsAt fp s.heap) σ H s :=
  I.pins_of fun p hp => (List.mem_append.mp hp).elim (fun z => I.pin p (List.mem_append_right _ z)) fun z => by
    obtain ⟨hb, e⟩ := of_pinsAt z
    obtain ⟨f0, f1, f2, _⟩ := hf p.1 hb
    obtain ⟨o, e', d⟩ := ho p.1 hb
    rw [e] at e'; cases e'
    exact ⟨e, f0, f1, f2, d⟩
theorem Inv.unpinned {pins pl : List (Addr × Obj)} {σ : St} {H : Hp} {s : Shared} (I : Inv X (pins ++ pl) σ H s) : Inv X pins σ H s := I.pins_of fun p hp => I.pin p (List.mem_append_right _ (List.mem_append_left _ hp))
theorem ps_for {iter : Expr} {body : List Stmt} {wi : TI} {g : TG} {tb : TS} {pos : Pos} (hp : PassesOwn (model X.prog X.w) X.A X.env X.xe) (hc : X.calm = true) (hi : PI X tg iter wi) (hg : PG X tg g) (hb : PSs X body tb)
    (hs : ∀ x, foldedSetIterable iter X.env x = pure x := by intro _; rfl) : PS X (.For tg iter body [] pos) (tFor wi g tb) := by
  intro pins s σ H D I h
  refine wpAny_For (thn (hi pins s σ H _ I h) fun v s1 h1 => thn h1 fun itv s2 h2 => ?_) hs
  obtain ⟨it, fp, tn, J, H2, e, I2, T, st2, f2, W, ⟨m0, w0⟩, turn⟩ := h2
  subst e
  -- what stays true of the iterator's objects through the loop
  have stat : ∀ {H' : Hp}, (∀ b ∈ fp, H' b = none) → ∀ b ∈ fp, FpOk X pins H' b := fun hn b hb => ⟨hn b hb, (f2 b hb).2⟩
  refine codeAny_forLoop_any (fun n s' => ∃ i σ' H', Inv X pins σ' H' s' ∧ tn i s'.heap ∧ (∀ b ∈ fp, H' b = none) ∧ W i n σ' H') ?_ m0 ⟨0, σ, H2, I2, st2, fun b hb => (f2 b hb).1, w0⟩
  rintro n s3 ⟨i, σ3, H3, I3, st3, fr3, w3⟩
  rcases turn i n σ3 H3 w3 with ⟨stop, qn⟩ | ⟨go, N, hN, step⟩
  · refine wpAny_passesOwn hp (thn (T.done X rfl rfl rfl hc i pins s3 σ3 H3 X.xe I3 (stat fr3) st3 stop) fun r s4 ⟨hr, I4⟩ => ?_)
    subst hr
    exact wpAny_execs_nil ⟨σ3, H3, I4, qn⟩
  · refine wpAny_passesOwn hp (thn (T.item X rfl rfl rfl hc i pins s3 σ3 H3 X.xe I3 (stat fr3) st3 go) fun r s4 ⟨u, hr, h4⟩ => ?_)
    subst hr
    refine wpAny_passesOwn hp (thn h4 fun _ s5 ⟨x, H5, I5, r5, y5, st5, fr5⟩ => ?_)
    have I5' := I5.pinned (stat fr5) (T.obj _ _ st5)
    refine wpAny_passesOwn hp (thn (hg _ s5 σ3 H5 x u _ I5' r5 (step x H5 y5)) fun _ s6 ⟨σ6, H6, I6, q6⟩ => ?_)
    refine wpAny_passesOwn hp (thn (hb _ s6 σ6 H6 _ I6 q6) fun f s7 q7 => ?_)
    have again : ∀ {σ7 : St} {H7 : Hp}, Inv X (pins ++ pinsAt fp s5.heap) σ7 H7 s7 → N σ7 H7 → ∃ m, m < n ∧ ∃ i σ' H', Inv X pins σ' H' s7 ∧ tn i s7.heap ∧ (∀ b ∈ fp, H' b = none) ∧ W i m σ' H' := fun {σ7 H7} I7 n7 => by
      obtain ⟨m', hm, w7⟩ := hN σ7 H7 n7
      refine ⟨m', hm, i + 1, σ7, H7, I7.unpinned, T.keep _ _ _ st5 fun b hb o e => (I7.pin (b, o) (List.mem_append_right _ (List.mem_append_right _ (mem_pinsAt hb e)))).1, fun b hb => ?_, w7⟩
      obtain ⟨o, e, d⟩ := T.obj _ _ st5 b hb
      exact (I7.pin (b, o) (List.mem_append_right _ (List.mem_append_right _ (mem_pinsAt hb e)))).2.1
    cases f with
    | next => obtain ⟨σ7, H7, I7, n7⟩ := q7; exact again I7 n7
    | cont => obtain ⟨σ7, H7, I7, n7⟩ := q7; exact again I7 n7
    | brk => obtain ⟨σ7, H7, I7, q7⟩ := q7; exact ⟨σ7, H7, I7.unpinned, q7⟩
    | ret v => obtain ⟨x7, σ7, H7, I7, r7, q7⟩ := q7; exact ⟨x7, σ7, H7, I7.unpinned, r7, q7⟩
end
theorem for_list {K : PySem.W.Frag} {a : Addr} {xs : List V} {g : TG} {tb : TS} {D : Ends} {σ : St} {H : Hp} (Pv : Nat → St → Hp → Prop) (h0 : Pv 0 σ H) (hl : ∀ i σ H, i ≤ xs.length → Pv i σ H → SqL K H a xs)
    (hs : ∀ i x σ H, xs[i]? = some x → Pv i σ H → g x σ H fun σ2 H2 => tb { D with nx := Pv (i + 1), ct := Pv (i + 1), bk := D.nx } σ2 H2) (hd : ∀ σ H, Pv xs.length σ H → D.nx σ H) :
    ∃ W : Nat → Nat → St → Hp → Prop, (∃ m, W 0 m σ H) ∧ ∀ i m σ H, W i m σ H →
      ((Itl K a).stop i H ∧ D.nx σ H) ∨ ((Itl K a).go i H ∧ ∃ N : St → Hp → Prop, (∀ σ' H', N σ' H' → ∃ m', m' < m ∧ W (i + 1) m' σ' H') ∧ ∀ x H', (Itl K a).yld i H x H' → g x σ H' fun σ2 H2 => tb { D with nx := N, ct := N, bk := D.nx } σ2 H2) := by
  refine ⟨fun i m σ H => m = xs.length - i ∧ i ≤ xs.length ∧ Pv i σ H, ⟨xs.length, by simp, Nat.zero_le _, h0⟩, ?_⟩
  rintro i m σ H ⟨rfl, hi, p⟩
  have q := hl i σ H hi p
  by_cases hlt : i < xs.length
  · refine .inr ⟨⟨xs, xs[i], q, by simp [hlt]⟩, Pv (i + 1), fun σ' H' p' => ⟨xs.length - (i + 1), by omega, rfl, hlt, p'⟩, fun x H' y => ?_⟩
    obtain ⟨e, y⟩ := y
    subst e
    exact hs i x σ _ (y xs q) p
  · have e : i = xs.length := by omega
    subst e
    exact .inl ⟨⟨xs, q, Nat.le_refl _⟩, hd σ H p⟩
theorem for_range {lo : Int} {n : Nat} {g : TG} {tb : TS} {D : Ends} {σ : St} {H : Hp} (Pv : Nat → St → Hp → Prop) (h0 : Pv 0 σ H)
    (hs : ∀ i σ H, i < n → Pv i σ H → g (.int (lo + i)) σ H fun σ2 H2 => tb { D with nx := Pv (i + 1), ct := Pv (i + 1), bk := D.nx } σ2 H2) (hd : ∀ σ H, Pv n σ H → D.nx σ H) :
    ∃ W : Nat → Nat → St → Hp → Prop, (∃ m, W 0 m σ H) ∧ ∀ i m σ H, W i m σ H →
      ((Itr lo n).stop i H ∧ D.nx σ H) ∨ ((Itr lo n).go i H ∧ ∃ N : St → Hp → Prop, (∀ σ' H', N σ' H' → ∃ m', m' < m ∧ W (i + 1) m' σ' H') ∧ ∀ x H', (Itr lo n).yld i H x H' → g x σ H' fun σ2 H2 => tb { D with nx := N, ct := N, bk := D.nx } σ2 H2) := by
  refine ⟨fun i m σ H => m = n - i ∧ i ≤ n ∧ Pv i σ H, ⟨n, by simp, Nat.zero_le _, h0⟩, ?_⟩
  rintro i m σ H ⟨rfl, hi, p⟩
  by_cases hlt : i < n
  · refine .inr ⟨hlt, Pv (i + 1), fun σ' H' p' => ⟨n - (i + 1), by omega, rfl, hlt, p'⟩, fun x H' y => ?_⟩
    obtain ⟨e, y⟩ := y
    subst e y
    exact hs i σ _ hlt p
  · have e : i = n := by omega
    subst e
    exact .inl ⟨Nat.le_refl _, hd σ H p⟩
end L2
namespace L2
open PySem PySem.Spec PyProof.Rows
abbrev R2 := V → V → Hp → VK → Prop
def OpR (X : Cx) (f : Value → Value → Sem Value) (r : R2) : Prop :=
  ∀ (pins : List (Addr × Obj)) (s : Shared) (σ : St) (H : Hp) (x y : V) (v u : Value) (Q : VK), Inv X pins σ H s → RelV x v → RelV y u → r x y H Q →
    wpAny (model X.prog X.w) X.A (f v u) (EP X pins σ Q) X.xe s
def UnR (X : Cx) (f : Value → Sem Value) (r : V → Hp → VK → Prop) : Prop :=
  ∀ (pins : List (Addr × Obj)) (s : Shared) (σ : St) (H : Hp) (x : V) (v : Value) (Q : VK), Inv X pins σ H s → RelV x v → r x H Q →
    wpAny (model X.prog X.w) X.A (f v) (EP X pins σ Q) X.xe s
def CallR (X : Cx) (f : Value) (r : List V → Hp → VK → Prop) : Prop :=
  ∀ (pins : List (Addr × Obj)) (s : Shared) (σ : St) (H : Hp) (xs : List V) (us : List Value) (Q : VK), Inv X pins σ H s → Vals xs us → r xs H Q →
    wpAny (model X.prog X.w) X.A (call f us) (EP X pins σ Q) X.xe s
def tOp (r : R2) (ta tb : TE) : TE := fun σ H Q => ta σ H fun x H1 => tb σ H1 fun y H2 => r x y H2 Q
def tUn (r : V → Hp → VK → Prop) (ta : TE) : TE := fun σ H Q => ta σ H fun x H1 => r x H1 Q
def rI (C : Int → Int → Prop) (g : Int → Int → V) : R2 := fun x y H Q => ∃ i j, x = .int i ∧ y = .int j ∧ C i j ∧ Q (g i j) H
def rI0 (g : Int → Int → V) : R2 := fun x y H Q => ∃ i j, x = .int i ∧ y = .int j ∧ Q (g i j) H
def rU (g : Int → V) : V → Hp → VK → Prop := fun x H Q => ∃ i, x = .int i ∧ Q (g i) H
section
variable {X : Cx} {a b c : Expr} {ta tb tc : TE} {pos : Pos}
theorem binT (ha : PE X a ta) (hb : PE X b tb) {pins : List (Addr × Obj)} {s : Shared} {σ : St} {H : Hp} {R : V → V → Hp → Prop} (I : Inv X pins σ H s)
    (h : ta σ H fun x H1 => tb σ H1 fun y H2 => R x y H2) {Q : Value → Shared → Prop} {f : Value → Value → Sem Value}
    (hf : ∀ v u s2 x y H2, Inv X pins σ H2 s2 → RelV x v → RelV y u → R x y H2 → wpAny (model X.prog X.w) X.A (f v u) Q X.xe s2) :
    wpAny (model X.prog X.w) X.A (eval a X.env) (fun v s₁ => wpAny (model X.prog X.w) X.A (eval b X.env) (fun u s₂ => wpAny (model X.prog X.w) X.A (f v u) Q X.xe s₂) X.xe s₁) X.xe s := by
  refine thn (ha pins s σ H _ I h) fun v s1 ⟨x, H1, I1, r1, q1⟩ => ?_
  refine thn (hb pins s1 σ H1 _ I1 q1) fun u s2 ⟨y, H2, I2, r2, q2⟩ => ?_
  exact hf v u s2 x y H2 I2 r1 r2 q2
theorem pe_op {op : Operator} {r : R2} (ho : OpR X (binaryOp op) r) (ha : PE X a ta) (hb : PE X b tb) : PE X (.BinOp a op b pos) (tOp r ta tb) := by
  intro pins s σ H Q I h
  exact wpAny_BinOp (binT ha hb I h fun v u s2 x y H2 I2 rx ry q => ho pins s2 σ H2 x y v u Q I2 rx ry q)
theorem pe_un {op : UnaryOp} {r : V → Hp → VK → Prop} (ho : UnR X (unaryOp op) r) (ha : PE X a ta) : PE X (.UnaryOp op a pos) (tUn r ta) := by
  intro pins s σ H Q I h
  exact UnaryOp_ (thn (ha pins s σ H _ I h) fun v s1 ⟨x, H1, I1, r1, q1⟩ => ho pins s1 σ H1 x v Q I1 r1 q1)
theorem opI {f : Value → Value → Sem Value} {C : Int → Int → Prop} {g : Int → Int → Int}
    (rule : ∀ (i j : Int) (t u : Tok) (s : Shared) (Q : Value → Shared → Prop) (E : Value → Shared → Prop), C i j → Q (.int (g i j) s.toks) { s with toks := s.toks + 1 } → wpAny (model X.prog X.w) X.A (f (.int i t) (.int j u)) Q E s) :
    OpR X f (rI C fun i j => .int (g i j)) := by
  intro pins s σ H x y v u Q I rx ry h
  obtain ⟨i, j, rfl, rfl, hc, q⟩ := h
  obtain ⟨t, rfl⟩ := rx
  obtain ⟨t', rfl⟩ := ry
  exact rule i j t t' s _ _ hc ⟨.int (g i j), H, I.tok _, ⟨_, rfl⟩, q⟩
theorem opI0 {f : Value → Value → Sem Value} {g : Int → Int → Int}
    (rule : ∀ (i j : Int) (t u : Tok) (s : Shared) (Q : Value → Shared → Prop) (E : Value → Shared → Prop), Q (.int (g i j) s.toks) { s with toks := s.toks + 1 } → wpAny (model X.prog X.w) X.A (f (.int i t) (.int j u)) Q E s) :
    OpR X f (rI0 fun i j => .int (g i j)) := by
  intro pins s σ H x y v u Q I rx ry h
  obtain ⟨i, j, rfl, rfl, q⟩ := h
  obtain ⟨t, rfl⟩ := rx
  obtain ⟨t', rfl⟩ := ry
  exact rule i j t t' s _ _ ⟨.int (g i j), H, I.tok _, ⟨_, rfl⟩, q⟩
theorem opB0 {f : Value → Value → Sem Value} {g : Int → Int → Bool}
    (rule : ∀ (i j : Int) (t u : Tok) (s : Shared) (Q : Value → Shared → Prop) (E : Value → Shared → Prop), Q (.bool (g i j)) s → wpAny (model X.prog X.w) X.A (f (.int i t) (.int j u)) Q E s) :
    OpR X f (rI0 fun i j => .bl (g i j)) := by
  intro pins s σ H x y v u Q I rx ry h
  obtain ⟨i, j, rfl, rfl, q⟩ := h
  obtain ⟨t, rfl⟩ := rx
  obtain ⟨t', rfl⟩ := ry
  exact rule i j t t' s _ _ ⟨.bl (g i j), H, I, rfl, q⟩
def CMul (i j : Int) : Prop := (-(2 ^ 64) < i ∧ i < 2 ^ 64) ∨ (-(2 ^ 64) < j ∧ j < 2 ^ 64)
theorem CMul.ok {i j : Int} (h : CMul i j) : IntMulOk i j := by
  rcases h with ⟨h1, h2⟩ | ⟨h1, h2⟩
  · exact .of_left (intBits_le_64 h1 h2)
  · exact .of_right (intBits_le_64 h1 h2)
theorem op_add : OpR X (binaryOp .Add) (rI0 fun i j => .int (i + j)) := opI0 fun _ _ _ _ _ _ _ q => add_int q
theorem op_sub : OpR X (binaryOp .Sub) (rI0 fun i j => .int (i - j)) := opI0 fun _ _ _ _ _ _ _ q => sub_int q
theorem op_mul : OpR X (binaryOp .Mult) (rI CMul fun i j => .int (i * j)) := opI fun _ _ _ _ _ _ _ hc q => mul_int q hc.ok
theorem op_mod : OpR X (binaryOp .Mod) (rI (fun _ j => 0 < j) fun i j => .int (i % j)) := opI fun i j _ _ _ _ _ hc q => by
  have h1 : (0 : Int) < j := hc
  exact mod_int' (by omega) (by rw [Int.fmod_eq_emod_of_nonneg i (by omega)]; exact q)
theorem unI {f : Value → Sem Value} {g : Int → Int}
    (rule : ∀ (i : Int) (t : Tok) (s : Shared) (Q : Value → Shared → Prop) (E : Value → Shared → Prop), Q (.int (g i) s.toks) { s with toks := s.toks + 1 } → wpAny (model X.prog X.w) X.A (f (.int i t)) Q E s) :
    UnR X f (rU fun i => .int (g i)) := by
  intro pins s σ H x v Q I rx h
  obtain ⟨i, rfl, q⟩ := h
  obtain ⟨t, rfl⟩ := rx
  exact rule i t s _ _ ⟨.int (g i), H, I.tok _, ⟨_, rfl⟩, q⟩
theorem un_neg : UnR X (unaryOp .USub) (rU fun i => .int (-i)) := unI fun _ _ _ _ _ q => neg_int q
end
def scal : V → V → Bool
  | .non, .non => true | .non, .int _ => true | .int _, .non => true | .non, .bl _ => true | .bl _, .non => true | .non, .str _ => true | .str _, .non => true
  | .int _, .int _ => true | .bl _, .bl _ => true | .str _, .str _ => true | .byt _, .byt _ => true
  | .int _, .str _ => true | .str _, .int _ => true | .bl _, .str _ => true | .str _, .bl _ => true
  | _, _ => false
def rEq : R2 := fun x y H Q => scal x y = true ∧ Q (.bl (decide (x = y))) H
def rNe : R2 := fun x y H Q => scal x y = true ∧ Q (.bl (!decide (x = y))) H
theorem dec_int {i j : Int} : decide (V.int i = V.int j) = (i == j) := by
  rw [Bool.eq_iff_iff]
  simp
theorem dec_bl {i j : Bool} : decide (V.bl i = V.bl j) = (i == j) := by
  rw [Bool.eq_iff_iff]
  simp
theorem dec_str {i j : Str} : decide (V.str i = V.str j) = (i == j) := by
  rw [Bool.eq_iff_iff]
  simp
theorem dec_byt {i j : Array UInt8} : decide (V.byt i = V.byt j) = (i.toList == j.toList) := by
  rw [Bool.eq_iff_iff]
  cases i
  cases j
  simp
section
variable {X : Cx} {a b c : Expr} {ta tb tc : TE} {pos : Pos}
theorem fin_bl {pins : List (Addr × Obj)} {σ : St} {H : Hp} {s : Shared} {Q : VK} {k k' : Bool} (I : Inv X pins σ H s) (q : Q (.bl k) H) (e : k = k') : EP X pins σ Q (.bool k') s := by
  subst e
  exact ⟨.bl k, H, I, rfl, q⟩
theorem op_eq : OpR X (compareOp .Eq) rEq := by
  intro pins s σ H x y v u Q I rx ry h
  obtain ⟨hs, q⟩ := h
  cases x with
  | non =>
    cases rx
    cases y with
    | non => cases ry; exact PySem.EqNone.eq_none_none (fin_bl I q (by simp))
    | bl j => cases ry; exact PySem.EqNone.eq_none_bool (fin_bl I q (by simp))
    | int j => obtain ⟨t', rfl⟩ := ry; exact PySem.EqNone.eq_none_int (fin_bl I q (by simp))
    | str j => obtain ⟨t', rfl⟩ := ry; exact PySem.EqNone.eq_none_str (fin_bl I q (by simp))
    | _ => exact absurd (show false = true from hs) Bool.false_ne_true
  | bl i =>
    cases rx
    cases y with
    | non => cases ry; exact PySem.EqNone.eq_bool_none (fin_bl I q (by simp))
    | bl j => cases ry; exact eq_bool (fin_bl I q dec_bl)
    | str j => obtain ⟨t', rfl⟩ := ry; exact PySem.EqMixed.eq_bool_str (fin_bl I q (by simp))
    | _ => exact absurd (show false = true from hs) Bool.false_ne_true
  | int i =>
    obtain ⟨t, rfl⟩ := rx
    cases y with
    | non => cases ry; exact PySem.EqNone.eq_int_none (fin_bl I q (by simp))
    | int j => obtain ⟨t', rfl⟩ := ry; exact eq_int (fin_bl I q dec_int)
    | str j => obtain ⟨t', rfl⟩ := ry; exact PySem.EqMixed.eq_int_str (fin_bl I q (by simp))
    | _ => exact absurd (show false = true from hs) Bool.false_ne_true
  | str i =>
    obtain ⟨t, rfl⟩ := rx
    cases y with
    | non => cases ry; exact PySem.EqNone.eq_str_none (fin_bl I q (by simp))
    | bl j => cases ry; exact PySem.EqMixed.eq_str_bool (fin_bl I q (by simp))
    | int j => obtain ⟨t', rfl⟩ := ry; exact PySem.EqMixed.eq_str_int (fin_bl I q (by simp))
    | str j => obtain ⟨t', rfl⟩ := ry; exact eq_str (fin_bl I q dec_str)
    | _ => exact absurd (show false = true from hs) Bool.false_ne_true
  | byt i =>
    obtain ⟨t, rfl⟩ := rx
    cases y with
    | byt j => obtain ⟨t', rfl⟩ := ry; exact PySem.W.eq_bytes (fin_bl I q dec_byt)
    | _ => exact absurd (show false = true from hs) Bool.false_ne_true
  | _ => cases y <;> exact absurd (show false = true from hs) Bool.false_ne_true
theorem op_ne : OpR X (compareOp .NotEq) rNe := by
  intro pins s σ H x y v u Q I rx ry h
  obtain ⟨hs, q⟩ := h
  cases x with
  | non =>
    cases rx
    cases y with
    | non => cases ry; exact PySem.EqNone.ne_none_none (fin_bl I q (by simp))
    | bl j => cases ry; exact PySem.EqNone.ne_none_bool (fin_bl I q (by simp))
    | int j => obtain ⟨t', rfl⟩ := ry; exact PySem.EqNone.ne_none_int (fin_bl I q (by simp))
    | str j => obtain ⟨t', rfl⟩ := ry; exact PySem.EqNone.ne_none_str (fin_bl I q (by simp))
    | _ => exact absurd (show false = true from hs) Bool.false_ne_true
  | bl i =>
    cases rx
    cases y with
    | non => cases ry; exact PySem.EqNone.ne_bool_none (fin_bl I q (by simp))
    | bl j => cases ry; exact ne_bool (fin_bl I q (congrArg not dec_bl))
    | str j => obtain ⟨t', rfl⟩ := ry; exact PySem.EqMixed.ne_bool_str (fin_bl I q (by simp))
    | _ => exact absurd (show false = true from hs) Bool.false_ne_true
  | int i =>
    obtain ⟨t, rfl⟩ := rx
    cases y with
    | non => cases ry; exact PySem.EqNone.ne_int_none (fin_bl I q (by simp))
    | int j => obtain ⟨t', rfl⟩ := ry; exact ne_int (fin_bl I q (congrArg not dec_int))
    | str j => obtain ⟨t', rfl⟩ := ry; exact PySem.EqMixed.ne_int_str (fin_bl I q (by simp))
    | _ => exact absurd (show false = true from hs) Bool.false_ne_true
  | str i =>
    obtain ⟨t, rfl⟩ := rx
    cases y with
    | non => cases ry; exact PySem.EqNone.ne_str_none (fin_bl I q (by simp))
    | bl j => cases ry; exact PySem.EqMixed.ne_str_bool (fin_bl I q (by simp))
    | int j => obtain ⟨t', rfl⟩ := ry; exact PySem.EqMixed.ne_str_int (fin_bl I q (by simp))
    | str j => obtain ⟨t', rfl⟩ := ry; exact ne_str (fin_bl I q (congrArg not dec_str))
    | _ => exact absurd (show false = true from hs) Bool.false_ne_true
  | byt i =>
    obtain ⟨t, rfl⟩ := rx
    cases y with
    | byt j => obtain ⟨t', rfl⟩ := ry; exact PySem.W.ne_bytes (fin_bl I q (congrArg not dec_byt))
    | _ => exact absurd (show false = true from hs) Bool.false_ne_true
  | _ => cases y <;> exact absurd (show false = true from hs) Bool.false_ne_true
theorem op_lt : OpR X (compareOp .Lt) (rI0 fun i j => .bl (decide (i < j))) := opB0 fun _ _ _ _ _ _ _ q => lt_int q
theorem op_gt : OpR X (compareOp .Gt) (rI0 fun i j => .bl (decide (j < i))) := opB0 fun _ _ _ _ _ _ _ q => gt_int q
theorem op_ge : OpR X (compareOp .GtE) (rI0 fun i j => .bl (decide (j ≤ i))) := opB0 fun _ _ _ _ _ _ _ q => ge_int q
theorem nomark (b : Expr) {op : CmpOp} (h : op ≠ .In := by decide) (h2 : op ≠ .NotIn := by decide) : behindInMarks op b = false := by
  have e1 : (op == CmpOp.In) = false := by cases op <;> first | rfl | exact absurd rfl h
  have e2 : (op == CmpOp.NotIn) = false := by cases op <;> first | rfl | exact absurd rfl h2
  cases b <;> simp [behindInMarks, e1, e2]
theorem pe_cmpR {op : CmpOp} {r : R2} (ho : OpR X (compareOp op) r) (ha : PE X a ta) (hb : PE X b tb) (hm : behindInMarks op b = false) : PE X (.Compare a [op] [b] pos) (tOp r ta tb) := by
  intro pins s σ H Q I h
  exact wpAny_Compare1 (binT ha hb I h fun v u s2 x y H2 I2 rx ry q => ho pins s2 σ H2 x y v u Q I2 rx ry q) hm
def tTest (t : TE) : TT := fun σ H Q => t σ H fun x H' => ∃ k, x = .bl k ∧ Q k H'
theorem pt_cmpR {op : CmpOp} {r : R2} (ho : OpR X (compareOp op) r) (ha : PE X a ta) (hb : PE X b tb) (hm : behindInMarks op b = false) : PT X (.Compare a [op] [b] pos) (tTest (tOp r ta tb)) := by
  intro pins s σ H Q I h
  refine wpAny_isTrue_Compare1 (thn (ha pins s σ H _ I h) fun v s1 ⟨x, H1, I1, r1, q1⟩ => thn (hb pins s1 σ H1 _ I1 q1) fun u s2 ⟨y, H2, I2, r2, q2⟩ =>
    thn (ho pins s2 σ H2 x y v u _ I2 r1 r2 q2) fun c s3 ⟨z, H3, I3, r3, k, e, q3⟩ => ?_) hm
  subst e
  cases r3
  exact wpAny_truthy_bool ⟨H3, I3, q3⟩
def tChain (r r' : R2) (ta tb tc : TE) : TE := fun σ H Q => ta σ H fun x H1 => tb σ H1 fun y H2 => r x y H2 fun z H3 => ∃ k, z = .bl k ∧
  (if k = true then tc σ H3 fun w' H4 => r' y w' H4 Q else Q (.bl false) H3)
theorem line63 : (sizeLine : Nat) < 2 ^ 63 := by rw [sizeLine_eq]; decide
theorem vals1 {x : V} {us : List Value} (r : Vals [x] us) : ∃ u, us = [u] ∧ RelV x u := by
  cases r with
  | cons r1 r2 => cases r2; exact ⟨_, rfl, r1⟩
theorem vals2 {x y : V} {us : List Value} (r : Vals [x, y] us) : ∃ u w', us = [u, w'] ∧ RelV x u ∧ RelV y w' := by
  cases r with
  | cons r1 r2 =>
    cases r2 with
    | cons r3 r4 => cases r4; exact ⟨_, _, rfl, r1, r3⟩
end
end L2
namespace L2
open PySem PySem.Spec PyProof.Rows
structure ObjM (h : Heap) (x dx C : Addr) (mA : Str → Option Value) : Prop where
  obj : h.get? x = some (PySem.W.instObj C dx)
  ns : h.Ns1 dx mA
  ne : dx ≠ x
theorem lookIn_ns {h : Heap} {dx : Addr} {mA : Str → Option Value} (n : h.Ns1 dx mA) : ∃ od, h.get? dx = some od ∧ ∀ name, PySem.W.lookIn name od = some (mA name) := by
  obtain ⟨o, es, ep, ho, hd, hk, _, hm⟩ := n
  refine ⟨o, ho, fun name => ?_⟩
  have e := hm name
  unfold nsFind findBy at e
  rw [← Array.find?_toList] at e
  unfold PySem.W.lookIn
  rw [hd]
  dsimp only
  split
  · rename_i y q
    rw [q] at e
    exact congrArg some e
  · rename_i q
    rw [q] at e
    have a : es.toList.any (·.refKey) = false := by
      rw [List.any_eq_false]
      intro y hy
      obtain ⟨z, t, hkey⟩ := hk y (Array.mem_toList_iff.mp hy)
      simp [DictEntry.refKey, hkey]
    have a' : ¬ es.toList.any (·.refKey) = true := by rw [a]; exact Bool.false_ne_true
    rw [if_neg a']
    exact congrArg some e
theorem ObjM.look {h : Heap} {x dx C : Addr} {mA : Str → Option Value} (I : ObjM h x dx C mA) : ∃ od, PySem.W.InstAt h x (PySem.W.instObj C dx) C (some od) ∧ ∀ name, PySem.W.lookIn name od = some (mA name) :=
  let ⟨od, ho, hl⟩ := lookIn_ns I.ns
  ⟨od, ⟨I.obj, rfl, rfl, ho⟩, hl⟩
section
variable {prog : Program} {w : World} {A : Around} {E : Value → Shared → Prop} {s : Shared} {K : PySem.W.Frag} {x dx C f : Addr} {mA : Str → Option Value} {name : Str} {v : Value}
theorem get_map {expr : Bool} {Q : Value → Shared → Prop} (X : K.In s.heap) (I : ObjM s.heap x dx C mA) (hg : PySem.W.plainGet K C name = true) (hh : PySem.W.hasDictIn K C = true)
    (ha : PySem.W.findIn K (.ref C) name = some none) (hv : mA name = some v) (hv' : PySem.W.handedIn v = true) (h : Q v { s with toks := s.toks + 1 }) :
    wpAny (model prog w) A (getAttr (.ref x) name expr) Q E s := by
  obtain ⟨od, J, hl⟩ := I.look
  exact PySem.W.get_value X J (PySem.W.plainGet_of hg).1 (PySem.W.findObj_own hh ha rfl (by rw [hl, hv])) hv' h
theorem get_meth {pl : Sem Bool} {Q : Value × List Value → Shared → Prop} (X : K.In s.heap) (I : ObjM s.heap x dx C mA) (hg : PySem.W.plainGet K C name = true)
    (hf : PySem.W.findIn K (.ref C) name = some (some (.ref f))) (ht : PySem.W.isFn K (.ref f) = true) (hv : mA name = none) (h : Q (.ref f, [.ref x]) s) :
    wpAny (model prog w) A (getMethod (.ref x) name pl) Q E s := by
  obtain ⟨od, J, hl⟩ := I.look
  exact PySem.W.method_fn X J (PySem.W.plainGet_of hg).1 (PySem.W.plainGet_of hg).2 hf (beq_iff_eq.mp ht) (by show (PySem.W.lookIn name od).map (·.isSome) = some false; rw [hl, hv]; rfl) h
theorem set_map {ns : List Str} {Q : Unit → Shared → Prop} (X : K.In s.heap) (I : ObjM s.heap x dx C mA)
    (hs : PySem.W.findIn K (.ref C) "__setattr__" = some (some (.builtin "object.__setattr__"))) (hp : PySem.W.plainOver K C = true) (ht : PySem.W.takerIn K C name = some none) (hh : PySem.W.hasDictIn K C = true)
    (hw : PySem.Within mA ns) (hsz : ns.length ≤ sizeLine)
    (h : ∀ h', ObjM h' x dx C (fun y => if y = name then some v else mA y) → Heap.SameBut dx s.heap h' → Q () { s with heap := h', toks := s.toks + 2 }) :
    wpAny (model prog w) A (setAttr (.ref x) name v) Q E s := by
  obtain ⟨od, J, hl⟩ := I.look
  refine PySem.W.set_plain X J hs (PySem.W.osa_open (s := { s with toks := s.toks + 1 }) (r := none) X J hp ht fun b => ?_)
  obtain ⟨cd, hc, hd'⟩ := PySem.W.any_some hh
  have hx : s.heap.get? x = some ⟨.ref C, some dx, .plain, #[]⟩ := I.obj
  refine wpAny_bind (wpAny_pure (wpAny_bind (wpAny_bind (wpAny_loadPart hx (wpAny_bind (PySem.W.Looks.here (s := { s with toks := s.toks + 1 }) (PySem.W.looks_clsIn X hc) ?_))))))
  rw [hd']
  refine wpAny_pure (a := some dx) (wpAny_bind (wpAny_pure (wpAny_bind ?_)))
  refine wpAny_nsSet1 (s := { s with toks := s.toks + 1 }) I.ns fun h' hn2 hs2 => ?_
  obtain ⟨oD, esD, epD, hoD, hdD, hcD⟩ := hn2.count (PySem.Within.cons name v hw)
  refine wpAny_bind (wpAny_lookBehind hoD (by rw [hdD]; exact pastItsLine_dict (Nat.le_trans hcD (by rw [List.length_cons]; omega))) ?_)
  exact wpAny_pure (h _ ⟨(hs2.2 _ (Ne.symm I.ne)).trans I.obj, hn2, I.ne⟩ hs2)
theorem make_map {R : Result → Shared → Prop} {vs : List Value} {kw : List (Str × Value)} (X : K.In s.heap) (hm : PySem.W.makesIn K C = true)
    (hi : PySem.W.findIn K (.ref C) "__init__" = some (some (.ref f))) (hf : PySem.W.typeIn K (.ref f) = some (.type "function"))
    (h : codeAny (model prog w) (A.under (.builtin "type.__call__" ⟨.ref C :: vs, kw⟩)) (.call (.ref f) ⟨.ref (s.heap.objs.size + 1) :: vs, kw⟩) (PySem.W.InitBack (s.heap.objs.size + 1) R)
      { s with heap := (s.heap.push PySem.W.emptyDict).push (PySem.W.instObj C s.heap.objs.size) }) :
    codeAny (model prog w) A (.call (.ref C) ⟨vs, kw⟩) R s := by
  obtain ⟨hh, g, d, t, os⟩ := s
  exact PySem.W.make_core (PySem.W.makes_of X hm) (PySem.W.looks_findIn X hi) (fun self => PySem.W.bind_fn X self hf) (.inl rfl) h
end
def putF (f : Str) (v : V) : List (Str × V) → List (Str × V)
  | [] => [(f, v)]
  | (g, x) :: r => if g = f then (g, v) :: r else (g, x) :: putF f v r
theorem lookup_putF (f g : Str) (v : V) : ∀ fs : List (Str × V), (putF f v fs).lookup g = if g = f then some v else fs.lookup g
  | [] => by
    show List.lookup g [(f, v)] = _
    by_cases h : g = f
    · have hb : (g == f) = true := beq_iff_eq.mpr h
      simp only [List.lookup, hb, if_pos h]
    · have hb : (g == f) = false := beq_eq_false_iff_ne.mpr h
      simp only [List.lookup, hb, if_neg h]
  | (k, x) :: r => by
    have ih := lookup_putF f g v r
    rw [show putF f v ((k, x) :: r) = (if k = f then (k, v) :: r else (k, x) :: putF f v r) from rfl]
    by_cases hk : k = f
    · rw [if_pos hk]
      by_cases h : g = k
      · have hb : (g == k) = true := beq_iff_eq.mpr h
        simp only [List.lookup, hb, if_pos (h.trans hk)]
      · have hb : (g == k) = false := beq_eq_false_iff_ne.mpr h
        simp only [List.lookup, hb, if_neg (fun e : g = f => h (e.trans hk.symm))]
    · rw [if_neg hk]
      by_cases h : g = k
      · have hb : (g == k) = true := beq_iff_eq.mpr h
        simp only [List.lookup, hb, if_neg (fun e : g = f => hk (h.symm.trans e))]
      · have hb : (g == k) = false := beq_eq_false_iff_ne.mpr h
        simp only [List.lookup, hb]
        exact ih
theorem keys_putF (f : Str) (v : V) : ∀ fs : List (Str × V), f ∈ (putF f v fs).map (·.1) ∧ ∀ g, g ∈ fs.map (·.1) → g ∈ (putF f v fs).map (·.1)
  | [] => ⟨by simp [putF], fun g h => by simp at h⟩
  | (k, x) :: r => by
    obtain ⟨i1, i2⟩ := keys_putF f v r
    rw [show putF f v ((k, x) :: r) = (if k = f then (k, v) :: r else (k, x) :: putF f v r) from rfl]
    by_cases hk : k = f
    · rw [if_pos hk]
      subst hk
      exact ⟨by simp, fun g h => by simpa using h⟩
    · rw [if_neg hk]
      refine ⟨?_, fun g h => ?_⟩
      · rw [List.map_cons]
        exact List.mem_cons_of_mem _ i1
      · rw [List.map_cons] at h ⊢
        rcases List.mem_cons.mp h with e | e
        · exact List.mem_cons.mpr (.inl e)
        · exact List.mem_cons_of_mem _ (i2 g e)
theorem length_putF (f : Str) (v : V) : ∀ fs : List (Str × V), (putF f v fs).length ≤ fs.length + 1
  | [] => by simp [putF]
  | (k, x) :: r => by
    have ih := length_putF f v r
    rw [show putF f v ((k, x) :: r) = (if k = f then (k, v) :: r else (k, x) :: putF f v r) from rfl]
    by_cases hk : k = f
    · rw [if_pos hk, List.length_cons, List.length_cons]; omega
    · rw [if_neg hk, List.length_cons, List.length_cons]; omega
theorem RelO.some_of {v : V} {o : Option Value} (r : RelO (some v) o) : ∃ u, o = some u ∧ RelV v u := by
  cases o with
  | none => exact (show False from r).elim
  | some u => exact ⟨u, rfl, r⟩
theorem RelO.none_of {o : Option Value} (r : RelO none o) : o = none := by
  cases o with
  | none => rfl
  | some u => exact (show False from r).elim
theorem handed_of {v : V} {u : Value} (r : RelV v u) : PySem.W.handedIn u = true := by
  cases v with
  | non => cases (show u = Value.none from r); rfl
  | bl b => cases (show u = Value.bool b from r); rfl
  | int i => obtain ⟨t, e⟩ := (show ∃ t, u = Value.int i t from r); cases e; rfl
  | str x => obtain ⟨t, e⟩ := (show ∃ t, u = Value.str x t from r); cases e; rfl
  | byt b => obtain ⟨t, e⟩ := (show ∃ t, u = Value.bytes b t from r); cases e; rfl
  | flt b => obtain ⟨t, e⟩ := (show ∃ t, u = Value.float b t from r); cases e; rfl
  | ref a => cases (show u = Value.ref a from r); rfl
  | ty n => cases (show u = Value.type n from r); rfl
section
variable {P : Program} {w : World} {H H' : Hp} {h h' : Heap} {a C dx : Addr} {fs fs' : List (Str × V)}
theorem ins_get (hok : HOk P w H h) (e : H a = some (.ins C dx fs)) : ∃ mA, ObjM h a dx C mA ∧ (∀ f, RelO (fs.lookup f) (mA f)) ∧ PySem.Within mA (fs.map (·.1)) ∧ fs.length ≤ 1000 ∧ H dx = some (.own a) := by
  obtain ⟨d, z, ne, ob, mA, n, r, q⟩ := (show ObjOk P w H h a (.ins C dx fs) from hok a _ e)
  exact ⟨mA, ⟨ob, n, ne⟩, r, q, z, d⟩
end
structure Cls (K : PySem.W.Frag) (C : Addr) : Prop where
  pg : PySem.W.plainGet K C Str.empty = true
  hd : PySem.W.hasDictIn K C = true
  po : PySem.W.plainOver K C = true
  sa : PySem.W.findIn K (.ref C) "__setattr__" = some (some (.builtin "object.__setattr__"))
theorem Cls.get {K : PySem.W.Frag} {C : Addr} (c : Cls K C) (f : Str) : PySem.W.plainGet K C f = true := c.pg
def NoAttr (K : PySem.W.Frag) (C : Addr) (f : Str) : Prop := PySem.W.findIn K (.ref C) f = some none
theorem NoAttr.taker {K : PySem.W.Frag} {C : Addr} {f : Str} (n : NoAttr K C f) : PySem.W.takerIn K C f = some none := by
  unfold PySem.W.takerIn
  rw [show PySem.W.findIn K (.ref C) f = some none from n]
  rfl
structure Con (K : PySem.W.Frag) (C : Addr) (f : Str) (v : V) (u : Value) : Prop where
  at_ : PySem.W.findIn K (.ref C) f = some (some u)
  rel : RelV v u
  get : PySem.W.specialIn K u "__get__" = some none
  cp : PySem.W.copiedNames.contains f = false
structure Meth (K : PySem.W.Frag) (C : Addr) (m : Str) (f : Addr) : Prop where
  at_ : PySem.W.findIn K (.ref C) m = some (some (.ref f))
  fn : PySem.W.isFn K (.ref f) = true
  kp : PySem.W.keepIn K (.ref f) = true
section
variable {X : Cx} {pins : List (Addr × Obj)} {σ : St} {H : Hp} {s : Shared} {a C dx : Addr} {fs : List (Str × V)} {f : Str} {v : V} {A : Around} {E : Value → Shared → Prop}
theorem getattr_ok {b : Bool} {Q : Value → Shared → Prop} (I : Inv X pins σ H s) (e : H a = some (.ins C dx fs)) (c : Cls X.K C) (n : NoAttr X.K C f) (l : fs.lookup f = some v)
    (h : ∀ u s', Inv X pins σ H s' → RelV v u → Q u s') : wpAny (model X.prog X.w) A (getAttr (.ref a) f b) Q E s := by
  obtain ⟨mA, O, r, _, _, _⟩ := ins_get I.hok e
  obtain ⟨u, hu, ru⟩ := RelO.some_of (v := v) (o := mA f) (by rw [← l]; exact r f)
  exact get_map I.kIn O (c.get f) c.hd n hu (handed_of ru) (h u _ (I.tok _) ru)
theorem getmeth_ok {m : Str} {g : Addr} {pl : Sem Bool} {Q : Value × List Value → Shared → Prop} (I : Inv X pins σ H s) (e : H a = some (.ins C dx fs)) (c : Cls X.K C) (k : Meth X.K C m g) (l : fs.lookup m = none)
    (h : Q (.ref g, [.ref a]) s) : wpAny (model X.prog X.w) A (getMethod (.ref a) m pl) Q E s := by
  obtain ⟨mA, O, r, _, _, _⟩ := ins_get I.hok e
  have hn : mA m = none := RelO.none_of (by rw [← l]; exact r m)
  exact get_meth I.kIn O (c.get m) k.at_ k.fn hn h
theorem setattr_ok {y : V} {u : Value} {Q : Unit → Shared → Prop} (I : Inv X pins σ H s) (e : H a = some (.ins C dx fs)) (c : Cls X.K C) (n : NoAttr X.K C f) (hl : fs.length < 1000) (ry : RelV y u)
    (h : ∀ s', Inv X pins σ (upd H a (.ins C dx (putF f y fs))) s' → Q () s') : wpAny (model X.prog X.w) A (setAttr (.ref a) f u) Q E s := by
  obtain ⟨mA, O, r, wi, _, ho⟩ := ins_get I.hok e
  have hz : (fs.map (·.1)).length ≤ sizeLine := by rw [List.length_map, sizeLine_eq]; omega
  refine set_map I.kIn O c.sa c.po n.taker c.hd wi hz fun h' O' sb => h _ ?_
  have hd : ∃ o, h'.get? dx = some o := let ⟨o, _, _, e', _⟩ := O'.ns; ⟨o, e'⟩
  refine I.write (x := a) (e := dx) (by rw [e]; exact True.intro) (.inr ho) (fun b q hb z => (sb.2 b hb).trans z) hd ?_
  refine ⟨by rw [upd_ne O.ne]; exact ho, ?_, O.ne, O'.obj, _, O'.ns, fun g => ?_, fun g hg => ?_⟩
  · have := length_putF f y fs; omega
  · show RelO ((putF f y fs).lookup g) (if g = f then some u else mA g)
    rw [lookup_putF]
    by_cases q : g = f
    · rw [if_pos q, if_pos q]; exact ry
    · rw [if_neg q, if_neg q]; exact r g
  · by_cases q : g = f
    · rw [q]; exact (keys_putF f y fs).1
    · refine (keys_putF f y fs).2 g (wi g fun z => hg ?_)
      show (if g = f then some u else mA g) = none
      rw [if_neg q]; exact z
theorem Inv.made (I : Inv X pins σ H s) : Inv X pins σ (upd (upd H s.heap.objs.size (.own (s.heap.objs.size + 1))) (s.heap.objs.size + 1) (.ins C s.heap.objs.size []))
    { s with heap := (s.heap.push PySem.W.emptyDict).push (PySem.W.instObj C s.heap.objs.size) } := by
  have e1 : (s.heap.push PySem.W.emptyDict).get? s.heap.objs.size = some PySem.W.emptyDict := Heap.get?_push_size s.heap rfl
  have e2 : ((s.heap.push PySem.W.emptyDict).push (PySem.W.instObj C s.heap.objs.size)).get? (s.heap.objs.size + 1) = some (PySem.W.instObj C s.heap.objs.size) := by
    have := Heap.get?_push_size (s.heap.push PySem.W.emptyDict) (o := PySem.W.instObj C s.heap.objs.size) rfl
    rwa [Heap.size_push] at this
  have e3 : (s.heap.push PySem.W.emptyDict).Ns s.heap.objs.size (fun _ => none) := ⟨PySem.W.emptyDict, #[], _, e1, rfl, (fun e he => absurd he (by simp)), fun _ => rfl⟩
  have I1 := I.laid (a := s.heap.objs.size) (o := .own (s.heap.objs.size + 1)) (h' := s.heap.push PySem.W.emptyDict) (t' := s.toks) (fun b u q => Heap.get?_push_of_some _ q) (Nat.le_refl _) ⟨_, e1⟩
  refine I1.laid (a := s.heap.objs.size + 1) (o := .ins C s.heap.objs.size []) (t' := s.toks) (fun b u q => Heap.get?_push_of_some _ q) (Nat.le_of_eq (Heap.size_push _ _)) ?_
  have ne : s.heap.objs.size ≠ s.heap.objs.size + 1 := Nat.ne_of_lt (Nat.lt_succ_self _)
  refine ⟨by rw [upd_ne ne, upd_same], Nat.zero_le _, ne, e2, fun _ => none, (Heap.Ns1.of_empty e3).at fun o q => Heap.get?_push_of_some _ q, fun _ => True.intro, fun y hy => absurd rfl hy⟩
theorem attr_of {prog : Program} {w : World} {env : Env} {e : Expr} {f : Str} {pos : Pos} {s : Shared} {Q : Value → Shared → Prop} (hb : attributeBase e f env (eval e env) = eval e env)
    (h : wpAny (model prog w) A (eval e env) (fun o s₁ => wpAny (model prog w) A (getAttr o f true) Q E s₁) E s) : wpAny (model prog w) A (eval (.Attribute e f pos) env) Q E s :=
  Attribute_any_ h (by rw [arm_eval_Attribute, hb])
end
def tFld (K : PySem.W.Frag) (ta : TE) (f : Str) : TE := fun σ H Q => ta σ H fun x H1 => ∃ a C dx fs v, x = .ref a ∧ H1 a = some (.ins C dx fs) ∧ Cls K C ∧ NoAttr K C f ∧ fs.lookup f = some v ∧ Q v H1
def tCon (K : PySem.W.Frag) (ta : TE) (f : Str) : TE := fun σ H Q => ta σ H fun x H1 => ∃ a C dx fs v u, x = .ref a ∧ H1 a = some (.ins C dx fs) ∧ Cls K C ∧ Con K C f v u ∧ fs.lookup f = none ∧ Q v H1
def sFld (K : PySem.W.Frag) (ta tv : TE) (f : Str) : TS := fun D σ H => tv σ H fun y H1 => ta σ H1 fun x H2 => ∃ a C dx fs, x = .ref a ∧ H2 a = some (.ins C dx fs) ∧ Cls K C ∧ NoAttr K C f ∧ fs.length < 1000 ∧
  D.nx σ (upd H2 a (.ins C dx (putF f y fs)))
def sFldAug (K : PySem.W.Frag) (ta tv : TE) (rd : V → V → Hp → VK → Prop) (f : Str) : TS := fun D σ H => ta σ H fun x H1 => ∃ a C dx fs v, x = .ref a ∧ H1 a = some (.ins C dx fs) ∧ Cls K C ∧ NoAttr K C f ∧ fs.lookup f = some v ∧
  tv σ H1 fun y H2 => rd v y H2 fun z H3 => ∃ dx' fs', H3 a = some (.ins C dx' fs') ∧ fs'.length < 1000 ∧ D.nx σ (upd H3 a (.ins C dx' (putF f z fs')))
section
variable {X : Cx} {o e value : Expr} {f : Str} {pos pos' tpos : Pos} {ta tv : TE}
theorem pe_fld (he : PE X e ta) (hb : attributeBase e f X.env (eval e X.env) = eval e X.env) : PE X (.Attribute e f pos) (tFld X.K ta f) := by
  intro pins s σ H Q I h
  refine attr_of hb (thn (he pins s σ H _ I h) fun u s1 ⟨x, H1, I1, rx, a, C, dx, fs, v, ex, ea, c, n, l, q⟩ => ?_)
  subst ex
  obtain rfl : u = Value.ref a := rx
  exact getattr_ok I1 ea c n l fun u' s2 I2 ru => ⟨v, H1, I2, ru, q⟩
theorem ps_fld (ha : PE X o ta) (hv : PE X value tv) (hs : swapsWith value (some (.Attribute o f pos')) pos.line X.env = pure false) : PS X (.Assign [.Attribute o f pos'] value pos) (sFld X.K ta tv f) := by
  intro pins s σ H D I h
  refine plainObj_wpAny_Assign_Attribute (thn (hv pins s σ H _ I h) fun u s1 ⟨y, H1, I1, ry, q⟩ => thn (ha pins s1 σ H1 _ I1 q) fun ov s2 ⟨x, H2, I2, rx, a, C, dx, fs, ex, ea, c, n, l, q2⟩ => ?_) hs
  subst ex
  obtain rfl : ov = Value.ref a := rx
  exact setattr_ok I2 ea c n l ry fun s3 I3 => ⟨σ, _, I3, q2⟩
def rAdd : V → V → Hp → VK → Prop := fun x y H Q => ∃ i j, x = .int i ∧ y = .int j ∧ Q (.int (i + j)) H
def rSub : V → V → Hp → VK → Prop := fun x y H Q => ∃ i j, x = .int i ∧ y = .int j ∧ Q (.int (i - j)) H
end
section
variable {X : Cx} {pins : List (Addr × Obj)} {σ : St} {H : Hp} {s : Shared} {A : Around} {E : Value → Shared → Prop} {Q : Value → Shared → Prop} {c : Value} {b : Bool}
inductive TyOf (K : PySem.W.Frag) (H : Hp) : V → Value → Prop where
  | non : TyOf K H .non (.type "NoneType")
  | bl (x : Bool) : TyOf K H (.bl x) (.type "bool")
  | int (i : Int) : TyOf K H (.int i) (.type "int")
  | str (x : Str) : TyOf K H (.str x) (.type "str")
  | flt (x : UInt64) : TyOf K H (.flt x) (.type "float")
  | lst {a : Addr} {xs : List V} (e : H a = some (.lst xs)) : TyOf K H (.ref a) (.type "list")
  | frz {a : Addr} {o : Obj} {xs : List V} (e : H a = some (.frz o (.lst xs))) : TyOf K H (.ref a) (.type "list")
  | tup {a : Addr} {xs : List V} (e : H a = some (.tup xs)) : TyOf K H (.ref a) (.type "tuple")
  | dK {a : Addr} {kvs : List (Key × V)} (e : H a = some (.dK kvs)) : TyOf K H (.ref a) (.type "dict")
  | dT {a : Addr} {kvs : List (List Key × V)} (e : H a = some (.dT kvs)) : TyOf K H (.ref a) (.type "dict")
  | ins {a C dx : Addr} {fs : List (Str × V)} (e : H a = some (.ins C dx fs)) (cl : Cls K C) (ha : PySem.W.findIn K (.ref C) "__class__" = some (some (.builtin "object.__class__")))
      (hn : PySem.W.specialIn K (.builtin "object.__class__") "__get__" = some (some (.builtin "getset_descriptor.__get__"))) (htk : PySem.W.takesIn K (.builtin "object.__class__") = some true)
      (hm : PySem.W.mroIn K C (.type "object") = some true) : TyOf K H (.ref a) (.ref C)
theorem isinst_ok {x : V} {u t : Value} (I : Inv X pins σ H s) (rx : RelV x u) (ty : TyOf X.K H x t) (e : PySem.W.kitOne X.K t c = some b) (h : ∀ tk, Q (.bool b) { s with toks := tk }) :
    wpAny (model X.prog X.w) A (call (.builtin "isinstance") [u, c]) Q E s := by
  cases ty with
  | non => cases (show u = Value.none from rx); exact PySem.W.kia_one PySem.W.kitx_none I.kIn True.intro e (fun z => nomatch z) h
  | bl y => cases (show u = Value.bool y from rx); exact PySem.W.kia_one PySem.W.kitx_bool I.kIn True.intro e (fun z => nomatch z) h
  | int i => obtain ⟨t, q⟩ := (show ∃ t, u = Value.int i t from rx); cases q; exact PySem.W.kia_one PySem.W.kitx_int I.kIn True.intro e (fun z => nomatch z) h
  | str y => obtain ⟨t, q⟩ := (show ∃ t, u = Value.str y t from rx); cases q; exact PySem.W.kia_one PySem.W.kitx_str I.kIn True.intro e (fun z => nomatch z) h
  | flt y => obtain ⟨t, q⟩ := (show ∃ t, u = Value.float y t from rx); cases q; exact PySem.W.kia_one PySem.W.kitx_float I.kIn True.intro e (fun z => nomatch z) h
  | @lst a xs ea =>
    cases (show u = Value.ref a from rx)
    obtain ⟨_, _, n, _, h1⟩ := (show ObjOk X.prog X.w H s.heap a (.lst xs) from I.hok a _ ea)
    exact PySem.W.kia_one PySem.W.kitx_list I.kIn ⟨_, h1, rfl⟩ e (fun z => nomatch z) h
  | @frz a ob xs ea =>
    cases (show u = Value.ref a from rx)
    obtain ⟨_, _, _, n, _, h1⟩ := (show ObjOk X.prog X.w H s.heap a (.frz ob (.lst xs)) from I.hok a _ ea)
    exact PySem.W.kia_one PySem.W.kitx_list I.kIn ⟨_, h1, rfl⟩ e (fun z => nomatch z) h
  | @tup a xs ea =>
    cases (show u = Value.ref a from rx)
    obtain ⟨_, _, _, p⟩ := (show ObjOk X.prog X.w H s.heap a (.tup xs) from I.hok a _ ea)
    obtain ⟨o, h1, h2, _⟩ := p
    exact PySem.W.kia_one PySem.W.kitx_tuple I.kIn ⟨o, h1, h2⟩ e (fun z => nomatch z) h
  | @dK a kvs ea =>
    cases (show u = Value.ref a from rx)
    obtain ⟨_, _, vs, _, p⟩ := (show ObjOk X.prog X.w H s.heap a (.dK kvs) from I.hok a _ ea)
    obtain ⟨o, es, ep, h1, h2, _⟩ := p
    exact PySem.W.kia_one PySem.W.kitx_dict I.kIn ⟨o, h1, h2.1⟩ e (fun z => nomatch z) h
  | @dT a kvs ea =>
    cases (show u = Value.ref a from rx)
    obtain ⟨_, _, xs, _, o, es, ep, h1, h2, _⟩ := (show ObjOk X.prog X.w H s.heap a (.dT kvs) from I.hok a _ ea)
    exact PySem.W.kia_one PySem.W.kitx_dict I.kIn ⟨o, h1, h2.1⟩ e (fun z => nomatch z) h
  | @ins a C dx fs ea cl ha hn htk hm =>
    cases (show u = Value.ref a from rx)
    obtain ⟨mA, O, _⟩ := ins_get I.hok ea
    obtain ⟨od, J, _⟩ := O.look
    exact PySem.W.kia_one (PySem.W.kitx_own (cl.get _) cl.hd ha hn htk hm) I.kIn J e (fun z => nomatch z) h
end
end L2
namespace L2
open PySem PySem.Spec PyProof.Rows
structure Room (k : Nat) (A : Around) : Prop where
  hd : A.handled = none
  dp : A.depth + 3 * k + 5 < recursionLimit
  un : A.units + 16 * k + 200 < cLine
theorem Room.mono {j k : Nat} {A : Around} (r : Room k A) (h : j ≤ k) : Room j A := ⟨r.hd, by have := r.dp; omega, by have := r.un; omega⟩
theorem Room.deeper {k : Nat} {A : Around} (r : Room (k + 1) A) (env : Env) : Room k (A.deeper env) :=
  ⟨r.hd, by have := r.dp; show A.depth + 1 + 3 * k + 5 < _; omega, by have := r.un; show A.units + 3 + 16 * k + 200 < _; omega⟩
theorem Room.in1 {k : Nat} {A : Around} (r : Room (k + 1) A) : Room k A.in1 :=
  ⟨r.hd, by have := r.dp; show A.depth + 3 * k + 5 < _; omega, by have := r.un; show A.units + 1 + 16 * k + 200 < _; omega⟩
theorem make_depth {A : Around} {C : Addr} {us : List Value} {kw : List (Str × Value)} : (A.under (.builtin "type.__call__" ⟨.ref C :: us, kw⟩)).depth = A.depth + 1 := by
  first | rfl | simp [Around.under, Code.weight, Code.isCreation, Code.isGuard, Code.isCaller, Code.frames, Code.isFrame, guardIds]
theorem make_units {A : Around} {C : Addr} {us : List Value} {kw : List (Str × Value)} : (A.under (.builtin "type.__call__" ⟨.ref C :: us, kw⟩)).units = A.units + 1 := by
  first | rfl | simp [Around.under, Code.cUnits, Code.frames, Code.isFrame]
theorem Room.make {k : Nat} {A : Around} (r : Room (k + 1) A) (C : Addr) (us : List Value) (kw : List (Str × Value)) : Room k (A.under (.builtin "type.__call__" ⟨.ref C :: us, kw⟩)) :=
  ⟨r.hd, by have := r.dp; rw [make_depth]; omega, by have := r.un; rw [make_units]; omega⟩
theorem Room.depth {k : Nat} {A : Around} (r : Room k A) : A.depth < recursionLimit := by have := r.dp; omega
theorem Room.units {k : Nat} {A : Around} (r : Room k A) : A.units + 64 < cLine := by have := r.un; omega
def tNil : TA := fun _ H Q => Q [] H
def tCons (ta : TE) (tr : TA) : TA := fun σ H Q => ta σ H fun x H1 => tr σ H1 fun xs H2 => Q (x :: xs) H2
section
variable {X : Cx} {e : Expr} {es : List Expr} {te : TE} {t : TA} {pos : Pos}
theorem pa_nil : PA X [] tNil := fun _ _ _ _ H Q I h => Calls.spliced_nil ⟨[], H, I, .nil, h⟩
theorem pa_cons (ha : PE X e te) (hr : PA X es t) (hs : starEach (e :: es) X.env = (false, eval e X.env) :: starEach es X.env := by rfl) : PA X (e :: es) (tCons te t) := by
  intro pos pins s σ H Q I h
  rw [hs]
  show wpAny _ _ (spliced ((false, eval e X.env) :: backTo pos (starEach es X.env))) _ _ s
  refine Calls.spliced_cons (thn (ha pins s σ H _ I h) fun u s1 ⟨x, H1, I1, r1, q1⟩ => ?_)
  exact thn (hr pos pins s1 σ H1 _ I1 q1) fun us s2 ⟨xs, H2, I2, r2, q2⟩ => ⟨x :: xs, H2, I2, .cons r1 r2, q2⟩
def tTup (t : TA) : TE := fun σ H Q => t σ H fun xs H1 => xs.length ≤ sizeLine ∧ ∀ p, H1 p = none → Q (.ref p) (upd H1 p (.tup xs))
def tLst (t : TA) : TE := fun σ H Q => t σ H fun xs H1 => xs.length ≤ sizeLine ∧ ∀ p, H1 p = none → Q (.ref p) (upd H1 p (.lst xs))
theorem pe_tup {x1} (h : PA X es t) : PE X (.Tuple es x1 pos) (tTup t) := by
  intro pins s σ H Q I hq
  refine wpAny_Tuple_spliced (thn (h pos pins s σ H _ I hq) fun us s1 ⟨xs, H1, I1, r, z, q⟩ => ⟨by rw [← r.length]; exact z, ?_⟩)
  have hf : H1 s1.heap.objs.size = none := I1.hok.fresh (Nat.le_refl _)
  refine ⟨.ref s1.heap.objs.size, upd H1 s1.heap.objs.size (.tup xs), I1.laid (t' := s1.toks) (fun b u e => Heap.get?_push_of_some _ e) (Nat.le_refl _) ?_, rfl, q _ hf⟩
  exact ⟨z, us, r, ⟨_, Heap.get?_push_size _ rfl, rfl, _, rfl⟩⟩
theorem pe_lst (h : PA X es t) : PE X (.List es pos) (tLst t) := by
  intro pins s σ H Q I hq
  refine wpAny_List_spliced (thn (h pos pins s σ H _ I hq) fun us s1 ⟨xs, H1, I1, r, z, q⟩ => ⟨by rw [← r.length]; exact z, ?_⟩)
  have hf : H1 s1.heap.objs.size = none := I1.hok.fresh (Nat.le_refl _)
  refine ⟨.ref s1.heap.objs.size, upd H1 s1.heap.objs.size (.lst xs), I1.laid (t' := s1.toks) (fun b u e => Heap.get?_push_of_some _ e) (Nat.le_refl _) ?_, rfl, q _ hf⟩
  exact ⟨z, us, 0, r, Heap.get?_push_size _ rfl⟩
end
abbrev Sp := List V → Hp → VK → XK → Prop
abbrev CXT := List Env → Hp → Shared → XK → Value → Shared → Prop
structure Env0 (P : Program) (w : World) (K : PySem.W.Frag) (mg : Str → Option Value) (base : Heap) (A : Around) (outer : List Env) (s : Shared) (H : Hp) : Prop where
  frames : A.frames = some outer
  mod : Mod K mg base
  bs : ∀ b o, base.get? b = some o → s.heap.get? b = some o ∧ H b = none
  bsz : base.objs.size ≤ s.heap.objs.size
  funs : s.heap.FunFrames base outer
  frf : ∀ b ∈ frs outer, H b = none
  hok : HOk P w H s.heap
  bare : AllBare s.gens
def CE (outer : List Env) (P : Program) (w : World) (H : Hp) (s : Shared) (Q : VK) (u : Value) (s' : Shared) : Prop :=
  ∃ v H', s'.os = s.os ∧ AllBare s'.gens ∧ Un (frs outer) [] H H' s.heap s'.heap ∧ HOk P w H' s'.heap ∧ RelV v u ∧ Q v H'
def CR (CX : CXT) (outer : List Env) (P : Program) (w : World) (H : Hp) (s : Shared) (Q : VK) (E : XK) (r : Result) (s' : Shared) : Prop :=
  match r with
  | .ok (.ret u) => CE outer P w H s Q u s'
  | .ok _ => False
  | .error e => CX outer H s E e s'
structure FnOk (P : Program) (w : World) (K : PySem.W.Frag) (mg : Str → Option Value) (base : Heap) (CX : CXT) (k : Nat) (f : Addr) (fd : FuncData) (ps : List Str) (sp : Sp) : Prop where
  len : ∀ vs H Q E, sp vs H Q E → vs.length = ps.length
  run : ∀ (A : Around) (outer : List Env) (s : Shared) (H : Hp) (args : Args) (us : List Value) (vs : List V) (Q : VK) (E : XK), Room k A → Env0 P w K mg base A outer s H → BindsTo s fd args (ps.zip us) → Vals vs us → sp vs H Q E →
    codeAny (model P w) A (.call (.ref f) args) (CR CX outer P w H s Q E) s
theorem FnOk.mono {P : Program} {w : World} {K : PySem.W.Frag} {mg : Str → Option Value} {base : Heap} {CX : CXT} {j k : Nat} {f : Addr} {fd : FuncData} {ps : List Str} {sp : Sp} (F : FnOk P w K mg base CX j f fd ps sp) (h : j ≤ k) :
    FnOk P w K mg base CX k f fd ps sp := ⟨F.len, fun A outer s H args us vs Q E hr => F.run A outer s H args us vs Q E (hr.mono h)⟩
theorem FnOk.imp {P : Program} {w : World} {K : PySem.W.Frag} {mg : Str → Option Value} {base : Heap} {CX : CXT} {k : Nat} {f : Addr} {fd : FuncData} {ps : List Str} {sp sp' : Sp} (F : FnOk P w K mg base CX k f fd ps sp)
    (h : ∀ vs H Q E, sp' vs H Q E → sp vs H Q E) : FnOk P w K mg base CX k f fd ps sp' :=
  ⟨fun vs H Q E q => F.len vs H Q E (h _ _ _ _ q), fun A outer s H args us vs Q E hr he hb hv hs => F.run A outer s H args us vs Q E hr he hb hv (h _ _ _ _ hs)⟩
theorem Env0.make {P : Program} {w : World} {K : PySem.W.Frag} {mg : Str → Option Value} {base : Heap} {A : Around} {outer : List Env} {s : Shared} {H : Hp} (e : Env0 P w K mg base A outer s H) (C : Addr) (us : List Value) (kw : List (Str × Value)) :
    Env0 P w K mg base (A.under (.builtin "type.__call__" ⟨.ref C :: us, kw⟩)) outer s H := ⟨by first | exact e.frames | (simpa [Around.under, Code.envs, Code.isFrame, pushEnvs] using e.frames), e.mod, e.bs, e.bsz, e.funs, e.frf, e.hok, e.bare⟩
theorem Env0.in1 {P : Program} {w : World} {K : PySem.W.Frag} {mg : Str → Option Value} {base : Heap} {A : Around} {outer : List Env} {s : Shared} {H : Hp} (e : Env0 P w K mg base A outer s H) :
    Env0 P w K mg base A.in1 outer s H := ⟨e.frames, e.mod, e.bs, e.bsz, e.funs, e.frf, e.hok, e.bare⟩
section
variable {X : Cx} {pins : List (Addr × Obj)} {σ : St} {H : Hp} {s s' : Shared}
theorem Inv.env0 (I : Inv X pins σ H s) : Env0 X.prog X.w X.K X.mg X.base X.A X.stack s H :=
  ⟨I.ok.frames, I.ok.mod, I.bs, Nat.le_trans I.ok.bsz I.sz, I.stack, I.stkFree, I.hok, I.bare⟩
theorem Inv.after {Q : VK} {u : Value} (I : Inv X pins σ H s) (h : CE X.stack X.prog X.w H s Q u s') : EP X pins σ Q u s' := by
  obtain ⟨v, H', os, bare, un, hok, r, q⟩ := h
  obtain ⟨hh, g, d, t, os'⟩ := s'
  obtain rfl : os' = s.os := os
  exact ⟨v, H', I.call (h' := hh) (g' := g) (d' := d) (t' := t) (ch := []) un hok bare (fun b z => absurd z (by simp)), r, q⟩
end
def tCall (sp : Sp) (dvs : List V) (E : XK) (t : TA) : TE := fun σ H Q => t σ H fun vs H1 => sp (vs ++ dvs) H1 Q E
def tMeth (C : Addr) (m : Str) (sp : Sp) (dvs : List V) (E : XK) (ta : TE) (t : TA) : TE := fun σ H Q => ta σ H fun x H1 => ∃ a dx fs, x = .ref a ∧ H1 a = some (.ins C dx fs) ∧ fs.lookup m = none ∧
  t σ H1 fun vs H2 => sp (x :: (vs ++ dvs)) H2 Q E
def tMake (C : Addr) (sp : Sp) (dvs : List V) (E : XK) (t : TA) : TE := fun σ H Q => t σ H fun vs H1 => ∀ x dx, H1 x = none → H1 dx = none → dx ≠ x →
  sp (.ref x :: (vs ++ dvs)) (upd (upd H1 dx (.own x)) x (.ins C dx [])) (fun v H2 => v = .non ∧ Q (.ref x) H2) E
def Binds (K : PySem.W.Frag) (fd : FuncData) (ps : List Str) (ds : List Value) : Prop :=
  ∀ (s : Shared) (us : List Value), K.In s.heap → (us ++ ds).length = ps.length → BindsTo s fd ⟨us, []⟩ (ps.zip (us ++ ds))
theorem Binds.all {K : PySem.W.Frag} {fd : FuncData} {ps : List Str} (h : ∀ us : List Value, us.length = ps.length → bindArgs fd ⟨us, []⟩ = pure (ps.zip us)) : Binds K fd ps [] := fun s us _ hl => by
  rw [List.append_nil] at hl ⊢
  exact .of_eq (h us hl)
def Passes (CX : CXT) (X : Cx) (E : XK) : Prop := ∀ (pins : List (Addr × Obj)) (σ : St) (H : Hp) (s : Shared) (e : Value) (s' : Shared), Inv X pins σ H s → CX X.stack H s E e s' → X.xe e s'
section
variable {X : Cx} {CX : CXT} {k : Nat} {f C : Addr} {fd : FuncData} {ps : List Str} {sp : Sp} {dvs : List V} {ds : List Value} {E : XK} {x m : Str} {p pos apos : Pos} {e o : Expr} {es : List Expr} {ta : TE} {t : TA}
theorem run_fn {pins : List (Addr × Obj)} {σ : St} {H : Hp} {s : Shared} {Q : VK} {us : List Value} {vs : List V} (F : FnOk X.prog X.w X.K X.mg X.base CX k f fd ps sp) (hr : Room k X.A) (hb : Binds X.K fd ps ds) (hd : Vals dvs ds) (hx : Passes CX X E)
    (I : Inv X pins σ H s) (r : Vals vs us) (h : sp (vs ++ dvs) H Q E) : wpAny (model X.prog X.w) X.A (call (.ref f) us) (EP X pins σ Q) X.xe s := by
  have r2 : Vals (vs ++ dvs) (us ++ ds) := r.append hd
  have hl : (us ++ ds).length = ps.length := by rw [← r2.length]; exact F.len _ _ _ _ h
  refine wpAny_call (codeAny_mono (F.run X.A X.stack s H ⟨us, []⟩ (us ++ ds) (vs ++ dvs) Q E hr I.env0 (hb s us I.kIn hl) r2 h) fun r s' hq => ?_)
  cases r with
  | error e => exact hx pins σ H s e s' I hq
  | ok fl =>
    cases fl with
    | ret u => exact I.after hq
    | next => exact False.elim hq
    | brk => exact False.elim hq
    | cont => exact False.elim hq
theorem pe_call (F : FnOk X.prog X.w X.K X.mg X.base CX k f fd ps sp) (hr : Room k X.A) (hg : Gl X x) (hm : X.mg x = some (.ref f)) (hk : PySem.W.keepIn X.K (.ref f) = true) (hb : Binds X.K fd ps ds) (hd : Vals dvs ds) (hx : Passes CX X E)
    (ha : PA X (e :: es) t) (hdb : (x == ("__debug__" : Str)) = false := by decide) (he : starEach (e :: es) X.env = (false, eval e X.env) :: starEach es X.env := by rfl) (hpl : (backTo pos (starEach es X.env)).any (·.1) = false := by rfl) :
    PE X (.Call (.Name x p) (e :: es) [] pos) (tCall sp dvs E t) := by
  intro pins s σ H Q I h
  refine wpAny_Call_Name_kw (ld_glob I hg hm ?_ hdb)
  refine PySem.W.callWith_K (h₀ := X.base) I.ok.mod.kin hk (thn (ha pos pins s σ H _ I h) fun us s1 ⟨vs, H1, I1, r, q⟩ => ⟨I1.kIn, ?_⟩) he hpl
  exact run_fn F hr hb hd hx I1 r q
structure Mk (K : PySem.W.Frag) (C f : Addr) : Prop where
  makes : PySem.W.makesIn K C = true
  init : PySem.W.findIn K (.ref C) "__init__" = some (some (.ref f))
  fn : PySem.W.isFn K (.ref f) = true
  kp : PySem.W.keepIn K (.ref C) = true
theorem run_make {pins : List (Addr × Obj)} {σ : St} {H : Hp} {s : Shared} {Q : VK} {us : List Value} {vs : List V} (M : Mk X.K C f) (F : FnOk X.prog X.w X.K X.mg X.base CX k f fd ps sp) (hr : Room (k + 1) X.A) (hb : Binds X.K fd ps ds) (hd : Vals dvs ds)
    (hx : Passes CX X E) (I : Inv X pins σ H s) (r : Vals vs us)
    (h : ∀ x dx, H x = none → H dx = none → dx ≠ x → sp (.ref x :: (vs ++ dvs)) (upd (upd H dx (.own x)) x (.ins C dx [])) (fun v H2 => v = .non ∧ Q (.ref x) H2) E) :
    wpAny (model X.prog X.w) X.A (call (.ref C) us) (EP X pins σ Q) X.xe s := by
  have hq := h (s.heap.objs.size + 1) s.heap.objs.size (I.hok.fresh (Nat.le_succ _)) (I.hok.fresh (Nat.le_refl _)) (Nat.ne_of_lt (Nat.lt_succ_self _))
  have I2 := Inv.made (C := C) I
  have r2 : Vals (V.ref (s.heap.objs.size + 1) :: (vs ++ dvs)) (Value.ref (s.heap.objs.size + 1) :: (us ++ ds)) := .cons rfl (r.append hd)
  have hl : (Value.ref (s.heap.objs.size + 1) :: us ++ ds).length = ps.length := by
    have e := r2.length
    rw [F.len _ _ _ _ hq] at e
    exact e.symm
  refine wpAny_call (make_map (f := f) I.kIn M.makes M.init (beq_iff_eq.mp M.fn) (codeAny_mono (F.run _ X.stack _ _ ⟨Value.ref (s.heap.objs.size + 1) :: us, []⟩ (Value.ref (s.heap.objs.size + 1) :: (us ++ ds)) _ _ E (hr.make C us [])
    (I2.env0.make C us []) (hb _ (Value.ref (s.heap.objs.size + 1) :: us) I2.kIn hl) r2 hq) fun r s' hq' => ?_))
  cases r with
  | error e => exact hx pins σ _ _ e s' I2 hq'
  | ok fl =>
    cases fl with
    | ret u =>
      obtain ⟨v, H', I3, rv, ev, q3⟩ := I2.after hq'
      subst ev
      exact ⟨rv, ⟨V.ref (s.heap.objs.size + 1), H', I3, rfl, q3⟩⟩
    | next => exact False.elim hq'
    | brk => exact False.elim hq'
    | cont => exact False.elim hq'
theorem pe_make (M : Mk X.K C f) (F : FnOk X.prog X.w X.K X.mg X.base CX k f fd ps sp) (hr : Room (k + 1) X.A) (hg : Gl X x) (hm : X.mg x = some (.ref C)) (hb : Binds X.K fd ps ds) (hd : Vals dvs ds) (hx : Passes CX X E)
    (ha : PA X (e :: es) t) (hdb : (x == ("__debug__" : Str)) = false := by decide) (he : starEach (e :: es) X.env = (false, eval e X.env) :: starEach es X.env := by rfl) (hpl : (backTo pos (starEach es X.env)).any (·.1) = false := by rfl) :
    PE X (.Call (.Name x p) (e :: es) [] pos) (tMake C sp dvs E t) := by
  intro pins s σ H Q I h
  refine wpAny_Call_Name_kw (ld_glob I hg hm ?_ hdb)
  refine PySem.W.callWith_K (h₀ := X.base) I.ok.mod.kin M.kp (thn (ha pos pins s σ H _ I h) fun us s1 ⟨vs, H1, I1, r, q⟩ => ⟨I1.kIn, ?_⟩) he hpl
  exact run_make M F hr hb hd hx I1 r q
end
section
variable {X : Cx} {CX : CXT} {k : Nat} {f C : Addr} {fd : FuncData} {ps ks : List Str} {sp : Sp} {E : XK} {x m : Str} {p pos apos kpos : Pos} {e o : Expr} {es : List Expr} {kws : List Keyword} {te ta : TE} {t tk : TA} {nm : Option Str}
structure KBinds (K : PySem.W.Frag) (fd : FuncData) (ps ks : List Str) (g : List Value → List Value → List Value) (gV : List V → List V → List V) : Prop where
  to : ∀ (s : Shared) (us ws : List Value), K.In s.heap → (g us ws).length = ps.length → BindsTo s fd ⟨us, ks.zip ws⟩ (ps.zip (g us ws))
  rel : ∀ {vs : List V} {us : List Value} {zs : List V} {ws : List Value}, Vals vs us → Vals zs ws → Vals (gV vs zs) (g us ws)
def tCallK (sp : Sp) (gV : List V → List V → List V) (E : XK) (t tk : TA) : TE := fun σ H Q => t σ H fun vs H1 => tk σ H1 fun zs H2 => sp (gV vs zs) H2 Q E
variable {g : List Value → List Value → List Value} {gV : List V → List V → List V}
end
structure FnScope (N P : List Str) (sc : Scope) : Prop where
  kind : sc.kind = .function
  co : sc.isCoroutine = false
  gen : sc.isGenerator = false
  nd : N.Nodup
  pre : N.take P.length = P
  par : ∀ x ∈ P, sc.names.lookup x = some .local ∨ sc.names.lookup x = some .cell
  nofree : ∀ y ∈ sc.names, y.2 ≠ .free
theorem bindL_out {kindOf : Str → Option NameKind} {x : Str} : ∀ {binds : List (Str × Value)} {m : Str → Option Value}, (∀ v, (x, v) ∉ binds) → bindL kindOf binds m x = m x
  | [], _, _ => rfl
  | (n, v) :: r, m, h => by
    unfold bindL
    rw [bindL_out fun w hw => h w (List.mem_cons_of_mem _ hw)]
    split
    · have : x ≠ n := by rintro rfl; exact h v List.mem_cons_self
      simp [this]
    · rfl
theorem bindC_out {kindOf : Str → Option NameKind} {x : Str} : ∀ {binds : List (Str × Value)} {m : Str → Option Value}, (∀ v, (x, v) ∉ binds) → bindC kindOf binds m x = m x
  | [], _, _ => rfl
  | (n, v) :: r, m, h => by
    unfold bindC
    rw [bindC_out fun w hw => h w (List.mem_cons_of_mem _ hw)]
    split
    · rfl
    · have : x ≠ n := by rintro rfl; exact h v List.mem_cons_self
      simp [this]
theorem bindL_get {kindOf : Str → Option NameKind} {x : Str} {v : Value} : ∀ {P : List Str} {vs : List Value} {i : Nat} {m : Str → Option Value}, P.Nodup → P[i]? = some x → vs[i]? = some v → kindOf x = some .local →
    bindL kindOf (P.zip vs) m x = some v
  | [], _, _, _, _, h, _, _ => by simp at h
  | _ :: _, [], _, _, _, _, h, _ => by simp at h
  | p :: P, w :: vs, 0, m, nd, h1, h2, hk => by
    simp at h1 h2; subst h1; subst h2
    show bindL kindOf ((p, w) :: P.zip vs) m p = _
    unfold bindL
    rw [bindL_out fun v hv => (List.nodup_cons.mp nd).1 (List.of_mem_zip hv).1, if_pos hk]
    simp
  | p :: P, w :: vs, i + 1, m, nd, h1, h2, hk => by
    show bindL kindOf ((p, w) :: P.zip vs) m x = _
    unfold bindL
    exact bindL_get (i := i) (List.nodup_cons.mp nd).2 (by simpa using h1) (by simpa using h2) hk
theorem bindC_get {kindOf : Str → Option NameKind} {x : Str} {v : Value} : ∀ {P : List Str} {vs : List Value} {i : Nat} {m : Str → Option Value}, P.Nodup → P[i]? = some x → vs[i]? = some v → kindOf x ≠ some .local →
    bindC kindOf (P.zip vs) m x = some v
  | [], _, _, _, _, h, _, _ => by simp at h
  | _ :: _, [], _, _, _, _, h, _ => by simp at h
  | p :: P, w :: vs, 0, m, nd, h1, h2, hk => by
    simp at h1 h2; subst h1; subst h2
    show bindC kindOf ((p, w) :: P.zip vs) m p = _
    unfold bindC
    rw [bindC_out fun v hv => (List.nodup_cons.mp nd).1 (List.of_mem_zip hv).1, if_neg hk]
    simp
  | p :: P, w :: vs, i + 1, m, nd, h1, h2, hk => by
    show bindC kindOf ((p, w) :: P.zip vs) m x = _
    unfold bindC
    exact bindC_get (i := i) (List.nodup_cons.mp nd).2 (by simpa using h1) (by simpa using h2) hk
def start (N : List Str) (vs : List V) : St := vs.map some ++ List.replicate (N.length - vs.length) none
def cxOf (CX : CXT) (P : Program) (w : World) (K : PySem.W.Frag) (mg : Str → Option Value) (base : Heap) (N : List Str) (qual : Str) (scope : Scope) (f : Addr) (cd : Value) (A : Around) (outer : List Env) (s : Shared) (H : Hp) (E : XK) : Cx where
  prog := P
  w := w
  K := K
  mg := mg
  base := base
  A := A.deeper (envOfC qual scope s.heap.objs.size f cd)
  N := N
  s₀ := s
  H₀ := H
  env := envOfC qual scope s.heap.objs.size f cd
  outer := outer
  stack := envOfC qual scope s.heap.objs.size f cd :: outer
  ex := []
  calm := true
  fn := fun _ => true
  pn := []
  xe := fun e s' => wpAny (model P w) (A.deeper (envOfC qual scope s.heap.objs.size f cd)) (leaving (envOfC qual scope s.heap.objs.size f cd) e) (fun _ s'' => CX outer H s E e s'') (fun e' s'' => CX outer H s E e' s'') s'
theorem cell_has {sc : Scope} {n : Nat} {x : Str} (h : sc.names.lookup x = some .cell) : ∃ c, (cellsFrom n sc.names []).lookup x = some c := by
  have q := PySem.W.cellsFrom_some sc.names n [] (.inl h)
  exact Option.isSome_iff_exists.mp q
theorem inv_start {CX : CXT} {P : Program} {w : World} {K : PySem.W.Frag} {mg : Str → Option Value} {base : Heap} {N ps : List Str} {qual : Str} {scope : Scope} {f : Addr} {cd : Value} {A : Around} {outer : List Env} {s s1 : Shared} {H : Hp} {E : XK} {us : List Value} {vs : List V}
    (S : FnScope N ps scope) (hd : A.handled = none) (e0 : Env0 P w K mg base A outer s H) (hl : vs.length = ps.length) (r : Vals vs us)
    (x : InCallC s s.heap.objs.size (bindL (envOfC qual scope s.heap.objs.size f cd).kindOf (ps.zip us) fun _ => none) (cellsFrom (s.heap.objs.size + 1) scope.names []) (bindC (envOfC qual scope s.heap.objs.size f cd).kindOf (ps.zip us) fun _ => none) s1) :
    Inv (cxOf CX P w K mg base N qual scope f cd A outer s H E) [] (start N vs) H s1 := by
  have hpl : ps.length ≤ N.length := by have := congrArg List.length S.pre; rw [List.length_take] at this; omega
  obtain ⟨h1, tk, rfl, hk⟩ := x.done
  have noA : ∀ b : Addr, b ∉ (cxOf CX P w K mg base N qual scope f cd A outer s H E).ex := fun b z => absurd (show b ∈ ([] : List Addr) from z) (by simp)
  refine ⟨⟨e0.mod, S.kind, rfl, rfl, Nat.le_refl _, fun y z c h1 h2 => ?_, fun y hy => ?_, fun y c _ h => ?_, fun _ => hd, Around.frames_deeper e0.frames, .inr ⟨rfl, rfl⟩, fun b z => absurd z (noA b), e0.bs, e0.bsz, fun b _ _ => noA b, fun b z => absurd z (noA b), e0.funs, e0.frf⟩,
    rfl, e0.bare, Un.kept hk, ⟨_, x.toInCall.ns, fun i y v h1 h2 h3 => ?_⟩, fun y c h => ⟨_, x.cell y c h⟩, e0.hok.fresh (Nat.le_refl _), fun y c h => ?_, fun p hp => absurd (show p ∈ ([] : List (Addr × Obj)) from hp) (by simp), e0.hok.kept hk, ?_⟩
  · exact name_of_addr x.apart (PySem.mem_of_lookup h1) (PySem.mem_of_lookup h2)
  · have hy : scope.names.lookup y = some .cell ∨ scope.names.lookup y = some .free := hy
    rcases hy with hy | hy
    · exact cell_has hy
    · exact absurd rfl (S.nofree _ (PySem.mem_of_lookup hy))
  · exact Nat.le_of_lt (x.above y c (PySem.mem_of_lookup h))
  · have hi : i < vs.length := by
      unfold start at h2
      by_cases hi : i < vs.length
      · exact hi
      · rw [List.getElem?_append_right (by simpa using hi)] at h2
        rw [List.getElem?_replicate] at h2
        split at h2 <;> cases h2
    have ha : vs[i]? = some v := by
      unfold start at h2
      rw [List.getElem?_append_left (by simpa using hi), List.getElem?_map] at h2
      cases e : vs[i]? with
      | none => rw [e] at h2; cases h2
      | some a => rw [e] at h2; cases h2; rfl
    obtain ⟨u, hu, rv⟩ := r.get ha
    have hp : ps[i]? = some y := by
      rw [← S.pre, List.getElem?_take_of_lt (by omega)]; exact h1
    have ndP : ps.Nodup := by rw [← S.pre]; exact S.nd.sublist (List.take_sublist _ _)
    refine ⟨u, rv, ?_⟩
    rcases S.par y (List.mem_of_getElem? hp) with k | k
    · exact .inl ⟨k, bindL_get ndP hp hu k⟩
    · obtain ⟨c, e⟩ := cell_has (n := s.heap.objs.size + 1) k
      refine .inr ⟨.inl k, c, e, ?_⟩
      have q := x.cell y c e
      rw [bindC_get ndP hp hu (by show scope.names.lookup y ≠ _; rw [k]; decide)] at q
      exact q
  · exact e0.hok.fresh (Nat.le_of_lt (x.above y c (PySem.mem_of_lookup h)))
  · unfold start
    show _ = N.length
    rw [List.length_append, List.length_map, List.length_replicate]
    omega
theorem fn_of {CX : CXT} {P : Program} {w : World} {K : PySem.W.Frag} {mg : Str → Option Value} {base : Heap} {k : Nat} {f : Addr} {name qual : Str} {params : Arguments} {body : List Stmt} {scope : Scope} {dV kV doc pm cdv ct oc : Value} {an od : Option Addr}
    {osl : Array (Option Value)} {N ps : List Str} {sp : Sp} (lk : K.lookup f = some ⟨oc, od, .func (PySem.W.fnOf name qual params body scope dV kV doc pm an cdv ct), osl⟩) (hcd : PySem.W.codeIn K cdv qual = true) (S : FnScope N ps scope)
    (len : ∀ vs H Q E, sp vs H Q E → vs.length = ps.length)
    (hbody : ∀ (A : Around) (outer : List Env) (s : Shared) (H : Hp) (vs : List V) (Q : VK) (E : XK), Room k (A.deeper (envOfC qual scope s.heap.objs.size f cdv)) → sp vs H Q E →
      ∃ t, PSs (cxOf CX P w K mg base N qual scope f cdv A outer s H E) body t ∧ t { nx := fun _ H' => Q .non H', rt := Q } (start N vs) H) :
    FnOk P w K mg base CX (k + 1) f (PySem.W.fnOf name qual params body scope dV kV doc pm an cdv ct) ps sp := by
  refine ⟨len, fun A outer s H args us vs Q E hr e0 hb r hsp => ?_⟩
  have hl := len _ _ _ _ hsp
  have KX : K.In s.heap := e0.mod.kin.keeps fun b o e => (e0.bs b o e).1
  have lim : s.heap.NoLimit := e0.mod.nolimit.keeps fun b o e => (e0.bs b o e).1
  have hkind : ∀ y ∈ ps.zip us, scope.names.lookup y.1 = some .local ∨ (scope.names.lookup y.1 = some .cell ∧ ((cellsFrom (s.heap.objs.size + 1) scope.names []).lookup y.1).isSome = true) := fun ⟨n, v⟩ hy => by
    rcases S.par n (List.of_mem_zip hy).1 with q | q
    · exact .inl q
    · exact .inr ⟨q, PySem.W.cellsFrom_some _ _ _ (.inl q)⟩
  refine codeAny_call_function hr.depth (KX _ _ lk) rfl S.co S.gen rfl (PySem.W.codeRec_of KX hcd) (hb _ _ _ _ ?_)
  refine wpAny_newFunctionEnv_cells S.kind hkind fun env he s1 x => ?_
  subst he
  refine ⟨lim.keeps x.toInCall.keep, codeAny_func ?_⟩
  obtain ⟨t, ht, hq⟩ := hbody A outer s H vs Q E (hr.deeper _) hsp
  have I : Inv (cxOf CX P w K mg base N qual scope f cdv A outer s H E) [] (start N vs) H s1 := inv_start S hr.hd e0 hl r x
  refine wpAny_mono (ht [] s1 (start N vs) H _ I hq) (fun fl s' hs => ?_) fun e s' hs => hs
  have fin : ∀ {σ' : St} {H' : Hp} {v : V} {u : Value}, Inv (cxOf CX P w K mg base N qual scope f cdv A outer s H E) [] σ' H' s' → RelV v u → Q v H' → CE outer P w H s Q u s' :=
    fun {σ' H' v u} J rv q => ⟨v, H', J.os, J.bare, J.base, J.hok, rv, q⟩
  cases fl with
  | ret u =>
    obtain ⟨v, σ', H', J, rv, q⟩ := hs
    exact fin J rv q
  | next =>
    obtain ⟨σ', H', J, q⟩ := hs
    exact fin (v := V.non) (u := Value.none) J rfl q
  | brk =>
    obtain ⟨_, _, _, q⟩ := hs
    exact False.elim q
  | cont =>
    obtain ⟨_, _, _, q⟩ := hs
    exact False.elim q
end L2
namespace L2
open PySem PySem.Spec PyProof.Rows
section
variable {X : Cx} {x : Str} {p pos : Pos} {e : Expr} {es : List Expr} {t : TA} {id T : String} {r : List V → Hp → VK → Prop}
def tCB (r : List V → Hp → VK → Prop) (t : TA) : TE := fun σ H Q => t σ H fun vs H1 => r vs H1 Q
theorem pe_callB (hc : CallR X (.builtin id) r) (hg : Gl X x) (hm : X.mg x = none) (hv : bootBuiltins x = some (.builtin id)) (ha : PA X (e :: es) t) (hn : x ≠ "__name__" := by decide) (hdb : (x == ("__debug__" : Str)) = false := by decide)
    (he : starEach (e :: es) X.env = (false, eval e X.env) :: starEach es X.env := by rfl) (hpl : (backTo pos (starEach es X.env)).any (·.1) = false := by rfl) : PE X (.Call (.Name x p) (e :: es) [] pos) (tCB r t) := by
  intro pins s σ H Q I h
  refine wpAny_Call_Name_kw (ld_blt I hg hm hv ?_ hn hdb)
  exact PyProof.Rows.callWith_builtin1 (thn (ha pos pins s σ H _ I h) fun us s1 ⟨vs, H1, I1, r1, q1⟩ => hc pins s1 σ H1 vs us Q I1 r1 q1) he hpl
theorem pe_callTy (hc : CallR X (.type T) r) (hg : Gl X x) (hm : X.mg x = none) (hv : bootBuiltins x = some (.type T)) (ha : PA X (e :: es) t) (hn : x ≠ "__name__" := by decide) (hdb : (x == ("__debug__" : Str)) = false := by decide)
    (he : starEach (e :: es) X.env = (false, eval e X.env) :: starEach es X.env := by rfl) (hpl : (backTo pos (starEach es X.env)).any (·.1) = false := by rfl) : PE X (.Call (.Name x p) (e :: es) [] pos) (tCB r t) := by
  intro pins s σ H Q I h
  refine wpAny_Call_Name_kw (ld_blt I hg hm hv ?_ hn hdb)
  exact PyProof.Rows.callWith_type1 (thn (ha pos pins s σ H _ I h) fun us s1 ⟨vs, H1, I1, r1, q1⟩ => hc pins s1 σ H1 vs us Q I1 r1 q1) he hpl
end
end L2
namespace HT
open PySem PyProof.Rows
def lexLt : List Int → List Int → Bool
  | [], [] => false
  | [], _ :: _ => true
  | _ :: _, [] => false
  | x :: xs, y :: ys => if x = y then lexLt xs ys else decide (x < y)
section
open PySem.SeqAt
open PySem.AutoSeq1 (wpAny_loadPart')
open PySem.MeetsSeq PySem.MeetsSeq2 PySem.MeetsSeq3
end
section
variable {prog : Program} {w : World} {A : Around} {E : Value → Shared → Prop} {s : Shared}
def sIx (n d : Nat) : Option Int → Nat
  | none => d
  | some v => if v < 0 then (v + (n : Int)).toNat else min v.toNat n
end
end HT
namespace L2
open PySem PySem.Spec PyProof.Rows
abbrev TO := St → Hp → (Option Int → Hp → Prop) → Prop
def PO (X : Cx) (e : Option Expr) (t : TO) : Prop :=
  ∀ (pins : List (Addr × Obj)) (s : Shared) (σ : St) (H : Hp) (Q : Option Int → Hp → Prop), Inv X pins σ H s → t σ H Q →
    wpAny (model X.prog X.w) X.A (evalPart e X.env) (fun u s' => ∃ o H', Inv X pins σ H' s' ∧ IsPart u o ∧ Q o H') X.xe s
def tNoPart : TO := fun _ H Q => Q none H
def tPart (t : TE) : TO := fun σ H Q => t σ H fun x H1 => ∃ i, x = .int i ∧ Q (some i) H1
section
variable {X : Cx} {e : Expr} {te : TE} {lo hi : Option Expr} {tl th : TO} {pos p2 : Pos}
theorem po_none : PO X none tNoPart := by
  intro pins s σ H Q I h
  rw [evalPart_none]
  exact wpAny_pure ⟨none, H, I, .none, h⟩
theorem po_some (h : PE X e te) : PO X (some e) (tPart te) := by
  intro pins s σ H Q I hw
  rw [evalPart_some]
  refine thn (h pins s σ H _ I hw) fun u s1 ⟨x, H1, I1, r1, q1⟩ => ?_
  obtain ⟨i, rfl, q⟩ := q1
  obtain ⟨t, rfl⟩ := r1
  exact ⟨some i, H1, I1, .int i t, q⟩
def SlR (X : Cx) (r : V → Option Int → Option Int → Hp → VK → Prop) : Prop :=
  ∀ (pins : List (Addr × Obj)) (s : Shared) (σ : St) (H : Hp) (x : V) (v vl vu : Value) (lo hi : Option Int) (sl : Addr) (Q : VK), Inv X pins σ H s → RelV x v → s.heap.IsSliceOf sl vl vu .none → IsPart vl lo → IsPart vu hi → r x lo hi H Q →
    ∃ T id, typeLookup (.type T) "__getitem__" = pure (some (.builtin id)) ∧ s.TypeIs v T ∧ wpAny (model X.prog X.w) X.A (getItem v (.ref sl)) (EP X pins σ Q) X.xe s
def tSl (r : V → Option Int → Option Int → Hp → VK → Prop) (te : TE) (tl th : TO) : TE := fun σ H Q => te σ H fun x H1 => tl σ H1 fun l H2 => th σ H2 fun u H3 => r x l u H3 Q
theorem pe_slice {r : V → Option Int → Option Int → Hp → VK → Prop} (hr : SlR X r) (he : PE X e te) (hl : PO X lo tl) (hu : PO X hi th) : PE X (.Subscript e (.Slice lo hi none p2) pos) (tSl r te tl th) := by
  intro pins s σ H Q I h
  refine Subscript_ (thn (he pins s σ H _ I h) fun v s1 ⟨x, H1, I1, r1, q1⟩ => ?_)
  refine wpAny_Slice (thn (hl pins s1 σ H1 _ I1 q1) fun vl s2 ⟨l, H2, I2, pl, q2⟩ => thn (hu pins s2 σ H2 _ I2 q2) fun vu s3 ⟨u, H3, I3, pu, q3⟩ => ?_)
  rw [evalPart_none]
  refine wpAny_pure ?_
  have I4 : Inv X pins σ H3 { s3 with heap := s3.heap.push { cls := .type "slice", data := .fields #[vl, vu, .none] } } := I3.kept (t' := s3.toks) fun b ob q => Heap.get?_push_of_some _ q
  obtain ⟨T, id, hT, ht, hg⟩ := hr pins { s3 with heap := s3.heap.push { cls := .type "slice", data := .fields #[vl, vu, .none] } } σ H3 x v vl vu l u s3.heap.objs.size Q I4 r1 (Heap.IsSliceOf.new ..) pl pu q3
  show wpAny (model X.prog X.w) X.A (subscriptTail e (.Slice lo hi none p2) v (.ref s3.heap.objs.size)) (EP X pins σ Q) X.xe { s3 with heap := s3.heap.push { cls := .type "slice", data := .fields #[vl, vu, .none] } }
  exact tail_any (ops := [.ref s3.heap.objs.size, v]) ht hT hg (by with_unfolding_all rfl)
def cutV (xs : List V) (lo hi : Option Int) : List V := (xs.drop (HT.sIx xs.length 0 lo)).take (HT.sIx xs.length xs.length hi - HT.sIx xs.length 0 lo)
theorem cutV_length (xs : List V) (lo hi : Option Int) : (cutV xs lo hi).length ≤ xs.length := by
  unfold cutV
  rw [List.length_take, List.length_drop]
  omega
def rSlT (K : PySem.W.Frag) : V → Option Int → Option Int → Hp → VK → Prop := fun x lo hi H Q => ∃ a xs, x = .ref a ∧ SqT K H a xs ∧
  ¬ (HT.sIx xs.length 0 lo = 0 ∧ HT.sIx xs.length xs.length hi = xs.length) ∧ ∀ p, H p = none → Q (.ref p) (upd H p (.tup (cutV xs lo hi)))
def rLtT (K : PySem.W.Frag) : R2 := fun x y H Q => ∃ a b ns ms, x = .ref a ∧ y = .ref b ∧ SqT K H a (ns.map V.int) ∧ SqT K H b (ms.map V.int) ∧ Q (.bl (HT.lexLt ns ms)) H
def rCatT (K : PySem.W.Frag) : R2 := fun x y H Q => ∃ a b xs ys, x = .ref a ∧ y = .ref b ∧ SqT K H a xs ∧ SqT K H b ys ∧ xs ≠ [] ∧ xs.length + ys.length ≤ sizeLine ∧
  (ys = [] → Q (.ref a) H) ∧ (ys ≠ [] → ∀ p, H p = none → Q (.ref p) (upd H p (.tup (xs ++ ys))))
end
end L2
namespace L2
open PySem PySem.Spec PyProof.Rows
def ixN (n : Nat) (i : Int) : Option Nat := if 0 ≤ i then (if i < n then some i.toNat else none) else if -(n : Int) ≤ i then some (i + n).toNat else none
def atI {α : Type} (xs : List α) (i : Int) : Option α := (ixN xs.length i).bind fun j => xs[j]?
theorem ixN_seq {n : Nat} {i : Int} {j : Nat} (h : ixN n i = some j) : seqIndex? i n = some j ∧ j < n ∧ -(n : Int) ≤ i ∧ i < n := by
  unfold ixN at h
  by_cases h0 : 0 ≤ i
  · rw [if_pos h0] at h
    by_cases h1 : i < n
    · rw [if_pos h1] at h
      have e : i.toNat = j := Option.some.inj h
      exact ⟨by rw [seqIndex_of h0 h1, e], by omega, by omega, h1⟩
    · rw [if_neg h1] at h; cases h
  · rw [if_neg h0] at h
    by_cases h1 : -(n : Int) ≤ i
    · rw [if_pos h1] at h
      have e : (i + n).toNat = j := Option.some.inj h
      exact ⟨by rw [seqIndex_neg (by omega) h1, e], by omega, h1, by omega⟩
    · rw [if_neg h1] at h; cases h
theorem atI_get {α : Type} {xs : List α} {i : Int} {v : α} (h : atI xs i = some v) : ∃ j, seqIndex? i xs.length = some j ∧ xs[j]? = some v ∧ j < xs.length ∧ -(xs.length : Int) ≤ i ∧ i < xs.length := by
  unfold atI at h
  cases e : ixN xs.length i with
  | none => rw [e] at h; cases h
  | some j =>
    rw [e] at h
    obtain ⟨h1, h2, h3, h4⟩ := ixN_seq e
    exact ⟨j, h1, h, h2, h3, h4⟩
theorem atI_nat {α : Type} {xs : List α} {j : Nat} {v : α} (h : xs[j]? = some v) : atI xs (j : Int) = some v := by
  have hj : j < xs.length := (List.getElem?_eq_some_iff.mp h).1
  have e : ixN xs.length (j : Int) = some j := by
    unfold ixN
    rw [if_pos (by omega), if_pos (by omega)]; simp
  unfold atI; rw [e]; exact h
def PlainIx (b : Expr) : Prop := ∀ o i, subscripted b false o i = operate [o, i] (getItem o i)
def IxR (X : Cx) (r : R2) : Prop :=
  ∀ (value slice : Expr) (pins : List (Addr × Obj)) (s : Shared) (σ : St) (H : Hp) (x y : V) (v u : Value) (Q : VK), Inv X pins σ H s → RelV x v → RelV y u → r x y H Q →
    subscripted slice false v u = operate [v, u] (getItem v u) → wpAny (model X.prog X.w) X.A (subscriptTail value slice v u) (EP X pins σ Q) X.xe s
def MtR (X : Cx) (id : String) (r : V → List V → Hp → VK → Prop) : Prop :=
  ∀ (pins : List (Addr × Obj)) (s : Shared) (σ : St) (H : Hp) (x : V) (xs : List V) (v : Value) (us : List Value) (Q : VK), Inv X pins σ H s → RelV x v → Vals xs us → r x xs H Q →
    wpAny (model X.prog X.w) X.A (call (.builtin id) (v :: us)) (EP X pins σ Q) X.xe s
section
variable {X : Cx} {a b : Expr} {ta tb : TE} {pos : Pos}
theorem pe_ix {r : R2} (hr : IxR X r) (ha : PE X a ta) (hb : PE X b tb) (hs : PlainIx b) : PE X (.Subscript a b pos) (tOp r ta tb) := by
  intro pins s σ H Q I h
  exact Subscript_ (binT ha hb I h fun v u s2 x y H2 I2 rx ry q => hr a b pins s2 σ H2 x y v u Q I2 rx ry q (hs _ _))
def rIxL (K : PySem.W.Frag) : R2 := fun x y H Q => ∃ p xs i v, x = .ref p ∧ y = .int i ∧ SqL K H p xs ∧ atI xs i = some v ∧ Q v H
def rIxT (K : PySem.W.Frag) : R2 := fun x y H Q => ∃ p xs i v, x = .ref p ∧ y = .int i ∧ SqT K H p xs ∧ atI xs i = some v ∧ Q v H
def rIxS : R2 := fun x y H Q => ∃ z i c, x = .str z ∧ y = .int i ∧ z.length ≤ sizeLine ∧ atI z.cps.toList i = some c ∧ Q (.str ⟨#[c]⟩) H
theorem ix_list : IxR X (rIxL X.K) := by
  intro value slice pins s σ H x y v u Q I rx ry h hs
  obtain ⟨p, xs, i, z, rfl, rfl, hq, he, q⟩ := h
  cases rx
  obtain ⟨t, rfl⟩ := ry
  obtain ⟨its, r, pl, hz⟩ := I.list hq
  obtain ⟨j, h1, h2, h3, h4, h5⟩ := atI_get he
  obtain ⟨w, ew, rw'⟩ := r.get h2
  have hl := r.length
  have hn := line63
  have fin : EP X pins σ Q w s := ⟨z, H, I, rw', q⟩
  by_cases h0 : 0 ≤ i
  · have hj : i.toNat = j := by
      rw [seqIndex_of h0 h5] at h1
      exact Option.some.inj h1
    exact item_listR pl.isList h0 (by omega) (by rw [hj]; simpa using ew) fin hs
  · have hj : (i + (its.toArray.size : Int)).toNat = j := by
      rw [seqIndex_neg (by omega) h4] at h1
      rw [List.size_toArray, ← hl]
      exact Option.some.inj h1
    exact subscriptTail_builtinR (x := w) pl.isList.typeIs slot_list_getitem.lookup
      (wpAny_getItem_list_neg (Q := fun r s' => r = w ∧ EP X pins σ Q r s') pl.isList (by omega) (by rw [List.size_toArray] <;> omega) (by omega) (by rw [hj]; simpa using ew) ⟨rfl, fin⟩) hs
theorem ix_tup : IxR X (rIxT X.K) := by
  intro value slice pins s σ H x y v u Q I rx ry h hs
  obtain ⟨p, xs, i, z, rfl, rfl, hq, he, q⟩ := h
  cases rx
  obtain ⟨t, rfl⟩ := ry
  obtain ⟨its, r, pl, hz⟩ := I.tuple hq
  obtain ⟨j, h1, h2, h3, h4, h5⟩ := atI_get he
  obtain ⟨w, ew, rw'⟩ := r.get h2
  have hl := r.length
  have hn := line63
  have fin : EP X pins σ Q w s := ⟨z, H, I, rw', q⟩
  exact subscriptTail_builtinR (x := w) pl.typeIs slot_tuple_getitem.lookup
    (getItem_tuple (j := j) (Q := fun r s' => r = w ∧ EP X pins σ Q r s') pl (by omega) (by omega) (by rw [List.size_toArray, ← hl]; exact h1) (by simpa using ew) ⟨rfl, fin⟩) hs
def rIx (K : PySem.W.Frag) : R2 := fun x y H Q => rIxL K x y H Q ∨ rIxT K x y H Q ∨ rIxS x y H Q
theorem mapSeq_set (its : List Value) (n j : Nat) (u : Value) : Obj.mapSeq (·.setIfInBounds j u) { cls := .type "list", data := .seq its.toArray n } = { cls := .type "list", data := .seq (its.set j u).toArray n } := by
  simp [Obj.mapSeq]
theorem Inv.lst {pins : List (Addr × Obj)} {σ : St} {H : Hp} {s : Shared} {p : Addr} {xs : List V} (I : Inv X pins σ H s) (h : H p = some (.lst xs)) :
    ∃ (its : List Value) (n : Nat), Vals xs its ∧ s.heap.get? p = some { cls := .type "list", data := .seq its.toArray n } ∧ xs.length ≤ sizeLine := by
  obtain ⟨z, its, n, r, e⟩ := I.hok p _ h
  exact ⟨its, n, r, e, z⟩
theorem Inv.lstUpd {pins : List (Addr × Obj)} {σ : St} {H : Hp} {s : Shared} {p : Addr} {xs ys : List V} {its its' : List Value} {n n' : Nat} {f : Obj → Obj} (I : Inv X pins σ H s) (h : H p = some (.lst xs))
    (ho : s.heap.get? p = some { cls := .type "list", data := .seq its.toArray n }) (hf : f { cls := .type "list", data := .seq its.toArray n } = { cls := .type "list", data := .seq its'.toArray n' }) (r : Vals ys its') (hz : ys.length ≤ sizeLine) (t : Nat) :
    Inv X pins σ (upd H p (.lst ys)) { s with heap := s.heap.update p f, toks := t } := by
  have e : (s.heap.update p f).get? p = some { cls := .type "list", data := .seq its'.toArray n' } := by
    rw [Heap.get?_update_self f ho (by rw [hf] <;> rfl), hf]
  refine I.write (x := p) (e := p) (by rw [h]; trivial) (.inl rfl) (fun b u hb q => (Heap.get?_update_other _ _ (Ne.symm hb)).trans q) ⟨_, e⟩ ?_
  exact ⟨hz, its', n', r, e⟩
def rSetL : V → V → V → Hp → (Hp → Prop) → Prop := fun o i v H Q => ∃ p xs k j, o = .ref p ∧ i = .int k ∧ H p = some (.lst xs) ∧ ixN xs.length k = some j ∧ Q (upd H p (.lst (xs.set j v)))
theorem set_list : PSet X rSetL := by
  intro pins s σ H o i v ov iv u Q I ro ri rv h
  obtain ⟨p, xs, k, j, rfl, rfl, hp, hj, q⟩ := h
  cases ro
  obtain ⟨t, rfl⟩ := ri
  obtain ⟨its, n, r, ho, hz⟩ := I.lst hp
  obtain ⟨h1, h2, h3, h4⟩ := ixN_seq hj
  have hl := r.length
  have hn := line63
  have I' : Inv X pins σ (upd H p (.lst (xs.set j v))) { s with heap := s.heap.update p (Obj.mapSeq (·.setIfInBounds j u)) } :=
    I.lstUpd hp ho (mapSeq_set its n j u) (r.set rv j) (by rw [List.length_set]; exact hz) s.toks
  by_cases h0 : 0 ≤ k
  · have hk : k.toNat = j := by
      rw [seqIndex_of h0 h4] at h1
      exact Option.some.inj h1
    exact PySem.W.ki_setAt ho h0 (by omega) (by rw [List.size_toArray, ← hl]; exact h4) (by rw [hk]; exact ⟨_, I', q⟩)
  · have hk : (k + (its.toArray.size : Int)).toNat = j := by
      rw [seqIndex_neg (by omega) h3] at h1
      rw [List.size_toArray, ← hl]
      exact Option.some.inj h1
    exact PySem.W.ki_setBack ho (by omega) (by rw [List.size_toArray, ← hl]; exact h3) (by omega) (by rw [hk]; exact ⟨_, I', q⟩)
theorem slice_bounds (lo hi : Option Int) (n : Nat) : (sliceBounds lo hi none n).1 = ((HT.sIx n 0 lo : Nat) : Int) ∧ (sliceBounds lo hi none n).2.1 = ((HT.sIx n n hi : Nat) : Int) ∧ (sliceBounds lo hi none n).2.2 = 1 := by
  refine ⟨?_, ?_, rfl⟩
  · cases lo with
    | none => simp [sliceBounds, HT.sIx]
    | some i =>
      simp only [sliceBounds, HT.sIx, Option.getD_none, show (1 : Int) > 0 by decide, if_true]
      by_cases h : i < 0
      · simp only [h, if_true] <;> omega
      · simp only [h, if_false] <;> omega
  · cases hi with
    | none => simp [sliceBounds, HT.sIx]
    | some i =>
      simp only [sliceBounds, HT.sIx, Option.getD_none, show (1 : Int) > 0 by decide, if_true]
      by_cases h : i < 0
      · simp only [h, if_true] <;> omega
      · simp only [h, if_false] <;> omega
theorem slicePick_cut (its : List Value) (lo hi : Option Int) : slicePick its.toArray lo hi none = ((its.drop (HT.sIx its.length 0 lo)).take (HT.sIx its.length its.length hi - HT.sIx its.length 0 lo)).toArray := by
  obtain ⟨h1, h2, h3⟩ := slice_bounds lo hi its.toArray.size
  unfold slicePick
  rw [h1, h2, h3]
  simp only [sliceRange_one, pick_run, List.size_toArray] <;> rfl
def rSlL (K : PySem.W.Frag) : V → Option Int → Option Int → Hp → VK → Prop := fun x lo hi H Q => ∃ a xs, x = .ref a ∧ SqL K H a xs ∧ ∀ p, H p = none → Q (.ref p) (upd H p (.lst (cutV xs lo hi)))
theorem sl_list : SlR X (rSlL X.K) := by
  intro pins s σ H x v vl vu lo hi sl Q I rx hs pl pu h
  obtain ⟨a, xs, rfl, hx, q⟩ := h
  cases rx
  obtain ⟨its, r, ht, hz⟩ := I.list hx
  have hlen := r.length
  refine ⟨"list", _, slot_list_getitem.lookup, ht.isList.typeIs, ?_⟩
  refine wpAny_getItem_list_slice ht.isList hs pl pu .none (by simp) ?_ (by rw [List.size_toArray] <;> omega)
  rw [slicePick_cut, ← hlen]
  refine ⟨.ref s.heap.objs.size, _, I.laid (t' := s.toks) (o := .lst (cutV xs lo hi)) (fun b ob q => Heap.get?_push_of_some _ q) (Nat.le_refl _) ?_, rfl, q _ (I.hok.fresh (Nat.le_refl _))⟩
  exact ⟨Nat.le_trans (cutV_length xs lo hi) hz, _, 0, (r.drop (HT.sIx xs.length 0 lo)).take (HT.sIx xs.length xs.length hi - HT.sIx xs.length 0 lo), Heap.get?_push_size _ rfl⟩
def flatV : V → Bool
  | .non => true
  | .bl _ => true
  | .int _ => true
  | .str _ => true
  | _ => false
def eqV : V → V → Bool
  | .non, .non => true
  | .bl a, .bl b => a == b
  | .bl a, .int b => (if a then 1 else 0) == b
  | .int a, .bl b => a == (if b then 1 else 0)
  | .int a, .int b => a == b
  | .str a, .str b => a == b
  | _, _ => false
theorem eqAt_V {A : Around} {s : Shared} {y x : V} {u v : Value} (ry : RelV y u) (rx : RelV x v) (fy : flatV y = true) (fx : flatV x = true) : SeqAt.EqAt A s u v (eqV y x) := by
  cases y with
  | non =>
    cases ry
    cases x with
    | non => cases rx; exact SeqAt.EqAt.same _
    | bl b => cases rx; exact SeqAt.EqAt.none_bool b
    | int b => obtain ⟨t, rfl⟩ := rx; exact SeqAt.EqAt.none_int b t
    | str b => obtain ⟨t, rfl⟩ := rx; exact SeqAt.EqAt.none_str b t
    | _ => exact absurd (show false = true from fx) Bool.false_ne_true
  | bl a =>
    cases ry
    cases x with
    | non => cases rx; exact SeqAt.EqAt.bool_none a
    | bl b => cases rx; exact SeqAt.EqAt.bool_bool a b
    | int b => obtain ⟨t, rfl⟩ := rx; exact SeqAt.EqAt.bool_int a b t
    | str b => obtain ⟨t, rfl⟩ := rx; exact SeqAt.EqAt.bool_str a b t
    | _ => exact absurd (show false = true from fx) Bool.false_ne_true
  | int a =>
    obtain ⟨t', rfl⟩ := ry
    cases x with
    | non => cases rx; exact SeqAt.EqAt.int_none a t'
    | bl b => cases rx; exact SeqAt.EqAt.int_bool a t' b
    | int b => obtain ⟨t, rfl⟩ := rx; exact SeqAt.EqAt.int_int a t' b t
    | str b => obtain ⟨t, rfl⟩ := rx; exact SeqAt.EqAt.int_str a t' b t
    | _ => exact absurd (show false = true from fx) Bool.false_ne_true
  | str a =>
    obtain ⟨t', rfl⟩ := ry
    cases x with
    | non => cases rx; exact SeqAt.EqAt.str_none a t'
    | bl b => cases rx; exact SeqAt.EqAt.str_bool a t' b
    | int b => obtain ⟨t, rfl⟩ := rx; exact SeqAt.EqAt.str_int a t' b t
    | str b => obtain ⟨t, rfl⟩ := rx; exact SeqAt.EqAt.str_str a t' b t
    | _ => exact absurd (show false = true from fx) Bool.false_ne_true
  | _ => exact absurd (show false = true from fy) Bool.false_ne_true
def eqU (x : V) (u : Value) : Bool := match u with
  | .none => eqV .non x
  | .bool b => eqV (.bl b) x
  | .int i _ => eqV (.int i) x
  | .str z _ => eqV (.str z) x
  | _ => false
theorem eqU_of {x y : V} {u : Value} (r : RelV y u) (f : flatV y = true) : eqU x u = eqV y x := by
  cases y with
  | non => cases r; rfl
  | bl b => cases r; rfl
  | int i => obtain ⟨t, rfl⟩ := r; rfl
  | str z => obtain ⟨t, rfl⟩ := r; rfl
  | _ => exact absurd (show false = true from f) Bool.false_ne_true
theorem any_eqU {x : V} : ∀ {xs : List V} {us : List Value}, Vals xs us → xs.all flatV = true → us.any (eqU x) = xs.any fun y => eqV y x
  | _, _, .nil, _ => rfl
  | y :: xs, u :: us, .cons r t, f => by
    rw [List.all_cons, Bool.and_eq_true] at f
    rw [List.any_cons, List.any_cons, eqU_of r f.1, any_eqU t f.2]
theorem mem_eqAt {A : Around} {s : Shared} {x : V} {v : Value} (rx : RelV x v) (fx : flatV x = true) : ∀ {xs : List V} {us : List Value}, Vals xs us → xs.all flatV = true → ∀ u ∈ us, SeqAt.EqAt A s u v (eqU x u)
  | _, _, .nil, _ => fun u hu => by cases hu
  | y :: xs, u :: us, .cons r t, f => fun u' hu => by
    rw [List.all_cons, Bool.and_eq_true] at f
    rcases List.mem_cons.mp hu with rfl | hu
    · rw [eqU_of r f.1]; exact eqAt_V r rx f.1 fx
    · exact mem_eqAt rx fx t f.2 u' hu
def inV (x : V) (xs : List V) : Bool := xs.any fun y => eqV y x
def rIn (K : PySem.W.Frag) (neg : Bool) : R2 := fun x y H Q => ∃ p xs, y = .ref p ∧ (SqL K H p xs ∨ SqT K H p xs) ∧ flatV x = true ∧ xs.all flatV = true ∧ Q (.bl (if neg then !inV x xs else inV x xs)) H
theorem op_in_seq : OpR X (compareOp .In) (rIn X.K false) := by
  intro pins s σ H x y v u Q I rx ry h
  obtain ⟨p, xs, rfl, hq, fx, fs, q⟩ := h
  cases ry
  rcases hq with hq | hq
  · obtain ⟨its, r, pl, hz⟩ := I.list hq
    refine SeqAt.in_listAt (eqU x) pl.isList (fun w hw => mem_eqAt rx fx r fs w (by simpa using hw)) ⟨.bl _, H, I, rfl, ?_⟩
    rw [show its.toArray.any (eqU x) = its.any (eqU x) by simp, any_eqU r fs]
    exact q
  · obtain ⟨its, r, pl, hz⟩ := I.tuple hq
    refine SeqAt.in_tupleAt (eqU x) pl (fun w hw => mem_eqAt rx fx r fs w (by simpa using hw)) ⟨.bl _, H, I, rfl, ?_⟩
    rw [show its.toArray.any (eqU x) = its.any (eqU x) by simp, any_eqU r fs]
    exact q
theorem op_notIn_seq : OpR X (compareOp .NotIn) (rIn X.K true) := by
  intro pins s σ H x y v u Q I rx ry h
  obtain ⟨p, xs, rfl, hq, fx, fs, q⟩ := h
  cases ry
  rcases hq with hq | hq
  · obtain ⟨its, r, pl, hz⟩ := I.list hq
    refine SeqAt.notIn_listAt (eqU x) pl.isList (fun w hw => mem_eqAt rx fx r fs w (by simpa using hw)) ⟨.bl _, H, I, rfl, ?_⟩
    rw [show its.toArray.any (eqU x) = its.any (eqU x) by simp, any_eqU r fs]
    exact q
  · obtain ⟨its, r, pl, hz⟩ := I.tuple hq
    refine SeqAt.notIn_tupleAt (eqU x) pl (fun w hw => mem_eqAt rx fx r fs w (by simpa using hw)) ⟨.bl _, H, I, rfl, ?_⟩
    rw [show its.toArray.any (eqU x) = its.any (eqU x) by simp, any_eqU r fs]
    exact q
theorem call_len_seq : CallR X (.builtin "len") (fun xs H Q => ∃ p ys, xs = [.ref p] ∧ (SqL X.K H p ys ∨ SqT X.K H p ys) ∧ Q (.int ys.length) H) := by
  intro pins s σ H xs us Q I r h
  obtain ⟨p, ys, rfl, hq, q⟩ := h
  obtain ⟨u, rfl, rx⟩ := vals1 r
  cases rx
  have hn := line63
  rcases hq with hq | hq
  · obtain ⟨its, r', pl, hz⟩ := I.list hq
    have hlen := r'.length
    exact Calls.call_len_list pl.isList (by simp only [List.size_toArray] <;> omega) ⟨.int ys.length, H, I.tok _, ⟨s.toks + 1, by rw [List.size_toArray, hlen]⟩, q⟩
  · obtain ⟨its, r', pl, hz⟩ := I.tuple hq
    have hlen := r'.length
    exact len_tuple pl (by simp only [List.size_toArray] <;> omega) ⟨.int ys.length, H, I.tok _, ⟨s.toks + 1, by rw [List.size_toArray, hlen]⟩, q⟩
theorem call_list_of : CallR X (.type "list") (fun xs H Q => ∃ p ys, xs = [.ref p] ∧ (SqL X.K H p ys ∨ SqT X.K H p ys) ∧ ∀ l, H l = none → Q (.ref l) (upd H l (.lst ys))) := by
  intro pins s σ H xs us Q I r h
  obtain ⟨p, ys, rfl, hq, q⟩ := h
  obtain ⟨u, rfl, rx⟩ := vals1 r
  cases rx
  have fin : ∀ (its : List Value), Vals ys its → ys.length ≤ sizeLine → ∀ (h' : Heap) (c' : Nat), (∀ b o', s.heap.get? b = some o' → h'.get? b = some o') →
      h'.get? s.heap.objs.size = some { cls := .type "list", dict := none, data := .seq its.toArray c', slots := #[] } → EP X pins σ Q (.ref s.heap.objs.size) { s with heap := h' } := fun its r' hz h' c' kp e =>
    ⟨.ref s.heap.objs.size, _, I.laid (t' := s.toks) kp (Nat.le_refl _) (show ObjOk X.prog X.w _ h' _ (.lst ys) from ⟨hz, its, c', r', e⟩), rfl, q _ (I.hok.fresh (Nat.le_refl _))⟩
  rcases hq with hq | hq
  · obtain ⟨its, r', pl, hz⟩ := I.list hq
    have hlen := r'.length
    obtain ⟨o, ho, hc, n, hd⟩ := pl.isList
    exact call_list_seq p (.inl rfl) ho hc hd (fun h' c' kp e => fin its r' hz h' c' kp e) (by simp only [List.size_toArray] <;> omega)
  · obtain ⟨its, r', pl, hz⟩ := I.tuple hq
    have hlen := r'.length
    obtain ⟨o, ho, hc, n, hd⟩ := pl
    exact call_list_seq p (.inr rfl) ho hc hd (fun h' c' kp e => fin its r' hz h' c' kp e) (by simp only [List.size_toArray] <;> omega)
def tyV (K : PySem.W.Frag) (T : String) (x : V) (H : Hp) : Prop := match x with
  | .str _ => T = "str"
  | .int _ => T = "int"
  | .ref p => (T = "list" ∧ ∃ xs, SqL K H p xs) ∨ (T = "tuple" ∧ ∃ o, K.lookup p = some o ∧ o.cls = .type "tuple" ∧ o.dict = none) ∨
      (T = "dict" ∧ ((∃ kvs, H p = some (.dK kvs)) ∨ ∃ kvs, H p = some (.dT kvs))) ∨ (T = "set" ∧ ∃ S n, H p = some (.set S n))
  | _ => False
theorem tyV_is {pins : List (Addr × Obj)} {σ : St} {H : Hp} {s : Shared} {T : String} {x : V} {v : Value} (I : Inv X pins σ H s) (r : RelV x v) (ty : tyV X.K T x H) :
    s.TypeIs v T ∧ ∀ a, v = .ref a → ∃ ob, s.heap.get? a = some ob ∧ ob.dict = none := by
  cases x with
  | str z =>
    obtain ⟨t, rfl⟩ := r
    cases (show T = "str" from ty)
    exact ⟨typeIs_str s z t, fun _ e => nomatch e⟩
  | int i =>
    obtain ⟨t, rfl⟩ := r
    cases (show T = "int" from ty)
    exact ⟨typeIs_int s i t, fun _ e => nomatch e⟩
  | ref p =>
    cases r
    rcases ty with ⟨rfl, xs, hq⟩ | ⟨rfl, o, hk, hc, hd⟩ | ⟨rfl, hk⟩ | ⟨rfl, S, n, hk⟩
    · obtain ⟨its, _, pl, _⟩ := I.list hq
      refine ⟨pl.isList.typeIs, fun a e => ?_⟩
      cases e
      obtain ⟨o, n, e, c, hd, _⟩ := pl
      exact ⟨o, e, hd⟩
    · refine ⟨⟨o, I.kIn p o hk, hc⟩, fun a e => ?_⟩
      cases e
      exact ⟨o, I.kIn _ o hk, hd⟩
    · have z : ∃ o, s.heap.get? p = some o ∧ o.ExactDict := by
        rcases hk with ⟨kvs, hk⟩ | ⟨kvs, hk⟩
        · obtain ⟨_, _, _, _, o, _, _, e, ex, _⟩ := I.hok p _ hk
          exact ⟨o, e, ex⟩
        · obtain ⟨_, _, _, _, o, _, _, e, ex, _⟩ := I.hok p _ hk
          exact ⟨o, e, ex⟩
      obtain ⟨o, e, ex⟩ := z
      refine ⟨⟨o, e, ex.1⟩, fun a e2 => ?_⟩
      cases e2
      exact ⟨o, e, ex.2.1⟩
    · obtain ⟨o, _, _, _, e, ex, _⟩ := I.hok p _ hk
      refine ⟨⟨o, e, ex.1⟩, fun a e2 => ?_⟩
      cases e2
      exact ⟨o, e, ex.2.1⟩
  | _ => exact False.elim ty
def tBM0 (K : PySem.W.Frag) (T : String) (r : V → List V → Hp → VK → Prop) (to : TE) : TE := fun σ H Q => to σ H fun x H1 => tyV K T x H1 ∧ r x [] H1 Q
def tBM (K : PySem.W.Frag) (T : String) (r : V → List V → Hp → VK → Prop) (to : TE) (t : TA) : TE := fun σ H Q => to σ H fun x H1 => tyV K T x H1 ∧ t σ H1 fun xs H2 => r x xs H2 Q
variable {o e : Expr} {es : List Expr} {to : TE} {t : TA} {name : Str} {apos cpos : Pos} {T id : String} {r : V → List V → Hp → VK → Prop}
theorem pe_bm (pa : PlainAttrs T) (slot : Slot T name id) (hty : typeOf (.builtin id) = pure (.type "method_descriptor")) (hm : MtR X id r) (ho : PE X o to) (ha : PA X (e :: es) t)
    (hbase : attributeBase o name X.env (eval o X.env) = eval o X.env := by rfl)
    (hfew : ((backTo cpos (starEach (e :: es) X.env)).all (fun x => !x.1) && (backToKw cpos (keywordEach [] X.env)).all (fun x => x.1.isSome)
      && decide ((e :: es).length + ([] : List Keyword).length + (if ([] : List Keyword).isEmpty then 0 else 1) < 30)) = true := by rfl)
    (hline : (apos.endLine == cpos.line) = true := by rfl) (hs : starEach (e :: es) X.env = (false, eval e X.env) :: starEach es X.env := by rfl) (hplain : (backTo cpos (starEach es X.env)).any (·.1) = false := by rfl) :
    PE X (.Call (.Attribute o name apos) (e :: es) [] cpos) (tBM X.K T r to t) := by
  intro pins s σ H Q I h
  refine wpAny_Call_method_late hbase hfew hline rfl (thn (ho pins s σ H _ I h) fun v s1 ⟨x, H1, I1, r1, ty, q1⟩ => ?_)
  obtain ⟨h1, h2⟩ := tyV_is I1 r1 ty
  refine ⟨T, id, pa, slot, hty, h1, h2, ?_⟩
  have hA := ha cpos pins s1 σ H1 _ I1 q1
  rw [hs] at hA ⊢
  refine Calls.callWith_builtin (by show (false || (backTo cpos (starEach es X.env)).any (·.1)) = false; rw [hplain] <;> rfl) (Calls.evalArgs_plain ?_)
  exact thn hA fun us s2 ⟨vs, H2, I2, r2, q2⟩ => hm pins s2 σ H2 x vs v us Q I2 r1 r2 q2
end
end L2
namespace L2
open PySem PySem.Spec PyProof.Rows
def MtM (X : Cx) (id : String) (r : V → List V → Hp → VK → Prop) : Prop :=
  ∀ (pins : List (Addr × Obj)) (s : Shared) (σ : St) (H : Hp) (x : V) (xs : List V) (v : Value) (us : List Value) (Q : VK), Inv X pins σ H s → RelV x v → Vals xs us → r x xs H Q →
    wpAny (model X.prog X.w) X.A (call (.builtin id) (v :: us)) (EP X pins σ Q) X.xe s
theorem Vals.one : ∀ {x : V} {us : List Value}, Vals [x] us → ∃ u, us = [u] ∧ RelV x u
  | _, _, .cons r .nil => ⟨_, rfl, r⟩
theorem Vals.zero : ∀ {us : List Value}, Vals [] us → us = []
  | _, .nil => rfl
theorem Vals.dropLast {xs : List V} {us : List Value} (h : Vals xs us) : Vals xs.dropLast us.dropLast := by
  induction h with
  | nil => exact .nil
  | cons r t ih =>
    cases t with
    | nil => exact .nil
    | cons q t' => exact .cons r ih
theorem Vals.eraseIdx : ∀ {xs : List V} {us : List Value} (i : Nat), Vals xs us → Vals (xs.eraseIdx i) (us.eraseIdx i)
  | _, _, _, .nil => .nil
  | _, _, 0, .cons _ t => t
  | _, _, i + 1, .cons r t => .cons r (Vals.eraseIdx i t)
theorem Vals.reverse {xs : List V} {us : List Value} (h : Vals xs us) : Vals xs.reverse us.reverse := by
  induction h with
  | nil => exact .nil
  | cons r t ih => rw [List.reverse_cons, List.reverse_cons]; exact Vals.append ih (.cons r .nil)
theorem Vals.rep {xs : List V} {us : List Value} (h : Vals xs us) : ∀ k : Nat, Vals (List.replicate k xs).flatten (List.replicate k us).flatten
  | 0 => .nil
  | k + 1 => by
    rw [List.replicate_succ, List.replicate_succ, List.flatten_cons, List.flatten_cons]
    exact Vals.append h (Vals.rep h k)
theorem len_erase {α : Type} : ∀ (l : List α) (i : Nat), (l.eraseIdx i).length ≤ l.length
  | [], _ => Nat.le_refl _
  | _ :: _, 0 => Nat.le_succ _
  | _ :: r, i + 1 => Nat.succ_le_succ (len_erase r i)
theorem foldl_rep (its : List Value) : ∀ (k : Nat) (acc : List Value),
    List.foldl (fun x1 x2 => x1 ++ x2) acc.toArray (List.replicate k its.toArray) = (acc ++ (List.replicate k its).flatten).toArray
  | 0, acc => by simp
  | k + 1, acc => by
    have e : acc.toArray ++ its.toArray = (acc ++ its).toArray := by simp
    have e2 : (acc ++ its) ++ (List.replicate k its).flatten = acc ++ (List.replicate (k + 1) its).flatten := by
      rw [List.replicate_succ, List.flatten_cons, List.append_assoc]
    rw [← e2, ← foldl_rep its k (acc ++ its), ← e, List.replicate_succ, List.foldl_cons]
section
variable {X : Cx} {pins : List (Addr × Obj)} {σ : St} {H : Hp} {s : Shared} {l b : Addr} {xs ys zs : List V}
theorem Inv.lset {its its' : List Value} {n : Nat} {f : Array Value → Array Value} {t' : Nat} (I : Inv X pins σ H s) (hH : H l = some (.lst xs))
    (e : s.heap.get? l = some { cls := .type "list", data := .seq its.toArray n }) (hf : f its.toArray = its'.toArray) (hv : Vals ys its') (hz : ys.length ≤ sizeLine) :
    Inv X pins σ (upd H l (.lst ys)) { s with heap := s.heap.update l (Obj.mapSeq f), toks := t' } := by
  have q := PySem.IsL.update e f
  rw [hf] at q
  refine I.write (x := l) (e := l) (by rw [hH]; exact trivial) (.inl rfl) (fun b' u hb hu => (Heap.get?_update_other s.heap (Obj.mapSeq f) (Ne.symm hb)).trans hu) ⟨_, q⟩ ?_
  exact ⟨hz, its', _, hv, q⟩
theorem Inv.lnew {its : List Value} {t' : Nat} (I : Inv X pins σ H s) (hv : Vals ys its) (hz : ys.length ≤ sizeLine) :
    Inv X pins σ (upd H s.heap.objs.size (.lst ys)) { s with heap := s.heap.push { cls := .type "list", data := .seq its.toArray }, toks := t' } :=
  I.laid (fun _ _ q => Heap.get?_push_of_some _ q) (Nat.le_refl _) ⟨hz, its, 0, hv, Heap.get?_push_size _ rfl⟩
theorem Inv.fresh (I : Inv X pins σ H s) : H s.heap.objs.size = none := I.hok.fresh (Nat.le_refl _)
theorem Inv.lstM (I : Inv X pins σ H s) (hH : H l = some (.lst xs)) : xs.length ≤ sizeLine ∧ ∃ (its : List Value) (n : Nat), Vals xs its ∧ xs.length = its.length ∧ s.heap.get? l = some { cls := .type "list", data := .seq its.toArray n } := by
  obtain ⟨z, its, n, r, e⟩ := I.hok l _ hH
  exact ⟨z, its, n, r, r.length, e⟩
theorem notLongL {n : Nat} (h : n ≤ sizeLine) : Builtin.List.listTooLong n = false := by
  unfold Builtin.List.listTooLong
  exact decide_eq_false (by omega)
end
section
variable {X : Cx}
def rAppend : V → List V → Hp → VK → Prop := fun x vs H Q => ∃ l xs y, x = .ref l ∧ vs = [y] ∧ H l = some (.lst xs) ∧ xs.length < sizeLine ∧ Q .non (upd H l (.lst (xs ++ [y])))
theorem mt_append : MtM X "list.append" rAppend := by
  intro pins s σ H x vs v us Q I rx rv h
  obtain ⟨l, xs, y, rfl, rfl, hH, hz, q⟩ := h
  cases rx
  obtain ⟨u, rfl, ru⟩ := rv.one
  obtain ⟨z, its, n, r, hl, e⟩ := I.lstM hH
  refine call_meets F.slot_list_append ⟨_, e, rfl⟩ F.entry_list_append (F.args_list_append_2 _ _) (PySem.list_append l its.toArray n u (by rw [List.size_toArray]; omega)) ⟨e, ?_⟩
  refine ⟨.non, _, I.lset (its' := its ++ [u]) hH e (by simp) (r.append (.cons ru .nil)) ?_, rfl, q⟩
  rw [List.length_append, List.length_singleton]
  omega
def rExtend : V → List V → Hp → VK → Prop := fun x vs H Q => ∃ l b xs zs, x = .ref l ∧ vs = [.ref b] ∧ H l = some (.lst xs) ∧ H b = some (.lst zs) ∧ xs.length + zs.length ≤ sizeLine ∧ Q .non (upd H l (.lst (xs ++ zs)))
def rPop : V → List V → Hp → VK → Prop := fun x vs H Q => ∃ l xs y, x = .ref l ∧ vs = [] ∧ H l = some (.lst xs) ∧ xs[xs.length - 1]? = some y ∧ Q y (upd H l (.lst xs.dropLast))
def rPopAt : V → List V → Hp → VK → Prop := fun x vs H Q => ∃ l xs i k y, x = .ref l ∧ vs = [.int i] ∧ H l = some (.lst xs) ∧ -(2 ^ 63) ≤ i ∧ i < 2 ^ 63 ∧ seqIndex? i xs.length = some k ∧ xs[k]? = some y ∧ Q y (upd H l (.lst (xs.eraseIdx k)))
theorem mt_popAt : MtM X "list.pop" rPopAt := by
  intro pins s σ H x vs v us Q I rx rv h
  obtain ⟨l, xs, i, k, y, rfl, rfl, hH, h1, h2, hk, hy, q⟩ := h
  cases rx
  obtain ⟨u, rfl, ru⟩ := rv.one
  obtain ⟨t, rfl⟩ := ru
  obtain ⟨z, its, n, r, hl, e⟩ := I.lstM hH
  obtain ⟨w, hw, rw'⟩ := r.get hy
  refine call_meets F.slot_list_pop ⟨_, e, rfl⟩ F.entry_list_pop (F.args_list_pop_2 _ _)
    (MeetsSeq.list_pop_at l its.toArray n i t k w (fitsIndex_both h1 h2) (by rw [List.size_toArray, ← hl]; exact hk) (by rw [← Array.getElem?_toList]; exact hw) (by rw [List.size_toArray]; omega)) ⟨e, ?_⟩
  refine ⟨y, _, I.lset (its' := its.eraseIdx k) hH e ?_ (r.eraseIdx k) ?_, rw', q⟩
  · show its.toArray.eraseIdxIfInBounds k = (its.eraseIdx k).toArray
    rw [List.eraseIdxIfInBounds_toArray]
  · have := len_erase xs k
    omega
def rReverse : V → List V → Hp → VK → Prop := fun x vs H Q => ∃ l xs, x = .ref l ∧ vs = [] ∧ H l = some (.lst xs) ∧ Q .non (upd H l (.lst xs.reverse))
def rClear : V → List V → Hp → VK → Prop := fun x vs H Q => ∃ l xs, x = .ref l ∧ vs = [] ∧ H l = some (.lst xs) ∧ Q .non (upd H l (.lst []))
def rCat : R2 := fun x y H Q => ∃ l b xs zs, x = .ref l ∧ y = .ref b ∧ H l = some (.lst xs) ∧ H b = some (.lst zs) ∧ xs.length + zs.length ≤ sizeLine ∧ ∀ p, H p = none → Q (.ref p) (upd H p (.lst (xs ++ zs)))
theorem op_cat : OpR X (binaryOp .Add) rCat := by
  intro pins s σ H x y v u Q I rx ry h
  obtain ⟨l, b, xs, zs, rfl, rfl, hH, hB, hz, q⟩ := h
  cases rx
  cases ry
  obtain ⟨z, its, n, r, hl, e⟩ := I.lstM hH
  obtain ⟨z2, its2, n2, r2, hl2, e2⟩ := I.lstM hB
  refine PySem.P.add_list e e2 ?_ (by rw [List.size_toArray, List.size_toArray]; omega)
  have ea : its.toArray ++ its2.toArray = (its ++ its2).toArray := by simp
  rw [ea]
  exact ⟨.ref _, _, I.lnew (t' := s.toks) (r.append r2) (by rw [List.length_append]; omega), rfl, q _ I.fresh⟩
def rRep : R2 := fun x y H Q => ∃ l k xs, x = .ref l ∧ y = .int k ∧ H l = some (.lst xs) ∧ -(2 ^ 63) ≤ k ∧ k < 2 ^ 63 ∧ xs.length * k.toNat ≤ sizeLine ∧
  ∀ p, H p = none → Q (.ref p) (upd H p (.lst (List.replicate k.toNat xs).flatten))
theorem len_rep {α : Type} (xs : List α) (k : Nat) : (List.replicate k xs).flatten.length = k * xs.length := by
  induction k with
  | zero => simp
  | succ k ih => rw [List.replicate_succ, List.flatten_cons, List.length_append, ih, Nat.succ_mul, Nat.add_comm]
theorem op_rep : OpR X (binaryOp .Mult) rRep := by
  intro pins s σ H x y v u Q I rx ry h
  obtain ⟨l, k, xs, rfl, rfl, hH, h1, h2, hz, q⟩ := h
  cases rx
  obtain ⟨t, rfl⟩ := ry
  obtain ⟨z, its, n, r, hl, e⟩ := I.lstM hH
  have hlen : its.toArray.size * k.toNat ≤ sizeLine := by rw [List.size_toArray, ← hl]; exact hz
  have hcap : ¬ its.toArray.size * k.toNat > (2 ^ 63 - 1) / 8 := by
    have : (sizeLine : Nat) ≤ (2 ^ 63 - 1) / 8 := by decide
    omega
  have hfit : ¬ (!Builtin.List.listFitsIndex k) = true := by
    rw [fitsIndex_both h1 h2]
    exact Bool.false_ne_true
  have hlong : ¬ Builtin.List.listTooLong (its.toArray.size * k.toNat) = true := by
    rw [notLongL hlen]
    exact Bool.false_ne_true
  have hnew : List.foldl (fun x1 x2 => x1 ++ x2) #[] (List.replicate (if its.toArray.isEmpty = true then 0 else k.toNat) its.toArray) = (List.replicate k.toNat its).flatten.toArray := by
    have f0 : ∀ m : Nat, List.foldl (fun x1 x2 => x1 ++ x2) #[] (List.replicate m its.toArray) = (List.replicate m its).flatten.toArray := fun m => by
      have := foldl_rep its m []
      rw [List.nil_append] at this
      exact this
    rw [f0]
    cases its with
    | nil => simp
    | cons a r' => rw [if_neg (by simp)]
  refine wpAny_binaryOp_repeat_ref (T := "list") (U := "int") (by decide) ⟨_, e, rfl⟩ (fun s' => typeIs_int s' k t) noFill_list_mul F.fills_int_mul F.slot_int_rmul repeat_list F.slot_int_index.lookup
    (call_meets F.slot_int_rmul (typeIs_int s k t) F.entry_int_rmul (F.args_int_rmul_2 _ _) (int___rmul___int_list k t l its.toArray n)
      ⟨e, rfl, ⟨_, e, rfl⟩, call_meets F.slot_list_mul ⟨_, e, rfl⟩ F.entry_list_mul (F.args_list_mul_2 _ _) (AutoListH.list___mul___list_int_3 l its.toArray n k t hfit hcap hlong) ⟨e, ?_⟩⟩)
  rw [hnew]
  exact ⟨.ref _, _, I.lnew (t' := s.toks) (r.rep k.toNat) (by rw [len_rep, Nat.mul_comm]; exact hz), rfl, q _ I.fresh⟩
end
section
variable {prog : Program} {w : World} {A : Around} {E : Value → Shared → Prop} {s : Shared}
end
section
variable {X : Cx}
end
end L2
namespace L2
open PySem PySem.Spec PyProof.Rows
section
variable {κ : Type} [DecidableEq κ]
def valV (kvs : List (κ × V)) (k : κ) : Option V := (kvs.find? fun kv => decide (kv.1 = k)).map (·.2)
def putK (kvs : List (κ × V)) (k : κ) (v : V) : List (κ × V) :=
  if (kvs.any fun kv => decide (kv.1 = k)) = true then kvs.map (fun kv => if kv.1 = k then (kv.1, v) else kv) else kvs ++ [(k, v)]
def dropK (kvs : List (κ × V)) (k : κ) : List (κ × V) := kvs.filter fun kv => decide (kv.1 ≠ k)
theorem valV_pos {p : κ × V} {r : List (κ × V)} {k : κ} (e : p.1 = k) : valV (p :: r) k = some p.2 := by simp [valV, List.find?_cons, e]
theorem valV_neg {p : κ × V} {r : List (κ × V)} {k : κ} (e : ¬ p.1 = k) : valV (p :: r) k = valV r k := by simp [valV, List.find?_cons, e]
theorem RelO.getD {o : Option V} {u : Option Value} {d : V} {d' : Value} (r : RelO o u) (rd : RelV d d') : RelV (o.getD d) (u.getD d') := by
  cases o with
  | none => cases u with
    | none => exact rd
    | some _ => exact (show False from r).elim
  | some _ => cases u with
    | none => exact (show False from r).elim
    | some _ => exact r
theorem KV.val {kvs : List (κ × V)} {vs : List (κ × Value)} (r : KV kvs vs) (k : κ) : RelO (valV kvs k) (valueAt vs k) := by
  unfold KV at r
  induction r with
  | nil => exact True.intro
  | @cons p q ps qs h t ih =>
    obtain ⟨h1, h2⟩ := h
    by_cases e : p.1 = k
    · have e' : q.1 = k := h1.symm.trans e
      have b : valueAt (q :: qs) k = some q.2 := by simp [valueAt, List.find?_cons, e']
      rw [valV_pos e, b]; exact h2
    · have e' : ¬ q.1 = k := fun z => e (h1.trans z)
      have b : valueAt (q :: qs) k = valueAt qs k := by simp [valueAt, List.find?_cons, e']
      rw [valV_neg e, b]; exact ih
theorem KV.any {kvs : List (κ × V)} {vs : List (κ × Value)} (r : KV kvs vs) (k : κ) : (kvs.any fun kv => decide (kv.1 = k)) = vs.any fun kv => decide (kv.1 = k) := by
  unfold KV at r
  induction r with
  | nil => rfl
  | cons h t ih => rw [List.any_cons, List.any_cons, ih, h.1]
theorem KV.drop {kvs : List (κ × V)} {vs : List (κ × Value)} (r : KV kvs vs) (k : κ) : KV (dropK kvs k) (without vs k) := by
  unfold KV at r ⊢
  unfold dropK without
  induction r with
  | nil => exact .nil
  | @cons p q ps qs h t ih =>
    obtain ⟨h1, h2⟩ := h
    rw [List.filter_cons, List.filter_cons]
    by_cases e : p.1 = k
    · have a : ¬ decide (p.1 ≠ k) = true := by simp [e]
      have b : ¬ decide (q.1 ≠ k) = true := by simp [h1.symm.trans e]
      rw [if_neg a, if_neg b]; exact ih
    · have e' : ¬ q.1 = k := fun z => e (h1.trans z)
      have a : decide (p.1 ≠ k) = true := by simp [e]
      have b : decide (q.1 ≠ k) = true := by simp [e']
      rw [if_pos a, if_pos b]; exact .cons ⟨h1, h2⟩ ih
theorem KV.length {kvs : List (κ × V)} {vs : List (κ × Value)} (r : KV kvs vs) : kvs.length = vs.length := Paired.length r
end
abbrev KT (H : Hp) : List (List Key × V) → List (List Key × Addr × Value) → Prop := Paired fun p q => p.1 = q.1 ∧ H q.2.1 = some (.tup (p.1.map kV)) ∧ RelV p.2 q.2.2
theorem KT.val {H : Hp} {kvs : List (List Key × V)} {xs : List (List Key × Addr × Value)} (r : KT H kvs xs) (k : List Key) : RelO (valV kvs k) ((atKey xs k).map (·.2)) := by
  induction r with
  | nil => exact True.intro
  | @cons p q ps qs h t ih =>
    obtain ⟨h1, _, h2⟩ := h
    by_cases e : p.1 = k
    · have e' : q.1 = k := h1.symm.trans e
      have b : atKey (q :: qs) k = some q.2 := by simp [atKey, List.find?_cons, e']
      rw [valV_pos e, b]; exact h2
    · have e' : ¬ q.1 = k := fun z => e (h1.trans z)
      have b : atKey (q :: qs) k = atKey qs k := by simp [atKey, List.find?_cons, e']
      rw [valV_neg e, b]; exact ih
theorem KT.keeps {H H' : Hp} {kvs : List (List Key × V)} {xs : List (List Key × Addr × Value)} (r : KT H kvs xs) (ht : ∀ b ys, H b = some (.tup ys) → H' b = some (.tup ys)) : KT H' kvs xs :=
  Paired.mapP r fun _ _ z => ⟨z.1, ht _ _ z.2.1, z.2.2⟩
section
variable {P : Program} {w : World} {H : Hp} {h : Heap} {a : Addr}
end
def DGet (H : Hp) (a : Addr) (y : V) (r : Option V) : Prop :=
  (∃ kvs k, Rd H a (.dK kvs) ∧ y = kV k ∧ r = valV kvs k) ∨ ∃ kvs k b, Rd H a (.dT kvs) ∧ y = .ref b ∧ H b = some (.tup (k.map kV)) ∧ r = valV kvs k
def DPut (H : Hp) (a : Addr) (y v : V) (H' : Hp) : Prop :=
  (∃ kvs k, H a = some (.dK kvs) ∧ y = kV k ∧ kvs.length < sizeLine ∧ H' = upd H a (.dK (putK kvs k v))) ∨
  ∃ kvs k b, H a = some (.dT kvs) ∧ y = .ref b ∧ H b = some (.tup (k.map kV)) ∧ kvs.length < sizeLine ∧ H' = upd H a (.dT (putK kvs k v))
theorem DGet.k {H : Hp} {a : Addr} {kvs : List (Key × V)} {k : Key} (e : H a = some (.dK kvs)) : DGet H a (kV k) (valV kvs k) := .inl ⟨kvs, k, .inl e, rfl, rfl⟩
theorem DGet.t {H : Hp} {a b : Addr} {kvs : List (List Key × V)} {k : List Key} (e : H a = some (.dT kvs)) (eb : H b = some (.tup (k.map kV))) : DGet H a (.ref b) (valV kvs k) := .inr ⟨kvs, k, b, .inl e, rfl, eb, rfl⟩
theorem DPut.k {H : Hp} {a : Addr} {kvs : List (Key × V)} {k : Key} {v : V} (e : H a = some (.dK kvs)) (hl : kvs.length < sizeLine) : DPut H a (kV k) v (upd H a (.dK (putK kvs k v))) := .inl ⟨kvs, k, e, rfl, hl, rfl⟩
theorem DPut.t {H : Hp} {a b : Addr} {kvs : List (List Key × V)} {k : List Key} {v : V} (e : H a = some (.dT kvs)) (eb : H b = some (.tup (k.map kV))) (hl : kvs.length < sizeLine) :
    DPut H a (.ref b) v (upd H a (.dT (putK kvs k v))) := .inr ⟨kvs, k, b, e, rfl, eb, hl, rfl⟩
section
variable {X : Cx} {pins : List (Addr × Obj)} {σ : St} {H : Hp} {s : Shared} {a : Addr} {y v : V} {u r : Value} {o : Option V} {A : Around} {E : Value → Shared → Prop}
end
section
variable {X : Cx} {pins : List (Addr × Obj)} {σ : St} {H : Hp} {s : Shared} {a : Addr} {kvs : List (Key × V)} {k : Key} {u : Value} {A : Around} {E : Value → Shared → Prop}
end
def tDGet (td ty : TE) : TE := fun σ H Q => td σ H fun x H1 => ty σ H1 fun y H2 => ∃ a v, x = .ref a ∧ DGet H2 a y (some v) ∧ Q v H2
def tDIn (ty td : TE) : TE := fun σ H Q => ty σ H fun y H1 => td σ H1 fun x H2 => ∃ a o, x = .ref a ∧ DGet H2 a y o ∧ Q (.bl o.isSome) H2
def tDNotIn (ty td : TE) : TE := fun σ H Q => ty σ H fun y H1 => td σ H1 fun x H2 => ∃ a o, x = .ref a ∧ DGet H2 a y o ∧ Q (.bl (!o.isSome)) H2
def sDPut (td ty tv : TE) : TS := fun D σ H => tv σ H fun v H1 => td σ H1 fun x H2 => ty σ H2 fun y H3 => ∃ a H4, x = .ref a ∧ DPut H3 a y v H4 ∧ D.nx σ H4
def sDAug (td ty tv : TE) (rd : V → V → Hp → VK → Prop) : TS := fun D σ H => td σ H fun x H1 => ty σ H1 fun y H2 => ∃ a v, x = .ref a ∧ DGet H2 a y (some v) ∧
  tv σ H2 fun y2 H3 => rd v y2 H3 fun z H4 => ∃ H5, DPut H4 a y z H5 ∧ D.nx σ H5
def sDDel (td ty : TE) : TS := fun D σ H => td σ H fun x H1 => ty σ H1 fun y H2 => ∃ a kvs k, x = .ref a ∧ H2 a = some (.dK kvs) ∧ y = kV k ∧ (valV kvs k).isSome = true ∧ D.nx σ (upd H2 a (.dK (dropK kvs k)))
section
variable {X : Cx} {o i e value : Expr} {pos pos' tpos : Pos} {td ty tv : TE}
end
def tDNewK : TE := fun _ H Q => ∀ p, H p = none → Q (.ref p) (upd H p (.dK []))
def tDNewT : TE := fun _ H Q => ∀ p, H p = none → Q (.ref p) (upd H p (.dT []))
section
variable {X : Cx} {pos : Pos}
end
def tPairs : List (TE × TE) → St → Hp → (List (V × V) → Hp → Prop) → Prop
  | [], _, H, Q => Q [] H
  | (tk, tv) :: r, σ, H, Q => tk σ H fun x H1 => tv σ H1 fun y H2 => tPairs r σ H2 fun ps H3 => Q ((x, y) :: ps) H3
def mergeK (kvs more : List (Key × V)) : List (Key × V) := more.foldl (fun acc kv => putK acc kv.1 kv.2) kvs
def tDisp (trs : List (TE × TE)) : TE := fun σ H Q => ∀ p, H p = none → tPairs trs σ (upd H p (.dK [])) fun ps H2 => H2 p = some (.dK []) ∧ ∃ kvs : List (Key × V), ps = kvs.map (fun kv => (kV kv.1, kv.2)) ∧ kvs.length ≤ 15 ∧ Q (.ref p) (upd H2 p (.dK (mergeK [] kvs)))
structure M1 (X : Cx) (o : Expr) (m : Str) (apos : Pos) (e : Expr) (cpos : Pos) : Prop where
  base : attributeBase o m X.env (eval o X.env) = eval o X.env
  few : ((backTo cpos (starEach [e] X.env)).all (fun x => !x.1) && (backToKw cpos (keywordEach [] X.env)).all (fun x => x.1.isSome)
    && decide (([e] : List Expr).length + ([] : List Keyword).length + (if ([] : List Keyword).isEmpty then 0 else 1) < 30)) = true
  line : (apos.endLine == cpos.line) = true
  trees : backTo cpos (starEach [e] X.env) = [(false, eval e X.env)]
structure M2 (X : Cx) (o : Expr) (m : Str) (apos : Pos) (e f : Expr) (cpos : Pos) : Prop where
  base : attributeBase o m X.env (eval o X.env) = eval o X.env
  few : ((backTo cpos (starEach [e, f] X.env)).all (fun x => !x.1) && (backToKw cpos (keywordEach [] X.env)).all (fun x => x.1.isSome)
    && decide (([e, f] : List Expr).length + ([] : List Keyword).length + (if ([] : List Keyword).isEmpty then 0 else 1) < 30)) = true
  line : (apos.endLine == cpos.line) = true
  trees : backTo cpos (starEach [e, f] X.env) = [(false, eval e X.env), (false, eval f X.env)]
def IsD (H : Hp) (a : Addr) : Prop := (∃ kvs, Rd H a (.dK kvs)) ∨ ∃ kvs, Rd H a (.dT kvs)
section
variable {X : Cx} {pins : List (Addr × Obj)} {σ : St} {H : Hp} {s : Shared} {a : Addr} {y d : V} {u r : Value} {o : Option V} {A : Around} {E : Value → Shared → Prop}
end
def tDGet1 (td ty : TE) : TE := fun σ H Q => td σ H fun x H1 => ∃ a, x = .ref a ∧ IsD H1 a ∧ ty σ H1 fun y H2 => ∃ o, DGet H2 a y o ∧ Q (o.getD .non) H2
def tDGet2 (td ty tx : TE) : TE := fun σ H Q => td σ H fun x H1 => ∃ a, x = .ref a ∧ IsD H1 a ∧ ty σ H1 fun y H2 => tx σ H2 fun z H3 => ∃ o, DGet H3 a y o ∧ Q (o.getD z) H3
def tDPop1 (td ty : TE) : TE := fun σ H Q => td σ H fun x H1 => ∃ a, x = .ref a ∧ IsD H1 a ∧ ty σ H1 fun y H2 => ∃ kvs k v, H2 a = some (.dK kvs) ∧ y = kV k ∧ valV kvs k = some v ∧ Q v (upd H2 a (.dK (dropK kvs k)))
def tDPop2 (td ty tx : TE) : TE := fun σ H Q => td σ H fun x H1 => ∃ a, x = .ref a ∧ IsD H1 a ∧ ty σ H1 fun y H2 => tx σ H2 fun z H3 => ∃ kvs k, H3 a = some (.dK kvs) ∧ y = kV k ∧
  (∀ v, valV kvs k = some v → Q v (upd H3 a (.dK (dropK kvs k)))) ∧ (valV kvs k = none → Q z H3)
section
variable {X : Cx} {o e f : Expr} {apos cpos : Pos} {td ty tx : TE}
end
section
variable {X : Cx} {pins : List (Addr × Obj)} {σ : St} {H : Hp} {s : Shared} {a : Addr} {kvs : List (Key × V)} {A : Around} {E : Value → Shared → Prop}
end
section
variable {X : Cx} {pins : List (Addr × Obj)} {σ : St} {H : Hp} {s : Shared} {a : Addr} {y : V} {u : Value} {A : Around} {E : Value → Shared → Prop}
end
end L2
namespace Att
open PySem PySem.W PySem.Calls PyProof.Rows
theorem ints_of_wellAll {P : Params} {h : Heap} : ∀ (ns : List Int) (vs : List Value), WellAll P h vs (ns.map WData.int) → IntsAre vs ns := by
  intro ns
  induction ns with
  | nil =>
    intro vs w
    rw [List.map_nil] at w
    cases w
    exact .nil
  | cons n ns ih =>
    intro vs w
    rw [List.map_cons] at w
    cases w with
    | cons a b =>
      cases a
      exact .cons _ _ (ih _ b)
theorem script_of {l : OpenLaw} {n : Nat} (hn : l.most = some n) {P : Params} {h : Heap} {args : List WData} {vals : List Value}
    (hpre : l.row.toRowW.claim.pre args = true) (hwl : WellAll P h vals args) :
    ∃ a vs ns, vals = [Value.ref a] ∧ args = [WData.list (ns.map WData.int)] ∧ h.get? a = some { cls := .type "list", data := .seq vs.toArray } ∧ IntsAre vs ns ∧ ns.length ≤ n := by
  have hsh : WShape.hasAll [] args [.list .int] = true := (pre_splitW hpre).1
  have hc : l.pre.holds [] { args := args } = true := (pre_splitW hpre).2
  obtain ⟨d, r, rfl, h1, h2⟩ := hasAllW_cons hsh
  obtain rfl := hasAllW_nil h2
  obtain ⟨xs, rfl, h3⟩ := hasW_list h1
  obtain ⟨ns, rfl⟩ := items_int h3
  have hlen : ns.length ≤ n := by
    unfold OpenLaw.pre at hc
    have h4 : (WTm.not (.lt (.lit (.int (n : Int))) (.len (.arg 0)))).holds [] { args := [.list (ns.map .int)] } = true := by
      have h4 := (holds_andW hc).1
      rw [hn] at h4
      exact h4
    have h5 := condW_of h4 (w_not (w_lt w_lit (w_len_list (w_arg rfl))))
    rw [List.length_map] at h5
    refine Nat.le_of_not_lt fun q => ?_
    have q' : (n : Int) < ((ns.length : Nat) : Int) := by omega
    first
      | (rw [decide_eq_true q'] at h5; exact absurd h5 (by decide))
      | (simp at h5; omega)
  cases hwl with
  | cons w1 w2 =>
    cases w2
    cases w1 with
    | list ho hall => exact ⟨_, _, ns, rfl, rfl, ho, ints_of_wellAll ns _ hall, hlen⟩
theorem post_true (l : OpenLaw) (args : List WData) : l.row.toRowW.claim.post args (.bool true) args = true :=
  postW_of (r := l.row.toRowW) (X := (true == true))
    (show WShape.has [] (.bool true) .bool = true by first | rfl | decide | simp [WShape.has, WShape.arms, WShape.armsAll])
    (show (WTm.eq .res (.lit (.bool true))).value [] { args := args, res := some (.bool true), after := args } = some (.bool (true == true)) from w_eq_bool (w_res rfl) w_lit) rfl
theorem attach_call {l : OpenLaw} {n : Nat} {q : Program} {loose : List Str} {XP : (Str → Option Value) → Heap → Prop} {YP : World → Heap → Prop} {d : DefRec}
    (hn : l.most = some n) (hdf : d.params.defaults = [])
    (call : ∀ (w : World) (s₀ s₁ : Shared) (mg mb : Str → Option Value) (fa : Addr) (o : Obj) (pm cd doc : Value) (a : Addr) (vs : List Value) (ns : List Int),
      Ground q loose [] XP w s₀ mg mb s₁.heap → YP w s₁.heap →
      s₁.heap.get? fa = some o → o.data = .func (docDef d.name d.params d.body d.scope pm cd doc) → s₁.heap.CodeRec cd d.name → mg d.name = some (.ref fa) →
      s₁.heap.get? a = some { cls := .type "list", data := .seq vs.toArray } → IntsAre vs ns → ns.length ≤ n → s₁.gens = #[] →
      codeAny (model l.prog w) callerA (.call (.ref fa) ⟨[.ref a], []⟩) (fun r s' => r = .ok (.ret (.bool true)) ∧ OldK s₁.heap s'.heap ∧ s'.os = s₁.os ∧ AllBare s'.gens) s₁) :
    WalkO q loose XP YP l.row.toRowW d [] (fun f vs => PySem.call f vs) := by
  intro w s₀ s₁ mg mb G Y fa o pm cd doc dV kV ho hd hcd hD hmg hg args vals as hpre hlay hrd hwl hlo
  obtain rfl : dV = .none := Dflts.none hD hdf
  obtain rfl : kV = .none := Dflts.noKw hD
  obtain ⟨a, vs, ns, rfl, rfl, hobj, hints, hlen⟩ := script_of hn hpre hwl
  refine enter_call (codeAny_mono (call w s₀ s₁ mg mb fa o pm cd doc a vs ns G Y ho (fd_plain hd) hcd hmg hobj hints hlen hg) fun r s' hq => ?_)
  obtain ⟨rfl, h2, h3, h4⟩ := hq
  exact ⟨.inl ⟨.bool true, .bool true, [], rfl, fun _ => rfl, .bool true, post_true l _, fun _ => ⟨List.Pairwise.nil, fun _ hm => (nomatch hm)⟩⟩, h2, h3, h4⟩
section
variable {prog : Program} {w : World} {A : Around} {E : Value → Shared → Prop} {s : Shared} {K : Frag}
end
end Att
namespace L2
open PySem PySem.Spec PyProof.Rows
theorem vals_ints : ∀ {vs : List Value} {ns : List Int}, IntsAre vs ns → Vals (ns.map V.int) vs
  | _, _, .nil => .nil
  | _, _, .cons n t h => .cons ⟨t, rfl⟩ (vals_ints h)
def Only (H : Hp) : Prop := ∀ b, H b = none ∨ ∃ o xs, H b = some (.frz o (.lst xs))
theorem law_call {P : Program} {w : World} {K : PySem.W.Frag} {mg mb : Str → Option Value} {CX : CXT} {k : Nat} {fa a : Addr} {fd : FuncData} {x : Str} {sp : Sp} {s₁ : Shared} {vs : List Value} {ns : List Int}
    (KX : K.In s₁.heap) (hns : s₁.heap.Ns mainGlobals mg) (hb : s₁.heap.Ns builtinsNs mb) (hbb : ∀ x : Str, x ≠ "__name__" → mb x = bootBuiltins x) (hlim : s₁.heap.NoLimit) (hg : s₁.gens = #[])
    (ha : s₁.heap.get? a = some { cls := .type "list", data := .seq vs.toArray }) (hi : IntsAre vs ns) (hl : ns.length ≤ sizeLine) (hr : Room k callerA)
    (F : ∀ base : Heap, K.In base → base.Ns mainGlobals mg → FnOk P w K mg base CX k fa fd [x] sp) (hbind : ∀ (s : Shared) (u : Value), BindsTo s fd ⟨[u], []⟩ [(x, u)])
    (hsp : ∀ H : Hp, Only H → SqL K H a (ns.map V.int) → sp [.ref a] H (fun v _ => v = .bl true) fun _ _ _ => False)
    (hCX : ∀ H e s', CX [] H s₁ (fun _ _ _ => False) e s' → False) :
    codeAny (model P w) callerA (.call (.ref fa) ⟨[.ref a], []⟩) (fun r s' => r = .ok (.ret (.bool true)) ∧ OldK s₁.heap s'.heap ∧ s'.os = s₁.os ∧ AllBare s'.gens) s₁ := by
  have rv := vals_ints hi
  have lenV := hi.length
  -- from an abstract heap in which nothing but the script may be tracked
  have core : ∀ H : Hp, Only H → SqL K H a (ns.map V.int) → HOk P w H s₁.heap → (∀ b, H b ≠ none → b = a) → (H a ≠ none → K.lookup a = none) →
      codeAny (model P w) callerA (.call (.ref fa) ⟨[.ref a], []⟩) (fun r s' => r = .ok (.ret (.bool true)) ∧ OldK s₁.heap s'.heap ∧ s'.os = s₁.os ∧ AllBare s'.gens) s₁ := by
    intro H hO hS hok hA hK
    have base_of : ∀ {b : Addr} {o : Obj}, s₁.heap.get? b = some o → H b = none → (hidT s₁.heap H).get? b = some o := fun e n => hidT_get e n
    have noA : ∀ {b : Addr} {o : Obj} {es : Array DictEntry} {ep : Nat}, s₁.heap.get? b = some o → o.data = .dict es ep → H b = none := fun {b o es ep} e d => by
      cases q : H b with
      | none => rfl
      | some u =>
        have e' : b = a := hA b (by rw [q]; simp)
        subst e'
        rw [ha] at e; cases e
        have d' : Data.seq vs.toArray _ = Data.dict es ep := d
        cases d'
    have nsK : ∀ {b : Addr} {m : Str → Option Value}, s₁.heap.Ns b m → (hidT s₁.heap H).Ns b m := fun {b m} ⟨o, es, ep, e, d, r⟩ => ⟨o, es, ep, base_of e (noA e d), d, r⟩
    have hKb : K.In (hidT s₁.heap H) := fun b o e => base_of (KX b o e) (by
      cases q : H b with
      | none => rfl
      | some u =>
        have e' : b = a := hA b (by rw [q]; simp)
        subst e'
        rw [hK (by rw [q]; simp)] at e; cases e)
    have hM : Mod K mg (hidT s₁.heap H) := ⟨hKb, nsK hns, ⟨mb, nsK hb, hbb⟩, let ⟨mc, h1, h2⟩ := hlim; ⟨mc, nsK h1, h2⟩⟩
    have e0 : Env0 P w K mg (hidT s₁.heap H) callerA [] s₁ H := ⟨rfl, hM, fun b o e => of_hidT e, Nat.le_of_eq (hidT_size _ _), trivial, fun b hb => absurd (show b ∈ ([] : List Addr) from hb) (by simp), hok, .of_eq hg⟩
    refine codeAny_mono ((F _ hKb (nsK hns)).run callerA [] s₁ H ⟨[.ref a], []⟩ [.ref a] [.ref a] _ _ hr e0 (hbind s₁ (.ref a)) (.cons rfl .nil) (hsp H hO hS)) fun r s' h => ?_
    cases r with
    | error e => exact (hCX H e s' h).elim
    | ok fl =>
      cases fl with
      | next => exact False.elim h
      | brk => exact False.elim h
      | cont => exact False.elim h
      | ret u =>
        obtain ⟨v, H', os, bare, un, hok', r', q⟩ := h
        have q' : v = .bl true := q
        subst q'
        obtain rfl : u = Value.bool true := r'
        refine ⟨rfl, OldK.of_keep fun b o e => ?_, os, bare⟩
        cases q : H b with
        | none => exact un.keep b o e q (by intro z; exact absurd (show b ∈ ([] : List Addr) from z) (by simp)) (by simp)
        | some u =>
          rcases hO b with z | ⟨ob, xs, z⟩
          · rw [q] at z; cases z
          · have z2 := un.frzs b ob _ z
            obtain ⟨e1, _⟩ := hok b _ z
            obtain ⟨e2, _⟩ := hok' b _ z2
            rw [e] at e1; cases e1
            exact e2
  cases hk : K.lookup a with
  | some o =>
    -- the script is one of the module's own objects
    have e := KX a o hk
    rw [ha] at e
    cases e
    refine core (fun _ => none) (fun _ => .inl rfl) (.inr ⟨_, vs.toArray, _, hk, rfl, rfl, rfl, by rw [List.size_toArray, lenV]; exact hl, by simpa using rv⟩) (fun b u z => by have z' : (none : Option HO) = some u := z; cases z') (fun b z => absurd rfl z) fun z => absurd rfl z
  | none =>
    refine core (fun b => if b = a then some (.frz { cls := .type "list", data := .seq vs.toArray } (.lst (ns.map V.int))) else none) (fun b => ?_) (.inl (.inr ⟨{ cls := .type "list", data := .seq vs.toArray }, if_pos rfl⟩)) (fun b u z => ?_) (fun b z => ?_) fun _ => hk
    · by_cases hb : b = a
      · exact .inr ⟨_, _, if_pos hb⟩
      · exact .inl (if_neg hb)
    · by_cases hb : b = a
      · have z' := (if_pos hb).symm.trans z
        cases z'
        subst hb
        exact ⟨ha, by rw [List.length_map]; exact hl, vs, _, rv, ha⟩
      · have z' := (if_neg hb).symm.trans z
        cases z'
    · by_cases hb : b = a
      · exact hb
      · exact absurd (if_neg hb) z
end L2
namespace L2
open PySem PySem.Spec PyProof.Rows
abbrev KOf {K : PySem.W.Frag} {h : Heap} (_ : K.In h) : PySem.W.Frag := K
theorem walk_of {l : PySem.W.OpenLaw} {n k : Nat} {q : Program} {loose : List Str} {XP : (Str → Option Value) → Heap → Prop} {YP : World → Heap → Prop} {d : DefRec} {K : Params → PySem.W.Frag} {CX : World → CXT} {sp : World → Sp} {x : Str}
    (hn : l.most = some n) (hn2 : n ≤ sizeLine) (hdf : d.params.defaults = []) (hr : Room k callerA)
    (hY : ∀ (w : World) (h : Heap), YP w h → (K w.params).In h)
    (F : ∀ (w : World) (mg : Str → Option Value) (fa : Addr) (h : Heap), (K w.params).In h → h.Ns mainGlobals mg → mg d.name = some (.ref fa) →
      ∃ fd : FuncData, (∀ (s : Shared) (u : Value), BindsTo s fd ⟨[u], []⟩ [(x, u)]) ∧
        ∀ base : Heap, (K w.params).In base → base.Ns mainGlobals mg → FnOk l.prog w (K w.params) mg base (CX w) k fa fd [x] (sp w))
    (hsp : ∀ (w : World) (H : Hp) (a : Addr) (ns : List Int), ns.length ≤ n → Only H → SqL (K w.params) H a (ns.map V.int) → sp w [.ref a] H (fun v _ => v = .bl true) fun _ _ _ => False)
    (hCX : ∀ (w : World) (H : Hp) (s : Shared) (e : Value) (s' : Shared), CX w [] H s (fun _ _ _ => False) e s' → False) :
    PySem.W.WalkO q loose XP YP l.row.toRowW d [] (fun f vs => PySem.call f vs) := by
  refine Att.attach_call hn hdf fun w s₀ s₁ mg mb fa o pm cd doc a vs ns G Y ho hd hcd hmg hobj hints hlen hg => ?_
  have KX := hY w _ Y
  obtain ⟨fd, hb, hF⟩ := F w mg fa _ KX G.T.g hmg
  exact law_call KX G.T.g G.T.b G.T.builtins G.T.nolimit hg hobj hints (Nat.le_trans hlen hn2) hr hF hb (fun H hO hS => hsp w H a ns hlen hO hS) fun H e s' => hCX w H s₁ e s'
theorem walk_ofK {l : PySem.W.OpenLaw} {n k : Nat} {q : Program} {loose : List Str} {XP : (Str → Option Value) → Heap → Prop} {YP : World → Heap → Prop} {d : DefRec} {K : Params → PySem.W.Frag} {CX : CXT} {sp : PySem.W.Frag → Sp} {x : Str}
    (hn : l.most = some n) (hn2 : n ≤ sizeLine) (hdf : d.params.defaults = []) (hr : Room k callerA)
    (hY : ∀ (w : World) (h : Heap), YP w h → (K w.params).In h)
    (F : ∀ (w : World) (mg : Str → Option Value) (fa : Addr) (h : Heap), (K w.params).In h → h.Ns mainGlobals mg → mg d.name = some (.ref fa) →
      ∃ fd : FuncData, (∀ (s : Shared) (u : Value), BindsTo s fd ⟨[u], []⟩ [(x, u)]) ∧
        ∀ base : Heap, (K w.params).In base → base.Ns mainGlobals mg → FnOk l.prog w (K w.params) mg base CX k fa fd [x] (sp (K w.params)))
    (hsp : ∀ (K : PySem.W.Frag) (H : Hp) (a : Addr) (ns : List Int), ns.length ≤ n → Only H → SqL K H a (ns.map V.int) → sp K [.ref a] H (fun v _ => v = .bl true) fun _ _ _ => False)
    (hCX : ∀ (H : Hp) (s : Shared) (e : Value) (s' : Shared), CX [] H s (fun _ _ _ => False) e s' → False) :
    PySem.W.WalkO q loose XP YP l.row.toRowW d [] (fun f vs => PySem.call f vs) :=
  walk_of (K := K) (CX := fun _ => CX) (sp := fun w => sp (K w.params)) hn hn2 hdf hr hY F (fun w H a ns h1 h2 h3 => hsp (K w.params) H a ns h1 h2 h3) fun _ H s e s' => hCX H s e s'
end L2
namespace L2
open PySem PySem.Spec PyProof.Rows
def inClass (s : Stmt) (j : Nat) : Stmt := match s with
  | .ClassDef _ _ _ body _ _ _ _ _ _ _ => body.getD j (.Pass ⟨0, 0, 0, 0⟩)
  | _ => .Pass ⟨0, 0, 0, 0⟩
def defArgs (s : Stmt) : Arguments := match s with
  | .FunctionDef _ a _ _ _ _ _ _ _ _ => a
  | _ => { posonlyargs := [], args := [], vararg := none, kwonlyargs := [], kw_defaults := [], kwarg := none, defaults := [] }
def defBody (s : Stmt) : List Stmt := match s with
  | .FunctionDef _ _ b _ _ _ _ _ _ _ => b
  | _ => []
def defScope (s : Stmt) : Scope := match s with
  | .FunctionDef _ _ _ _ _ _ sc _ _ _ => sc
  | _ => { kind := .function, names := [], isGenerator := false, isCoroutine := false }
abbrev CX0 : CXT := fun _ _ _ _ _ _ => False
abbrev E0 : XK := fun _ _ _ => False
theorem pass0 {X : Cx} : Passes CX0 X E0 := fun _ _ _ _ _ _ _ h => h.elim
structure Fun (K : PySem.W.Frag) (x qual : Str) (st : Stmt) (f : Addr) (fd : FuncData) : Prop where
  ex : ∃ (oc : Value) (od : Option Addr) (kV doc pm : Value) (an : Option Addr) (cdv ct : Value) (osl : Array (Option Value)),
    fd = PySem.W.fnOf x qual (defArgs st) (defBody st) (defScope st) .none kV doc pm an cdv ct ∧ K.lookup f = some ⟨oc, od, .func fd, osl⟩ ∧ PySem.W.codeIn K cdv qual = true
  kp : PySem.W.keepIn K (.ref f) = true
section
variable {P : Program} {w : World} {K : PySem.W.Frag} {mg : Str → Option Value} {base : Heap}
theorem Fun.ok {x qual : Str} {st : Stmt} {f : Addr} {fd : FuncData} {N ps : List Str} {k : Nat} {sp : Sp} (F : Fun K x qual st f fd) (S : FnScope N ps (defScope st)) (len : ∀ vs H Q E, sp vs H Q E → vs.length = ps.length)
    (hbody : ∀ (cdv : Value) (A : Around) (outer : List Env) (s : Shared) (H : Hp) (vs : List V) (Q : VK) (E : XK), Room k (A.deeper (envOfC qual (defScope st) s.heap.objs.size f cdv)) → sp vs H Q E →
      ∃ t, PSs (cxOf CX0 P w K mg base N qual (defScope st) f cdv A outer s H E).nox (defBody st) t ∧ t { nx := fun _ H' => Q .non H', rt := Q } (start N vs) H) : FnOk P w K mg base CX0 (k + 1) f fd ps sp := by
  obtain ⟨oc, od, kV, doc, pm, an, cdv, ct, osl, rfl, lk, hcd⟩ := F.ex
  refine fn_of lk hcd S len fun A outer s H vs Q E hr hsp => ?_
  obtain ⟨t, h, q⟩ := hbody cdv A outer s H vs Q E hr hsp
  exact ⟨t, h.nox, q⟩
theorem Fun.binds {x qual : Str} {st : Stmt} {f : Addr} {fd : FuncData} {ps : List Str} (F : Fun K x qual st f fd)
    (h : ∀ (kV doc pm : Value) (an : Option Addr) (cdv ct : Value) (us : List Value), us.length = ps.length → bindArgs (PySem.W.fnOf x qual (defArgs st) (defBody st) (defScope st) .none kV doc pm an cdv ct) ⟨us, []⟩ = pure (ps.zip us)) : Binds K fd ps [] := by
  obtain ⟨oc, od, kV, doc, pm, an, cdv, ct, osl, rfl, lk, hcd⟩ := F.ex
  exact .all (h kV doc pm an cdv ct)
theorem fun_mk {x qual : Str} {st : Stmt} {f : Addr} {oc : Value} {od an : Option Addr} {osl : Array (Option Value)} {kV doc pm cdv ct : Value} (l : K.lookup f = some ⟨oc, od, .func (PySem.W.fnOf x qual (defArgs st) (defBody st) (defScope st) .none kV doc pm an cdv ct), osl⟩)
    (c : PySem.W.codeIn K cdv qual = true) (k : PySem.W.keepIn K (.ref f) = true) : Fun K x qual st f (PySem.W.fnOf x qual (defArgs st) (defBody st) (defScope st) .none kV doc pm an cdv ct) := ⟨⟨oc, od, kV, doc, pm, an, cdv, ct, osl, rfl, l, c⟩, k⟩
end
section
variable {X : Cx}
theorem pv (i : Nat) {x : Str} {pos : Pos} (hN : X.N[i]? = some x := by rfl) (hv : Vis X.env.scope x := by first | exact Or.inl rfl | exact Or.inr (Or.inl rfl) | exact Or.inr (Or.inr rfl)) (hd : (x == ("__debug__" : Str)) = false := by decide)
    (hcd : (x == ("__classdict__" : Str)) = false := by decide) : PE X (.Name x pos) (tVar i) := pe_var hN hv hd hcd
end
def Same (H H' : Hp) : Prop := ∀ b o, H b = some o → H' b = some o
theorem Same.refl (H : Hp) : Same H H := fun _ _ h => h
theorem Same.trans {H H1 H2 : Hp} (a : Same H H1) (b : Same H1 H2) : Same H H2 := fun c o h => b c o (a c o h)
theorem Same.free {H H' : Hp} (e : Same H H') {l : Addr} (h : H' l = Option.none) : H l = Option.none := by
  cases q : H l with
  | none => rfl
  | some o =>
    rw [e l o q] at h
    cases h
theorem Same.seq {K : PySem.W.Frag} {H H' : Hp} {a : Addr} {xs : List V} (e : Same H H') (h : SqL K H a xs) : SqL K H' a xs := by
  rcases h with (h | ⟨o, h⟩) | h
  · exact .inl (.inl (e _ _ h))
  · exact .inl (.inr ⟨o, e _ _ h⟩)
  · exact .inr h
section
variable {κ : Type} [DecidableEq κ]
end
end L2
set_option maxHeartbeats 4000000
namespace L2
open PySem PySem.Spec PyProof.Rows
def clOf (cells : List (Str × Addr)) : List (Str × NameKind) → List (Str × Addr) → List (Str × Addr)
  | [], acc => acc
  | (n, k) :: r, acc => if k == .free then (match cells.lookup n with | some c => clOf cells r ((n, c) :: acc) | none => clOf cells r acc) else clOf cells r acc
theorem clOf_go {env : Env} : ∀ (names : List (Str × NameKind)) (acc : List (Str × Addr)), (∀ y ∈ names, y.2 = .free → ∃ c, env.cells.lookup y.1 = some c) →
    (forIn names acc (fun (x : Str × NameKind) (cs : List (Str × Addr)) => (if (x.2 == .free) = true then do let a ← cellOf env x.1; pure (ForInStep.yield ((x.1, a) :: cs)) else pure (ForInStep.yield cs) : Sem (ForInStep (List (Str × Addr)))))) = pure (clOf env.cells names acc)
  | [], acc, _ => rfl
  | (n, k) :: r, acc, h => by
    have hr : ∀ y ∈ r, y.2 = .free → ∃ c, env.cells.lookup y.1 = some c := fun y hy => h y (List.mem_cons_of_mem _ hy)
    rw [List.forIn_cons]
    by_cases hk : (k == NameKind.free) = true
    · have e : k = .free := by simpa using hk
      obtain ⟨c, hc⟩ := h (n, k) List.mem_cons_self e
      have hc' : env.cells.lookup n = some c := hc
      simp only [clOf, hk, if_true, hc', cellOf]
      exact clOf_go r _ hr
    · simp only [clOf, hk]
      exact clOf_go r _ hr
theorem clOf_ok {scope : Scope} {env : Env} (h : ∀ y ∈ scope.names, y.2 = .free → ∃ c, env.cells.lookup y.1 = some c) : closureFor scope env = pure (clOf env.cells scope.names []) := by
  unfold closureFor
  exact congrArg (fun t => t >>= pure) (clOf_go scope.names [] h)
theorem clOf_sub {cells : List (Str × Addr)} : ∀ (names : List (Str × NameKind)) (acc : List (Str × Addr)) {x : Str} {c : Addr}, (clOf cells names acc).lookup x = some c → acc.lookup x = some c ∨ cells.lookup x = some c
  | [], acc, x, c, h => .inl h
  | (n, k) :: r, acc, x, c, h => by
    unfold clOf at h
    split at h
    · cases q : cells.lookup n with
      | none => rw [q] at h; exact clOf_sub r acc h
      | some d =>
        rw [q] at h
        rcases clOf_sub r _ h with z | z
        · rw [List.lookup_cons] at z
          by_cases hx : (x == n) = true
          · rw [hx] at z
            have e : x = n := by simpa using hx
            subst e
            right; rw [q]; exact z
          · have hx' : (x == n) = false := by simpa using hx
            rw [hx'] at z; exact .inl z
        · exact .inr z
    · exact clOf_sub r acc h
theorem clOf_keep {cells : List (Str × Addr)} : ∀ (names : List (Str × NameKind)) (acc : List (Str × Addr)) {x : Str} {c : Addr}, acc.lookup x = some c → cells.lookup x = some c → (clOf cells names acc).lookup x = some c
  | [], acc, x, c, h, _ => h
  | (n, k) :: r, acc, x, c, h, hc => by
    unfold clOf
    split
    · cases q : cells.lookup n with
      | none => exact clOf_keep r acc h hc
      | some d =>
        refine clOf_keep r _ ?_ hc
        rw [List.lookup_cons]
        by_cases hx : (x == n) = true
        · have e : x = n := by simpa using hx
          subst e
          rw [hx]; rw [q] at hc; exact hc
        · have hx' : (x == n) = false := by simpa using hx
          rw [hx']; exact h
    · exact clOf_keep r acc h hc
theorem clOf_has {cells : List (Str × Addr)} : ∀ (names : List (Str × NameKind)) (acc : List (Str × Addr)) {x : Str} {c : Addr}, (x, NameKind.free) ∈ names → cells.lookup x = some c → (clOf cells names acc).lookup x = some c
  | [], _, _, _, h, _ => nomatch h
  | (n, k) :: r, acc, x, c, h, hc => by
    rcases List.mem_cons.mp h with e | h
    · cases e
      unfold clOf
      rw [if_pos (by decide), hc]
      refine clOf_keep r _ ?_ hc
      rw [List.lookup_cons]; simp
    · unfold clOf
      split
      · cases q : cells.lookup n with
        | none => exact clOf_has r acc h hc
        | some d => exact clOf_has r _ h hc
      · exact clOf_has r acc h hc
theorem lookup_mem {α : Type} : ∀ {l : List (Str × α)} {x : Str} {a : α}, l.lookup x = some a → (x, a) ∈ l
  | [], _, _, h => by simp at h
  | (n, b) :: r, x, a, h => by
    rw [List.lookup_cons] at h
    by_cases hx : (x == n) = true
    · have e : x = n := by simpa using hx
      subst e
      rw [hx] at h
      have e2 : b = a := Option.some.inj h
      subst e2
      exact List.mem_cons_self
    · have hx' : (x == n) = false := by simpa using hx
      rw [hx'] at h
      exact List.mem_cons_of_mem _ (lookup_mem h)
theorem relabel_mem {env : Env} {scope : Scope} {x : Str} {k : NameKind} (h : (relabel scope env).names.lookup x = some k) (hk : k = .cell ∨ k = .free) (hc : ∀ y ∈ scope.names, y.2 ≠ .cell) : (x, NameKind.free) ∈ scope.names := by
  have h1 := lookup_mem h
  obtain ⟨⟨n, j⟩, hm, e⟩ := List.mem_map.mp h1
  have e' : (if (j == NameKind.free && env.scope.kind == .function && env.kindOf n == some .cell) = true then (n, NameKind.cell) else (n, j)) = (x, k) := e
  split at e'
  · rename_i hcond
    have e1 : n = x := (Prod.mk.inj e').1
    subst e1
    have hj : j = .free := by
      simp only [Bool.and_eq_true] at hcond
      simpa using hcond.1.1
    subst hj
    exact hm
  · have e1 : n = x := (Prod.mk.inj e').1
    have e2 : j = k := (Prod.mk.inj e').2
    subst e1; subst e2
    rcases hk with z | z
    · exact absurd z (hc _ hm)
    · subst z; exact hm
theorem lookup_relabel_free {env : Env} {scope : Scope} {x : Str} (h : scope.names.lookup x = some .free) : (relabel scope env).names.lookup x = some .cell ∨ (relabel scope env).names.lookup x = some .free := by
  have all : ∀ (names : List (Str × NameKind)), names.lookup x = some .free →
      (names.map fun (n, k) => if (k == NameKind.free && env.scope.kind == .function && env.kindOf n == some .cell) then (n, NameKind.cell) else (n, k)).lookup x = some .cell ∨
      (names.map fun (n, k) => if (k == NameKind.free && env.scope.kind == .function && env.kindOf n == some .cell) then (n, NameKind.cell) else (n, k)).lookup x = some .free := by
    intro names
    induction names with
    | nil => intro h; simp at h
    | cons p r ih =>
      obtain ⟨n, k⟩ := p
      intro h
      rw [List.map_cons]
      by_cases hx : (x == n) = true
      · simp only [List.lookup_cons, hx] at h
        have hk : k = .free := Option.some.inj h
        subst hk
        by_cases hc : (NameKind.free == NameKind.free && env.scope.kind == .function && env.kindOf n == some .cell) = true
        · left; simp only [if_pos hc, List.lookup_cons, hx]
        · right; simp only [if_neg hc, List.lookup_cons, hx]
      · have hx' : (x == n) = false := by simpa using hx
        simp only [List.lookup_cons, hx'] at h
        by_cases hc : (k == NameKind.free && env.scope.kind == .function && env.kindOf n == some .cell) = true
        · simp only [if_pos hc, List.lookup_cons, hx']; exact ih h
        · simp only [if_neg hc, List.lookup_cons, hx']; exact ih h
  exact all scope.names h
abbrev Cx.block (X : Cx) (scope : Scope) (C : Addr) (N : List Str) (s : Shared) (H : Hp) (fp : List Addr) : Cx where
  prog := X.prog
  w := X.w
  K := X.K
  mg := X.mg
  base := X.base
  A := X.A
  N := N
  s₀ := s
  H₀ := H
  env := compEnvC scope (clOf X.env.cells scope.names []) C X.env
  outer := X.stack
  stack := X.stack
  ex := fp
  fn := fun _ => false
  calm := X.calm
  pn := []
  xe := fun _ _ => False
structure CScope (env : Env) (scope : Scope) : Prop where
  kind : scope.kind = .function
  nocell : ∀ y ∈ scope.names, y.2 ≠ .cell
  fr : ∀ y ∈ scope.names, y.2 = .free → env.kindOf y.1 = some .cell ∨ env.kindOf y.1 = some .free
  loc : ∀ x ∈ scope.names, x.2 = .local → scope.names.lookup x.1 = some .local
def blk (sel : List (Option Nat)) (σ : St) : St := sel.map fun o => o.bind fun j => (σ[j]?).join
def SelOk (M : List Str) (scope : Scope) (N : List Str) (sel : List (Option Nat)) : Prop :=
  sel.length = N.length ∧ ∀ (i j : Nat) (x : Str), sel[i]? = some (some j) → N[i]? = some x → M[j]? = some x ∧ scope.names.lookup x = some .free
section
variable {X : Cx} {pins : List (Addr × Obj)} {σ : St} {H : Hp} {s : Shared} {scope : Scope} {fp : List Addr} {C : Addr} {N : List Str}
theorem CScope.cells (S : CScope X.env scope) (ok : X.Ok) : ∀ y ∈ scope.names, y.2 = .free → ∃ c, X.env.cells.lookup y.1 = some c := fun y hy e => ok.has y.1 (S.fr y hy e)
theorem cl_sub {x : Str} {c : Addr} (h : (clOf X.env.cells scope.names []).lookup x = some c) : X.env.cells.lookup x = some c := by
  rcases clOf_sub _ _ h with z | z
  · simp at z
  · exact z
theorem block_ok (I : Inv X pins σ H s) (S : CScope X.env scope) (hf : ∀ b ∈ fp, FpOk X pins H b) (hs : ∀ b ∈ fp, b < s.heap.objs.size) (hC : s.heap.objs.size ≤ C) : (X.block scope C N s H fp).Ok where
  mod := I.ok.mod
  kind := S.kind
  glob := I.ok.glob
  blt := I.ok.blt
  above := hC
  inj := fun x y c h1 h2 => I.ok.inj x y c (cl_sub h1) (cl_sub h2)
  has := fun x h => by
    have hk : ∃ k, (relabel scope X.env).names.lookup x = some k ∧ (k = .cell ∨ k = .free) := by
      rcases h with h | h
      · exact ⟨_, h, .inl rfl⟩
      · exact ⟨_, h, .inr rfl⟩
    obtain ⟨k, h1, h2⟩ := hk
    have hm := relabel_mem h1 h2 S.nocell
    obtain ⟨c, hc⟩ := S.cells I.ok _ hm rfl
    exact ⟨c, clOf_has _ _ hm hc⟩
  cab := fun _ _ h _ => nomatch h
  hd := I.ok.hd
  frames := I.ok.frames
  stk := .inl rfl
  exf := fun b hb => ⟨Nat.ne_of_lt (Nat.lt_of_lt_of_le (hs b hb) hC), fun x c e => (hf b hb).2.2.2.2.1 x c (cl_sub e)⟩
  bs := I.bs
  bsz := Nat.le_trans I.ok.bsz I.sz
  noex := fun b o e hb => by
    rcases (hf b hb).2.2.2.1 with z | z
    · exact I.ok.noex b o e z
    · exact absurd (Nat.lt_of_lt_of_le (Nat.lt_of_lt_of_le (Heap.lt_size e) I.ok.bsz) z) (Nat.lt_irrefl _)
  exfs := fun b hb hz => by
    rcases List.mem_cons.mp (I.stkSub b hz) with z | z
    · exact (hf b hb).2.1 z
    · exact (hf b hb).2.2.1 z
  funs := I.stack
  frf := I.stkFree
theorem block_inv {h' : Heap} {t' : Nat} {m : Str → Option Value} {sel : List (Option Nat)} (I : Inv X pins σ H s) (S : CScope X.env scope) (hf : ∀ b ∈ fp, FpOk X pins H b) (hs : ∀ b ∈ fp, b < s.heap.objs.size) (hC : s.heap.objs.size ≤ C)
    (k : ∀ b o, s.heap.get? b = some o → h'.get? b = some o) (hn : h'.Ns C m) (hsel : SelOk X.N scope N sel) : Inv (X.block scope C N s H fp) [] (blk sel σ) H { s with heap := h', toks := t' } where
  ok := block_ok I S hf hs hC
  os := rfl
  bare := I.bare
  base := Un.kept k
  loc := by
    refine ⟨m, hn, fun i x v e1 e2 e3 => ?_⟩
    obtain ⟨m0, hn0, hl⟩ := I.loc
    obtain ⟨j, ej, eσ⟩ : ∃ j, sel[i]? = some (some j) ∧ σ[j]? = some (some v) := by
      unfold blk at e2
      rw [List.getElem?_map] at e2
      cases q : sel[i]? with
      | none => rw [q] at e2; cases e2
      | some o =>
        rw [q] at e2
        cases o with
        | none => cases e2
        | some j =>
          refine ⟨j, rfl, ?_⟩
          have e2' : (σ[j]?).join = some v := Option.some.inj e2
          cases r : σ[j]? with
          | none => rw [r] at e2'; cases e2'
          | some z => rw [r] at e2'; exact congrArg some e2'
    obtain ⟨eN, hfr⟩ := hsel.2 i j x ej e1
    have hm := lookup_mem hfr
    have hk := S.fr _ hm rfl
    have hv : Vis X.env.scope x := hk.elim (fun z => .inr (.inl z)) fun z => .inr (.inr z)
    obtain ⟨u, r, l⟩ := hl j x v eN eσ hv
    refine ⟨u, r, ?_⟩
    rcases l with ⟨hloc, _⟩ | ⟨_, c, hc, hcell⟩
    · rcases hk with z | z <;> (have z' : X.env.kindOf x = _ := z; rw [hloc] at z'; cases z')
    · refine .inr ⟨?_, c, clOf_has _ _ hm hc, ?_⟩
      · exact lookup_relabel_free hfr
      · obtain ⟨o, ho, hd⟩ := hcell
        exact ⟨o, k _ _ ho, hd⟩
  cell := fun x c e => by
    obtain ⟨v, o, ho, hd⟩ := I.cell x c (cl_sub e)
    exact ⟨v, o, k _ _ ho, hd⟩
  free := I.hok.fresh hC
  freeC := fun x c e => I.freeC x c (cl_sub e)
  pin := fun p hp => nomatch hp
  hok := I.hok.kept k
  len := by unfold blk; rw [List.length_map]; exact hsel.1
theorem Inv.adopt {a : Addr} {o : HO} (I : Inv X pins σ H s) (fo : FpOk X pins H a) (new : ObjOk X.prog X.w (upd H a o) s.heap a o) : Inv X pins σ (upd H a o) s := by
  obtain ⟨hn, hL, hfs, hex, hcl, hpn⟩ := fo
  refine I.step (g' := s.gens) (d' := s.drawn) (t' := s.toks) (h' := s.heap) (ch := [a]) (fun b hb => ?_) (fun b o _ _ _ e _ => e) (fun b o _ _ _ e _ => ⟨o.slots, e⟩) (fun b o hb e n => ?_) (fun b o _ e => ⟨o, e⟩)
    (fun b xs e => ?_) (fun b o u e => ?_) (fun b ps e => ⟨#[], ?_⟩) (fun m hm => hm) (fun b u e => ?_) I.bare
  · have e : b = a := by simpa using hb
    subst e
    exact ⟨hex, hL, hcl, hpn⟩
  · rw [upd_ne (fun z => hb (by simp [z]))]; exact n
  · rw [upd_ne (ne_of_none e hn)]; exact e
  · rw [upd_ne (ne_of_none e hn)]; exact e
  · rw [upd_ne (ne_of_none e hn), e]; simp
  · by_cases hb : b = a
    · subst hb; rw [upd_same] at e; cases e; exact new
    · rw [upd_ne hb] at e
      exact (I.hok b u e).stay (fun c v _ q => q) (fun c q => by rw [upd_ne (ne_of_none q hn)]; exact q) fun c xs q => by rw [upd_ne (ne_of_none q hn)]; exact q
end
theorem codeAny_compLoop_all {prog : Program} {w : World} {A : Around} {R : Result → Shared → Prop} {s : Shared} {elt target iter : Expr} {ifs : List Expr} {scope : Scope} {pos : Pos} {it acc : Value} {env : Env} (I : Nat → Shared → Prop)
    (turn : ∀ n s, I n s → wpAny (model prog w) A (pyNext it) (fun r s₁ => match r with
      | none => R (.ok .next) s₁
      | some v => wpAny (model prog w) A (letOwnedTupleGo target it v) (fun _ s₀ => wpAny (model prog w) A (assign target env v) (fun _ s₂ =>
          wpAny (model prog w) A (forIn ifs true fun c r => if r = true then do let ok ← isTrue c env (eval c env); pure (ForInStep.yield ok) else pure (ForInStep.yield r)) (fun ok s₃ =>
            if ok = true then wpAny (model prog w) A (eval elt env) (fun x s₄ =>
              wpAny (model prog w) A (call (.builtin "list.append") [acc, x]) (fun _ s₅ => ∃ m, m < n ∧ I m s₅) (fun _ _ => False) s₄) (fun _ _ => False) s₃
            else ∃ m, m < n ∧ I m s₃) (fun _ _ => False) s₂) (fun _ _ => False) s₀) (fun _ _ => False) s₁) (fun _ _ => False) s)
    (n : Nat) (h : I n s) :
    codeAny (model prog w) A (.compLoop (.ListComp elt [⟨target, iter, ifs, 0⟩] scope pos) 0 it acc env) R s := by
  refine codeAny_loop rfl I (fun n s hI => ?_) n h
  show wpAny _ A ((compTurn (.ListComp elt [⟨target, iter, ifs, 0⟩] scope pos) 0 it acc env).onRaise (fun x => do noteFrame x env; theTreesLotGoes x)) _ _ s
  refine wpAny_noted (wpAny_noRaise ?_)
  rw [compTurn_list]
  refine wpAny_bind (wpAny_standAt (wpAny_bind (wpAny_mono (turn n s hI) (fun r s₁ h₁ => ?_) fun _ _ h' => h')))
  cases r with
  | none => exact wpAny_pure h₁
  | some v =>
    refine wpAny_bind (wpAny_mono h₁ (fun _ s₀ h₀ => ?_) fun _ _ h' => h')
    refine wpAny_bind (wpAny_mono h₀ (fun _ s₂ h₂ => wpAny_bind (wpAny_mono h₂ (fun ok s₃ h₃ => ?_) fun _ _ h' => h')) fun _ _ h' => h')
    cases ok with
    | false => exact wpAny_pure ⟨rfl, h₃⟩
    | true =>
      exact wpAny_bind (wpAny_bind (wpAny_mono h₃ (fun x s₄ h₄ => wpAny_bind (wpAny_mono h₄ (fun _ s₅ h₅ => wpAny_pure (wpAny_pure ⟨rfl, h₅⟩)) fun _ _ h' => h')) fun _ _ h' => h'))
def PTs (X : Cx) (ifs : List Expr) (t : TT) : Prop :=
  ∀ (pins : List (Addr × Obj)) (s : Shared) (σ : St) (H : Hp) (Q : Bool → Hp → Prop), Inv X pins σ H s → t σ H Q →
    wpAny (model X.prog X.w) X.A (forIn ifs true fun c r => if r = true then do let ok ← isTrue c X.env (eval c X.env); pure (ForInStep.yield ok) else pure (ForInStep.yield r)) (TP X pins σ Q) X.xe s
def tTrue : TT := fun _ H Q => Q true H
theorem pts_nil {X : Cx} : PTs X [] tTrue := fun _ _ _ H _ I h => wpAny_tests_nil ⟨H, I, h⟩
theorem pts_one {X : Cx} {c : Expr} {t : TT} (h : PT X c t) : PTs X [c] t := fun pins s σ H Q I q => wpAny_tests_one (h pins s σ H Q I q)
def Sub (σ σ' : St) : Prop := σ'.length = σ.length ∧ ∀ (i : Nat) (v : V), σ[i]? = some (some v) → σ'[i]? = some (some v)
theorem Sub.refl (σ : St) : Sub σ σ := ⟨rfl, fun _ _ h => h⟩
theorem Sub.set {σ σ' : St} {i : Nat} {x : Option V} (h : Sub σ σ') (e : σ[i]? = some none) : Sub σ (σ'.set i x) := by
  refine ⟨by rw [List.length_set]; exact h.1, fun j v q => ?_⟩
  have hj : i ≠ j := fun z => by subst z; rw [e] at q; cases q
  rw [List.getElem?_set_ne hj]
  exact h.2 j v q
def CompW (J : It) (g : TG) (tc : TT) (te : TE) (σb : St) (Q : VK) (W : Nat → Nat → List V → Hp → Prop) : Prop := ∀ i m ys H, W i m ys H →
  (J.stop i H ∧ ∀ p, H p = none → Q (.ref p) (upd H p (.lst ys))) ∨
  (J.go i H ∧ ys.length < sizeLine ∧ ∀ x H', J.yld i H x H' → g x σb H' fun σ2 H2 => Sub σb σ2 ∧ tc σ2 H2 fun c H3 => if c = true then te σ2 H3 fun y H4 => ∃ m', m' < m ∧ W (i + 1) m' (ys ++ [y]) H4 else ∃ m', m' < m ∧ W (i + 1) m' ys H3)
def tComp (wi : TI) (g : TG) (tc : TT) (te : TE) (sel : List (Option Nat)) : TE := fun σ H Q => wi σ H fun J H1 => ∃ W : Nat → Nat → List V → Hp → Prop, (∃ m, W 0 m [] H1) ∧ CompW J g tc te (blk sel σ) Q W
section
variable {X : Cx} {elt tg iter : Expr} {ifs : List Expr} {scope : Scope} {pos : Pos} {wi : TI} {g : TG} {tc : TT} {te : TE} {N : List Str} {sel : List (Option Nat)}
structure Blk (X : Cx) (scope : Scope) (N : List Str) (tg elt : Expr) (ifs : List Expr) (g : TG) (tc : TT) (te : TE) : Prop where
  tgt : ∀ C s H fp, PG (X.block scope C N s H fp) tg g
  tests : ∀ C s H fp, PTs (X.block scope C N s H fp) ifs tc
  elem : ∀ C s H fp, PE (X.block scope C N s H fp) elt te
theorem Blk.of {X : Cx} {scope : Scope} {N : List Str} {tg elt : Expr} {ifs : List Expr} {g : TG} {tc : TT} {te : TE} (h1 : ∀ C s H fp, PG (X.block scope C N s H fp) tg g)
    (h2 : ∀ C s H fp, ∃ t, PTs (X.block scope C N s H fp) ifs t ∧ t = tc) (h3 : ∀ C s H fp, ∃ t, PE (X.block scope C N s H fp) elt t ∧ t = te) : Blk X scope N tg elt ifs g tc te :=
  ⟨h1, fun C s H fp => by obtain ⟨t, h, rfl⟩ := h2 C s H fp; exact h, fun C s H fp => by obtain ⟨t, h, rfl⟩ := h3 C s H fp; exact h⟩
theorem comp_core {pins : List (Addr × Obj)} {s₂ : Shared} {σ : St} {H₂ : Hp} {Q : VK} {it : Addr} {fp : List Addr} {tn : Nat → Heap → Prop} {J : It} {W : Nat → Nat → List V → Hp → Prop} {E : Value → Shared → Prop} {RR : Value → Addr → Result → Shared → Prop}
    (hc : X.calm = true) (S : CScope X.env scope) (hsel : SelOk X.N scope N sel) (B : Blk X scope N tg elt ifs g tc te) (I2 : Inv X pins σ H₂ s₂) (T : Turn X.prog X.w X.K tg J fp it tn) (st2 : tn 0 s₂.heap) (f2 : ∀ b ∈ fp, FpOk X pins H₂ b)
    (w0 : ∃ m, W 0 m [] H₂) (hW : CompW J g tc te (blk sel σ) Q W)
    (fin : ∀ D C ys H' s', Inv X pins σ (upd H' D (.lst ys)) s' → (∃ m, s'.heap.Ns C m) → FpOk X pins (upd H' D (.lst ys)) C → Q (.ref D) (upd H' D (.lst ys)) → RR (.ref D) C (.ok .next) s') :
    wpAny (model X.prog X.w) X.A (newList []) (fun acc s₃ => wpAny (model X.prog X.w) X.A (newFunctionEnv scope X.env.globals (clOf X.env.cells scope.names []) [] X.env.qual none .none (some X.env)) (fun cenv s₄ =>
      codeAny (model X.prog X.w) X.A (.compStart (.ListComp elt [⟨tg, iter, ifs, 0⟩] scope pos) 0 (.ref it) acc { cenv with scope := relabel scope X.env }) (RR acc cenv.locals) s₄) E s₃) E s₂ := by
  refine wpAny_newObj_type (wpAny_newFunctionEnv S.nocell (by intro y hy; simp at hy) (fun h₁ hns₁ hsb₁ => ?_) S.kind)
  dsimp only at hns₁ hsb₁ ⊢
  generalize hH2 : s₂.heap.push { cls := .type "list", dict := none, data := .seq ([] : List Value).toArray } = H2 at hns₁ hsb₁ ⊢
  have hC : H2.objs.size = s₂.heap.objs.size + 1 := by rw [← hH2, Heap.size_push]
  have hDC : s₂.heap.objs.size ≠ H2.objs.size := by rw [hC]; exact Nat.ne_of_lt (Nat.lt_succ_self _)
  have hCle : s₂.heap.objs.size ≤ H2.objs.size := by rw [hC]; exact Nat.le_succ _
  have below : ∀ b, b < s₂.heap.objs.size → b ≠ H2.objs.size ∧ b ≠ s₂.heap.objs.size := fun b hb => ⟨by rw [hC]; exact Nat.ne_of_lt (Nat.lt_succ_of_lt hb), Nat.ne_of_lt hb⟩
  have old : ∀ b o, s₂.heap.get? b = some o → h₁.get? b = some o := fun b o e => hsb₁.extBut b o (below b (Heap.lt_size e)).1 (Heap.get?_push_of_some _ (hH2 ▸ Heap.get?_push_of_some _ e))
  have hacc : h₁.get? s₂.heap.objs.size = some { cls := .type "list", data := .seq ([] : List Value).toArray } := hsb₁.extBut _ _ hDC (Heap.get?_push_of_some _ (hH2 ▸ Heap.get?_push_size _ rfl))
  have fps : ∀ b ∈ fp, b < s₂.heap.objs.size := fun b hb => by
    obtain ⟨o, e, _⟩ := T.obj _ _ st2 b hb
    exact Heap.lt_size e
  generalize hCe : H2.objs.size = C at *
  generalize hDe : s₂.heap.objs.size = D at *
  have st1 : tn 0 h₁ := T.keep _ _ _ st2 fun b _ o e => old b o e
  have IB0 : Inv (X.block scope C N s₂ H₂ fp) [] (blk sel σ) H₂ { s₂ with heap := h₁, toks := s₂.toks + ([] : List (Str × Value)).length } :=
    block_inv I2 S f2 (fun b hb => by rw [hDe]; exact fps b hb) (by rw [hDe]; exact hCle) old hns₁ hsel
  have hDfs : D ∉ (X.block scope C N s₂ H₂ fp).fs := fun z => by
    have z' := I2.stkSub D z
    rcases List.mem_cons.mp z' with e | e
    · exact absurd I2.lt (by rw [← e, hDe]; exact Nat.lt_irrefl _)
    · exact I2.nofs (by rw [hDe]; exact Nat.le_refl _) e
  have loop : ∀ s₃ : Shared, s₃ = { s₂ with heap := h₁, toks := s₂.toks + ([] : List (Str × Value)).length } →
      codeAny (model X.prog X.w) X.A (.compLoop (.ListComp elt [⟨tg, iter, ifs, 0⟩] scope pos) 0 (.ref it) (.ref D) (compEnvC scope (clOf X.env.cells scope.names []) C X.env)) (RR (.ref D) C) s₃ := by
    rintro s₃ rfl
    obtain ⟨m0, w0⟩ := w0
    refine codeAny_compLoop_all (fun k s' => ∃ i ys us n H', Inv (X.block scope C N s₂ H₂ fp) [(D, { cls := .type "list", data := .seq us n })] (blk sel σ) H' s' ∧ (∃ vs : List Value, us = vs.toArray ∧ Vals ys vs) ∧ ys.length ≤ sizeLine ∧ tn i s'.heap ∧ (∀ b ∈ fp, H' b = none) ∧ W i k ys H') ?_ m0
      ⟨0, [], _, 0, H₂, IB0.pins_of fun p hp => ?_, ⟨[], rfl, .nil⟩, Nat.zero_le _, st1, fun b hb => (f2 b hb).1, w0⟩
    · rintro k s' ⟨i, ys, us, n, H', IB, ⟨vs, rfl, rv⟩, hyz, st, fr, w⟩
      have fpB : ∀ {pl : List (Addr × Obj)} {H'' : Hp}, (∀ p ∈ pl, p.1 = D) → (∀ b ∈ fp, H'' b = none) → ∀ b ∈ fp, FpOk (X.block scope C N s₂ H₂ fp) pl H'' b := fun {pl H''} hp hn b hb =>
        ⟨hn b hb, (below b (fps b hb)).1, (block_ok (N := N) (C := C) I2 S f2 (fun b hb => by rw [hDe]; exact fps b hb) (by rw [hDe]; exact hCle)).exfs b hb, .inl hb, fun x c e => (f2 b hb).2.2.2.2.1 x c (cl_sub e), fun p hpp z => by
          have hpp' : p ∈ pl := by simpa using hpp
          exact (below b (fps b hb)).2 (by rw [← z]; exact hp p hpp')⟩
      have hD1 : ∀ p ∈ [((D, { cls := .type "list", data := .seq vs.toArray n }) : Addr × Obj)], p.1 = D := fun p hp => by
        have e : p = (D, { cls := .type "list", data := .seq vs.toArray n }) := by simpa using hp
        rw [e]
      rcases hW i k ys H' w with ⟨stop, qn⟩ | ⟨go, hlen, step⟩
      · refine thn (T.done (X.block scope C N s₂ H₂ fp) rfl rfl rfl hc i _ s' _ H' _ IB (fpB hD1 fr) st stop) fun r s4 ⟨hr, I4⟩ => ?_
        subst hr
        -- the block is left
        have pD := I4.pin (D, { cls := .type "list", data := .seq vs.toArray n }) (by simp)
        have hDn : H' D = none := pD.2.1
        have IX : Inv X pins σ H' s4 := I2.call' (ch := fp) I4.os I4.base I4.hok I4.bare fun b hb => ⟨(f2 b hb).2.2.2.1, (f2 b hb).2.1, (f2 b hb).2.2.2.2.1, (f2 b hb).2.2.2.2.2⟩
        have foD : FpOk X pins H' D := I2.fpOk (by rw [hDe]; exact Nat.le_refl _) hDn
        have IA : Inv X pins σ (upd H' D (.lst ys)) s4 := IX.adopt foD ⟨hyz, vs, n, rv, pD.1⟩
        obtain ⟨mC, hnC, _⟩ := I4.loc
        refine fin D C ys H' s4 IA ⟨mC, hnC⟩ (I2.fpOk (by rw [hDe]; exact hCle) ?_) (qn D hDn)
        rw [upd_ne (Ne.symm hDC)]
        exact I4.free
      · refine thn (T.item (X.block scope C N s₂ H₂ fp) rfl rfl rfl hc i _ s' _ H' _ IB (fpB hD1 fr) st go) fun r s4 ⟨u, hr, h4⟩ => ?_
        subst hr
        refine thn h4 fun _ s5 ⟨x, H5, I5, r5, y5, st5, fr5⟩ => ?_
        have I5' := I5.pinned (fpB hD1 fr5) (T.obj _ _ st5)
        refine thn (B.tgt C s₂ H₂ fp _ s5 _ H5 x u _ I5' r5 (step x H5 y5)) fun _ s6 ⟨σ6, H6, I6, sb, q6⟩ => ?_
        refine thn (B.tests C s₂ H₂ fp _ s6 σ6 H6 _ I6 q6) fun c s7 ⟨H7, I7, q7⟩ => ?_
        have again : ∀ {σ8 : St} {H8 : Hp} {s8 : Shared}, Inv (X.block scope C N s₂ H₂ fp) ([(D, { cls := .type "list", data := .seq vs.toArray n })] ++ pinsAt fp s5.heap) σ8 H8 s8 → tn (i + 1) s8.heap ∧ (∀ b ∈ fp, H8 b = none) := fun {σ8 H8 s8} I8 => by
          refine ⟨T.keep _ _ _ st5 fun b hb o e => (I8.pin (b, o) (List.mem_append_right _ (List.mem_append_right _ (mem_pinsAt hb e)))).1, fun b hb => ?_⟩
          obtain ⟨o, e, d⟩ := T.obj _ _ st5 b hb
          exact (I8.pin (b, o) (List.mem_append_right _ (List.mem_append_right _ (mem_pinsAt hb e)))).2.1
        have back : ∀ {H8 : Hp} {s8 : Shared} {pl : List (Addr × Obj)}, Inv (X.block scope C N s₂ H₂ fp) pl σ6 H8 s8 → Inv (X.block scope C N s₂ H₂ fp) pl (blk sel σ) H8 s8 := fun {H8 s8 pl} I8 => I8.weak sb.1.symm sb.2
        cases c with
        | false =>
          obtain ⟨m', hm, w'⟩ := q7
          obtain ⟨t1, t2⟩ := again I7
          exact ⟨m', hm, i + 1, ys, _, n, H7, back I7.unpinned, ⟨vs, rfl, rv⟩, hyz, t1, t2, w'⟩
        | true =>
          refine thn (B.elem C s₂ H₂ fp _ s7 σ6 H7 _ I7 q7) fun v s8 ⟨y, H8, I8, r8, m', hm, w'⟩ => ?_
          obtain ⟨t1, t2⟩ := again I8
          have pD := I8.pin (D, { cls := .type "list", data := .seq vs.toArray n }) (by simp)
          refine append_at (hsz := by have := rv.length; rw [List.size_toArray]; omega) pD.1 fun h9 hs9 hD9 => ?_
          have IB' : Inv (X.block scope C N s₂ H₂ fp) [] (blk sel σ) H8 s8 := (back I8).pins_of fun p hp => nomatch hp
          have foD : FpOk (X.block scope C N s₂ H₂ fp) [] H8 D := ⟨pD.2.1, hDC, hDfs, .inr (by show s₂.heap.objs.size ≤ D; rw [hDe]; exact Nat.le_refl _), (fun x c e z => by
            obtain ⟨cv, o, ho, hd⟩ := I8.cell x c e
            rw [z, pD.1] at ho
            cases ho
            cases hd), (fun p hp => nomatch hp)⟩
          have I9 : Inv (X.block scope C N s₂ H₂ fp) [] (blk sel σ) H8 { s8 with heap := h9 } := IB'.turned (t' := s8.toks) (it := D) (fun b o hb e => (hs9.2 b hb).trans e) foD.1 foD.2.1 foD.2.2.2.1 foD.2.2.2.2.1 foD.2.2.2.2.2
          refine ⟨m', hm, i + 1, ys ++ [y], vs.toArray.push v, n + 1, H8, I9.pins_of fun p hp => ?_, ⟨vs ++ [v], by simp, Paired.snoc rv r8⟩, by rw [List.length_append, List.length_singleton]; omega, T.keep _ _ _ t1 fun b hb o e => (hs9.2 b (below b (fps b hb)).2).trans e, t2, w'⟩
          have e : p = (D, { cls := .type "list", data := .seq (vs.toArray.push v) (n + 1) }) := by simpa using hp
          subst e
          exact ⟨hD9, pD.2.1, hDC, hDfs, fun v z => by cases z⟩
    · have e : p = (D, { cls := .type "list", data := .seq ([] : List Value).toArray }) := by simpa using hp
      subst e
      exact ⟨hacc, I2.hok.fresh (by rw [hDe]; exact Nat.le_refl _), hDC, hDfs, fun v z => by cases z⟩
  exact codeAny_compStart_list (loop _ rfl) (T.self _ 0 _ _ _ st1 (loop _ rfl))
theorem pe_comp (hc : X.calm = true) (hi : PI X tg iter wi) (S : CScope X.env scope) (hsel : SelOk X.N scope N sel) (B : Blk X scope N tg elt ifs g tc te)
    (hs : ∀ x, foldedSetIterable iter X.env x = pure x := by intro _; rfl) : PE X (.ListComp elt [⟨tg, iter, ifs, 0⟩] scope pos) (tComp wi g tc te sel) := by
  intro pins s σ H Q I h
  rw [eval_ListComp]
  refine wpAny_comprehension_free (use := none) rfl hs (clOf_ok (S.cells I.ok)) S.kind S.loc ?_
  refine thn (hi pins s σ H _ I h) fun v s1 h1 => thn h1 fun itv s2 h2 => ?_
  obtain ⟨it, fp, tn, J, H2, e, I2, T, st2, f2, W, w0, hW⟩ := h2
  subst e
  refine comp_core (RR := fun acc C => compPost (model X.prog X.w) X.A X.xe none (EP X pins σ Q) acc C) hc S hsel B I2 T st2 f2 w0 hW fun D C ys H' s' I' ⟨m, hm⟩ fo q => ?_
  exact ⟨m, hm, fun h' hsb => ⟨.ref D, _, I'.turned (t' := s'.toks) (it := C) (fun b o hb e => (hsb.2 b hb).trans e) fo.1 fo.2.1 fo.2.2.2.1 fo.2.2.2.2.1 fo.2.2.2.2.2, rfl, q⟩⟩
theorem ps_setComp {i : Nat} {y : Str} {py spos : Pos} (hN : X.N.Nodup) (hi : X.N[i]? = some y) (hx : Loc X.env.scope y) (hc : X.calm = true) (hit : PI X tg iter wi) (S : CScope X.env scope) (hsel : SelOk X.N scope N sel) (B : Blk X scope N tg elt ifs g tc te)
    (hsw : swapsWith (.ListComp elt [⟨tg, iter, ifs, 0⟩] scope pos) (some (.Name y py)) spos.line X.env = pure true) (hf : X.fn y = true ∨ X.env.scope.names.lookup y = some .local := by first | exact .inl rfl | exact .inr rfl | assumption)
    (hs : ∀ x, foldedSetIterable iter X.env x = pure x := by intro _; rfl) : PS X (.Assign [.Name y py] (.ListComp elt [⟨tg, iter, ifs, 0⟩] scope pos) spos) (tAsg (tComp wi g tc te sel) (gName i)) := by
  intro pins s σ H D I h
  rw [exec_Assign_Name_used _ _ _ _ hsw]
  refine wpAny_bind (wpAny_standAt (wpAny_bind ?_))
  show wpAny _ X.A (do let _ ← comprehension (.ListComp elt [⟨tg, iter, ifs, 0⟩] scope pos) scope X.env _ (newList []) false (eval iter X.env) (some (assign (.Name y py) X.env))) _ _ s
  refine wpAny_bind (wpAny_mono (wpAny_comprehension_free (use := some (assign (.Name y py) X.env)) (Q := fun _ s' => SP X pins D .next s') rfl hs (clOf_ok (S.cells I.ok)) S.kind S.loc ?_) (fun _ s' hq => wpAny_pure (wpAny_pure hq)) fun _ _ e => e)
  refine thn (hit pins s σ H _ I h) fun v s1 h1 => thn h1 fun itv s2 h2 => ?_
  obtain ⟨it, fp, tn, J, H2, e, I2, T, st2, f2, W, w0, hW⟩ := h2
  subst e
  refine comp_core (RR := fun acc C => compPost (model X.prog X.w) X.A X.xe (some (assign (.Name y py) X.env)) (fun _ s' => SP X pins D .next s') acc C) hc S hsel B I2 T st2 f2 w0 hW fun Da C ys H' s' I' ⟨m, hm⟩ fo q => ?_
  show wpAny _ X.A (assign (.Name y py) X.env (.ref Da)) _ _ _
  refine wpAny_assign_Name (store_ok2 I' hN hi hx (show RelV (.ref Da) (.ref Da) from rfl) (fun s3 I3 ⟨a, hsb, ha⟩ => ?_) hf)
  have hCa : C ≠ a := by
    rcases ha with z | z
    · rw [z]; exact fo.2.1
    · exact fun w => fo.2.2.2.2.1 y a z w.symm
  refine ⟨m, hm.sameBut hsb hCa, fun h' hsb' => ⟨_, _, I3.turned (t' := s3.toks) (it := C) (fun b o hb e => (hsb'.2 b hb).trans e) fo.1 fo.2.1 fo.2.2.2.1 fo.2.2.2.2.1 fo.2.2.2.2.2, q⟩⟩
end
def CompTurn (Pv : Nat → List V → Hp → Prop) (g : TG) (tc : TT) (te : TE) (σb : St) (i : Nat) (x : V) (ys : List V) (H : Hp) : Prop :=
  ∀ N : List V → Hp → Prop, (∀ ys' H', Pv (i + 1) ys' H' → N ys' H') → g x σb H fun σ2 H2 => Sub σb σ2 ∧ tc σ2 H2 fun c H3 => if c = true then te σ2 H3 fun y H4 => N (ys ++ [y]) H4 else N ys H3
theorem comp_list {K : PySem.W.Frag} {a : Addr} {xs : List V} {g : TG} {tc : TT} {te : TE} {σb : St} {Q : VK} {H : Hp} (Pv : Nat → List V → Hp → Prop) (hz : xs.length ≤ sizeLine) (h0 : Pv 0 [] H) (hl : ∀ i ys H, i ≤ xs.length → Pv i ys H → SqL K H a xs ∧ ys.length ≤ i)
    (hs : ∀ i x ys H, xs[i]? = some x → Pv i ys H → CompTurn Pv g tc te σb i x ys H) (hd : ∀ ys H, Pv xs.length ys H → ∀ p, H p = none → Q (.ref p) (upd H p (.lst ys))) :
    ∃ W : Nat → Nat → List V → Hp → Prop, (∃ m, W 0 m [] H) ∧ CompW (Itl K a) g tc te σb Q W := by
  refine ⟨fun i m ys H => m = xs.length - i ∧ i ≤ xs.length ∧ Pv i ys H, ⟨xs.length, by simp, Nat.zero_le _, h0⟩, ?_⟩
  rintro i m ys H ⟨rfl, hi, p⟩
  have q := (hl i ys H hi p).1
  have hyl := (hl i ys H hi p).2
  by_cases hlt : i < xs.length
  · refine .inr ⟨⟨xs, xs[i], q, by simp [hlt]⟩, by omega, fun x H' y => ?_⟩
    obtain ⟨e, y⟩ := y
    subst e
    exact hs i x ys _ (y xs q) p (fun ys' H' => ∃ m', m' < xs.length - i ∧ m' = xs.length - (i + 1) ∧ i + 1 ≤ xs.length ∧ Pv (i + 1) ys' H') fun ys' H' r => ⟨xs.length - (i + 1), by omega, rfl, hlt, r⟩
  · have e : i = xs.length := by omega
    subst e
    exact .inl ⟨⟨xs, q, Nat.le_refl _⟩, hd ys H p⟩
theorem comp_range {lo : Int} {n : Nat} {g : TG} {tc : TT} {te : TE} {σb : St} {Q : VK} {H : Hp} (Pv : Nat → List V → Hp → Prop) (hz : n ≤ sizeLine) (h0 : Pv 0 [] H) (hl : ∀ i ys H, i ≤ n → Pv i ys H → ys.length ≤ i)
    (hs : ∀ i ys H, i < n → Pv i ys H → CompTurn Pv g tc te σb i (.int (lo + i)) ys H) (hd : ∀ ys H, Pv n ys H → ∀ p, H p = none → Q (.ref p) (upd H p (.lst ys))) :
    ∃ W : Nat → Nat → List V → Hp → Prop, (∃ m, W 0 m [] H) ∧ CompW (Itr lo n) g tc te σb Q W := by
  refine ⟨fun i m ys H => m = n - i ∧ i ≤ n ∧ Pv i ys H, ⟨n, by simp, Nat.zero_le _, h0⟩, ?_⟩
  rintro i m ys H ⟨rfl, hi, p⟩
  have hyl := hl i ys H hi p
  by_cases hlt : i < n
  · refine .inr ⟨hlt, by omega, fun x H' y => ?_⟩
    obtain ⟨e, y⟩ := y
    subst e y
    exact hs i ys _ hlt p (fun ys' H' => ∃ m', m' < n - i ∧ m' = n - (i + 1) ∧ i + 1 ≤ n ∧ Pv (i + 1) ys' H') fun ys' H' r => ⟨n - (i + 1), by omega, rfl, hlt, r⟩
  · have e : i = n := by omega
    subst e
    exact .inl ⟨Nat.le_refl _, hd ys H p⟩
end L2
namespace L2
open PySem PySem.Spec PyProof.Rows
def Its (xs : List V) : It := ⟨fun i _ => i < xs.length, fun i H x H' => H' = H ∧ xs[i]? = some x, fun i _ => xs.length ≤ i⟩
def sign (c : Nat) : Str := ⟨#[c]⟩
def signsV (x : Str) : List V := x.cps.toList.map fun c => V.str (sign c)
section
variable {X : Cx} {tg : Expr}
def iStr (tl : TE) : TI := fun σ H R => tl σ H fun x H1 => ∃ z, x = .str z ∧ R (Its (signsV z)) H1
end
theorem for_its {xs : List V} {g : TG} {tb : TS} {D : Ends} {σ : St} {H : Hp} (Pv : Nat → St → Hp → Prop) (h0 : Pv 0 σ H)
    (hs : ∀ i x σ H, xs[i]? = some x → Pv i σ H → g x σ H fun σ2 H2 => tb { D with nx := Pv (i + 1), ct := Pv (i + 1), bk := D.nx } σ2 H2) (hd : ∀ σ H, Pv xs.length σ H → D.nx σ H) :
    ∃ W : Nat → Nat → St → Hp → Prop, (∃ m, W 0 m σ H) ∧ ∀ i m σ H, W i m σ H →
      ((Its xs).stop i H ∧ D.nx σ H) ∨ ((Its xs).go i H ∧ ∃ N : St → Hp → Prop, (∀ σ' H', N σ' H' → ∃ m', m' < m ∧ W (i + 1) m' σ' H') ∧ ∀ x H', (Its xs).yld i H x H' → g x σ H' fun σ2 H2 => tb { D with nx := N, ct := N, bk := D.nx } σ2 H2) := by
  refine ⟨fun i m σ H => m = xs.length - i ∧ i ≤ xs.length ∧ Pv i σ H, ⟨xs.length, by simp, Nat.zero_le _, h0⟩, ?_⟩
  rintro i m σ H ⟨rfl, hi, p⟩
  by_cases hlt : i < xs.length
  · refine .inr ⟨hlt, Pv (i + 1), fun σ' H' p' => ⟨xs.length - (i + 1), by omega, rfl, hlt, p'⟩, fun x H' y => ?_⟩
    obtain ⟨e, y⟩ := y
    subst e
    exact hs i x σ _ y p
  · have e : i = xs.length := by omega
    subst e
    exact .inl ⟨Nat.le_refl _, hd σ H p⟩
theorem comp_its {xs : List V} {g : TG} {tc : TT} {te : TE} {σb : St} {Q : VK} {H : Hp} (Pv : Nat → List V → Hp → Prop) (hz : xs.length ≤ sizeLine) (h0 : Pv 0 [] H) (hl : ∀ i ys H, i ≤ xs.length → Pv i ys H → ys.length ≤ i)
    (hs : ∀ i x ys H, xs[i]? = some x → Pv i ys H → CompTurn Pv g tc te σb i x ys H) (hd : ∀ ys H, Pv xs.length ys H → ∀ p, H p = none → Q (.ref p) (upd H p (.lst ys))) :
    ∃ W : Nat → Nat → List V → Hp → Prop, (∃ m, W 0 m [] H) ∧ CompW (Its xs) g tc te σb Q W := by
  refine ⟨fun i m ys H => m = xs.length - i ∧ i ≤ xs.length ∧ Pv i ys H, ⟨xs.length, by simp, Nat.zero_le _, h0⟩, ?_⟩
  rintro i m ys H ⟨rfl, hi, p⟩
  have hyl := hl i ys H hi p
  by_cases hlt : i < xs.length
  · refine .inr ⟨hlt, by omega, fun x H' y => ?_⟩
    obtain ⟨e, y⟩ := y
    subst e
    exact hs i x ys _ y p (fun ys' H' => ∃ m', m' < xs.length - i ∧ m' = xs.length - (i + 1) ∧ i + 1 ≤ xs.length ∧ Pv (i + 1) ys' H') fun ys' H' r => ⟨xs.length - (i + 1), by omega, rfl, hlt, r⟩
  · have e : i = xs.length := by omega
    subst e
    exact .inl ⟨Nat.le_refl _, hd ys H p⟩
section
variable {X : Cx}
def rSlS : V → Option Int → Option Int → Hp → VK → Prop := fun x lo hi H Q => ∃ z, x = .str z ∧ z.length ≤ sizeLine ∧ Q (.str (Txt.slice z lo hi)) H
def strsV (ys : List Str) : List V := ys.map V.str
def rJoin (K : PySem.W.Frag) : V → List V → Hp → VK → Prop := fun x vs H Q => ∃ sep p ys, x = .str sep ∧ vs = [.ref p] ∧ SqL K H p (strsV ys) ∧ (ys.map (·.length)).sum + ys.length * sep.length ≤ 16777216 ∧ Q (.str (Txt.join sep ys)) H
end
section
variable {X : Cx}
def rSplit : V → List V → Hp → VK → Prop := fun x vs H Q => ∃ z y, x = .str z ∧ vs = [.str y] ∧ y.length ≠ 0 ∧ z.length + 2 ≤ sizeLine ∧ (Txt.split z y).length ≤ sizeLine ∧ ∀ p, H p = none → Q (.ref p) (upd H p (.lst (strsV (Txt.split z y))))
def rIndexS : V → List V → Hp → VK → Prop := fun x vs H Q => ∃ z y i rest, x = .str z ∧ vs = [.str y] ∧ Builtin.Str.occurrences z y 0 z.length 1 = i :: rest ∧ Q (.int (i : Nat)) H
theorem call_isi : CallR X (.builtin "isinstance") (fun xs H Q => ∃ x T t b, xs = [x, .ty T] ∧ TyOf X.K H x t ∧ PySem.W.kitOne X.K t (.type T) = some b ∧ Q (.bl b) H) := by
  intro pins s σ H xs us Q I r h
  obtain ⟨x, T, t, b, rfl, ty, e, q⟩ := h
  obtain ⟨u, u2, rfl, rx, r2⟩ := vals2 r
  cases r2
  exact isinst_ok I rx ty e fun tk => ⟨.bl b, H, I.tok _, rfl, q⟩
end
end L2
namespace L2
open PySem PySem.Spec PyProof.Rows
theorem nd_of {X : Cx} {N : List Str} (h : N.Nodup) (e : X.N = N) : X.N.Nodup := e ▸ h
def cscopeB (sc scope : Scope) : Bool :=
  (scope.kind == .function) && scope.names.all (fun y => y.2 != .cell) && scope.names.all (fun y => y.2 != .free || sc.names.lookup y.1 == some .cell || sc.names.lookup y.1 == some .free) &&
    scope.names.all (fun y => y.2 != .local || scope.names.lookup y.1 == some .local)
theorem cscope_of {env : Env} {sc scope : Scope} (he : env.scope = sc) (h : cscopeB sc scope = true) : CScope env scope := by
  subst he
  unfold cscopeB at h
  simp only [Bool.and_eq_true, List.all_eq_true] at h
  obtain ⟨⟨⟨h1, h2⟩, h3⟩, h4⟩ := h
  refine ⟨by simpa using h1, fun y hy e => ?_, fun y hy e => ?_, fun y hy e => ?_⟩
  · have := h2 y hy
    rw [e] at this
    exact absurd this (by decide)
  · have := h3 y hy
    rw [e] at this
    simp only [Bool.or_eq_true] at this
    rcases this with (z | z) | z
    · exact absurd z (by decide)
    · exact .inl (show env.scope.names.lookup y.1 = some .cell by simpa using z)
    · exact .inr (show env.scope.names.lookup y.1 = some .free by simpa using z)
  · have := h4 y hy
    rw [e] at this
    simp only [Bool.or_eq_true] at this
    rcases this with z | z
    · exact absurd z (by decide)
    · simpa using z
def selB (M : List Str) (scope : Scope) (N : List Str) (sel : List (Option Nat)) : Bool :=
  sel.length == N.length && (sel.zip N).all fun p => match p.1 with | none => true | some j => M[j]? == some p.2 && scope.names.lookup p.2 == some .free
theorem selOk_of {M : List Str} {scope : Scope} {N : List Str} {sel : List (Option Nat)} (h : selB M scope N sel = true) : SelOk M scope N sel := by
  unfold selB at h
  simp only [Bool.and_eq_true, List.all_eq_true] at h
  refine ⟨by simpa using h.1, fun i j x e1 e2 => ?_⟩
  have hm : (some j, x) ∈ sel.zip N := by
    rw [List.mem_iff_getElem?]
    exact ⟨i, by rw [List.getElem?_zip_eq_some]; exact ⟨e1, e2⟩⟩
  have := h.2 _ hm
  simp only [Bool.and_eq_true] at this
  exact ⟨by simpa using this.1, by simpa using this.2⟩
def noT : HO → Bool
  | .dT _ => false
  | .frz _ u => noT u
  | _ => true
def NoT (H : Hp) : Prop := ∀ b o, H b = some o → noT o = true
theorem ObjOk.back {P : Program} {w : World} {H H' : Hp} {h h' : Heap} {a : Addr} : ∀ (o : HO), noT o = true → ObjOk P w H' h' a o → ObjOk P w H h a o → ObjOk P w H h' a o
  | .lst _, _, x, _ => x
  | .tup _, _, x, _ => x
  | .dK _, _, x, _ => x
  | .dT _, e, _, _ => absurd e (by unfold noT; decide)
  | .set _ _, _, x, _ => x
  | .ins _ _ _, _, x, y => ⟨y.1, x.2⟩
  | .own _, _, x, _ => x
  | .xd _, _, x, _ => x
  | .met _ _, _, x, _ => x
  | .rng _ _, _, x, _ => x
  | .frz ob u, e, x, y => ⟨x.1, ObjOk.back u (by unfold noT at e; exact e) x.2 y.2⟩
  | .tbl _, _, x, _ => x
  | .ext _, _, x, _ => x
section
variable {P : Program} {w : World} {K : PySem.W.Frag} {mg : Str → Option Value} {base : Heap}
theorem FnOk.forget {k : Nat} {f : Addr} {fd : FuncData} {ps : List Str} {sp sp' : Sp} (F : FnOk P w K mg base CX0 k f fd ps sp)
    (h : ∀ vs H Q E, sp' vs H Q E → NoT H ∧ sp vs H (fun v H' => Same H H' ∧ Q v H) E) : FnOk P w K mg base CX0 k f fd ps sp' := by
  refine ⟨fun vs H Q E q => F.len vs H _ E (h vs H Q E q).2, fun A outer s H args us vs Q E hr he hb hv hs => ?_⟩
  obtain ⟨nt, q⟩ := h vs H Q E hs
  refine codeAny_mono (F.run A outer s H args us vs _ E hr he hb hv q) fun r s' hq => ?_
  cases r with
  | error e => exact hq
  | ok fl =>
    cases fl with
    | next => exact hq
    | brk => exact hq
    | cont => exact hq
    | ret u =>
      obtain ⟨v, H', os, bare, un, hok, rv, sm, q'⟩ := hq
      exact ⟨v, H, os, bare, ⟨un.keep, un.slot, fun _ _ _ n _ => n, un.there, fun _ _ z => z, fun _ _ _ z => z, fun _ ps z => ⟨#[], by rw [z]; simp⟩⟩, fun a o e => (hok a o (sm a o e)).back o (nt a o e) (he.hok a o e), rv, q'⟩
end
theorem same_new {H : Hp} {p : Addr} {o : HO} (h : H p = none) : Same H (upd H p o) := fun b u q => by rw [upd_ne (ne_of_none q h)]; exact q
theorem Same.updN {H H1 : Hp} {p : Addr} {o : HO} (s : Same H H1) (h : H p = none) : Same H (upd H1 p o) := fun b u q => by rw [upd_ne (ne_of_none q h)]; exact s b u q
structure Sc (K : PySem.W.Frag) (a : Addr) (ns : List Int) (H : Hp) : Prop where
  sq : (∃ o, H a = some (.frz o (.lst (ns.map V.int)))) ∨ ∃ (o : Obj) (its : Array Value) (n : Nat), K.lookup a = some o ∧ o.cls = .type "list" ∧ o.dict = none ∧ o.data = .seq its n ∧ its.size ≤ sizeLine ∧ Vals (ns.map V.int) its.toList
  nt : NoT H
section
variable {K : PySem.W.Frag} {a p : Addr} {ns : List Int} {H H' : Hp} {o : HO}
theorem Sc.seq (s : Sc K a ns H) : SqL K H a (ns.map V.int) := by
  rcases s.sq with ⟨o, h⟩ | h
  · exact .inl (.inr ⟨o, h⟩)
  · exact .inr h
theorem Sc.new (s : Sc K a ns H) (hp : H p = none) (ho : noT o = true := by rfl) : Sc K a ns (upd H p o) := by
  refine ⟨?_, fun b u e => ?_⟩
  · rcases s.sq with ⟨ob, h⟩ | h
    · exact .inl ⟨ob, by rw [upd_ne (ne_of_none h hp)]; exact h⟩
    · exact .inr h
  · by_cases hb : b = p
    · subst hb; rw [upd_same] at e; cases e; exact ho
    · rw [upd_ne hb] at e; exact s.nt b u e
theorem Sc.set {u : HO} (s : Sc K a ns H) (hp : H p = some u) (hu : ∀ ob z, u ≠ .frz ob z) (ho : noT o = true := by rfl) : Sc K a ns (upd H p o) := by
  refine ⟨?_, fun b x e => ?_⟩
  · rcases s.sq with ⟨ob, h⟩ | h
    · refine .inl ⟨ob, ?_⟩
      have hne : a ≠ p := fun z => by subst z; rw [hp] at h; exact hu _ _ (Option.some.inj h)
      rw [upd_ne hne]; exact h
    · exact .inr h
  · by_cases hb : b = p
    · subst hb; rw [upd_same] at e; cases e; exact ho
    · rw [upd_ne hb] at e; exact s.nt b x e
theorem Sc.of_only (hO : Only H) (hS : SqL K H a (ns.map V.int)) : Sc K a ns H := by
  refine ⟨?_, fun b u e => ?_⟩
  · rcases hS with (h | ⟨o, h⟩) | h
    · rcases hO a with z | ⟨ob, xs, z⟩
      · rw [h] at z; cases z
      · rw [h] at z; cases z
    · exact .inl ⟨o, h⟩
    · exact .inr h
  · rcases hO b with z | ⟨ob, xs, z⟩
    · rw [e] at z; cases z
    · rw [e] at z; cases z; rfl
end
def spLaw (K : PySem.W.Frag) : Sp := fun vs H Q _ => ∃ (a : Addr) (ns : List Int), vs = [.ref a] ∧ Sc K a ns H ∧ ns.length ≤ 63 ∧ ∀ H', Q (.bl true) H'
theorem boot_b_len : bootBuiltins "len" = some (.builtin "len") := PySem.boot_len
theorem boot_b_isinstance : bootBuiltins "isinstance" = some (.builtin "isinstance") := by decide +kernel
theorem boot_t_bool : bootBuiltins "bool" = some (.type "bool") := by decide +kernel
theorem boot_t_list : bootBuiltins "list" = some (.type "list") := by decide +kernel
theorem kit_eq {K : PySem.W.Frag} {T : String} : PySem.W.kitOne K (.type T) (.type T) = some true := by
  unfold PySem.W.kitOne
  rw [if_pos (by simp)]
theorem Rd.same {H H' : Hp} {a : Addr} {o : HO} (h : Rd H a o) (s : Same H H') : Rd H' a o := by
  rcases h with h | ⟨ob, h⟩
  · exact .inl (s _ _ h)
  · exact .inr ⟨ob, s _ _ h⟩
theorem SqL.same {K : PySem.W.Frag} {H H' : Hp} {a : Addr} {xs : List V} (h : SqL K H a xs) (s : Same H H') : SqL K H' a xs := by
  rcases h with h | h
  · exact .inl (h.same s)
  · exact .inr h
theorem SqT.same {K : PySem.W.Frag} {H H' : Hp} {a : Addr} {xs : List V} (h : SqT K H a xs) (s : Same H H') : SqT K H' a xs := by
  rcases h with h | h
  · exact .inl (h.same s)
  · exact .inr h
theorem NoT.upd {H : Hp} {p : Addr} {o : HO} (h : NoT H) (ho : noT o = true := by rfl) : NoT (upd H p o) := fun b u e => by
  by_cases hb : b = p
  · subst hb; rw [upd_same] at e; cases e; exact ho
  · rw [upd_ne hb] at e; exact h b u e
theorem Sc.same {K : PySem.W.Frag} {a : Addr} {ns : List Int} {H H' : Hp} (s : Sc K a ns H) (sm : Same H H') (nt : NoT H') : Sc K a ns H' := by
  refine ⟨?_, nt⟩
  rcases s.sq with ⟨o, h⟩ | h
  · exact .inl ⟨o, sm _ _ h⟩
  · exact .inr h
end L2
namespace L2
open PySem PySem.Spec PyProof.Rows
structure ClsM (K : PySem.W.Frag) (C : Addr) (m : Str) (f : Addr) : Prop where
  rd : PySem.W.readsIn K C (.type "type") = true
  fd : PySem.W.findCls K (.ref C) (.type "type") m = some (.val (.ref f))
  ga : PySem.W.specialIn K (.ref C) "__getattribute__" = some (some (.builtin "type.__getattribute__"))
  kp : PySem.W.keepIn K (.ref f) = true
structure Virt (P : Program) (w : World) (K : PySem.W.Frag) (mg : Str → Option Value) (base : Heap) (CX : CXT) (k : Nat) (OK : Addr → Prop) (m : Str) (ps : List Str) (SPV : Addr → Sp) : Prop where
  ok : ∀ C, OK C → ∃ f fd, Cls K C ∧ Meth K C m f ∧ FnOk P w K mg base CX k f fd ps (SPV C) ∧ Binds K fd ps []
def tMethV (OK : Addr → Prop) (m : Str) (SPV : Addr → Sp) (E : XK) (ta : TE) (t : TA) : TE := fun σ H Q => ta σ H fun x H1 => ∃ a C dx fs, x = .ref a ∧ H1 a = some (.ins C dx fs) ∧ OK C ∧ fs.lookup m = none ∧
  t σ H1 fun vs H2 => SPV C (x :: vs) H2 Q E
section
variable {X : Cx} {CX : CXT} {k : Nat} {f C : Addr} {fd : FuncData} {ps : List Str} {sp : Sp} {dvs : List V} {ds : List Value} {E : XK} {x m : Str} {p pos apos : Pos} {e o : Expr} {es : List Expr} {ta : TE} {t : TA}
theorem pe_callC {pl : Sem Bool} (hg : Gl X x) (hm : X.mg x = some (.ref C)) (c : ClsM X.K C m f) (F : FnOk X.prog X.w X.K X.mg X.base CX k f fd ps sp) (hr : Room k X.A) (hb : Binds X.K fd ps ds) (hd : Vals dvs ds) (hx : Passes CX X E) (ha : PA X (e :: es) t)
    (hdb : (x == ("__debug__" : Str)) = false := by decide) (hst : starEach (e :: es) X.env = (false, eval e X.env) :: starEach es X.env := by rfl) (hpl : (backTo pos (starEach es X.env)).any (·.1) = false := by rfl)
    (ht : eval (.Call (.Attribute (.Name x p) m apos) (e :: es) [] pos) X.env = (do
      let ov ← eval (.Name x p) X.env
      standAt apos.atName
      let (f, first) ← holding [ov] (getMethod ov m pl)
      callWith pos f first (backTo pos (starEach (e :: es) X.env)) (backToKw pos (keywordEach [] X.env))) := by rfl) :
    PE X (.Call (.Attribute (.Name x p) m apos) (e :: es) [] pos) (tCall sp dvs E t) := by
  intro pins s σ H Q I h
  refine PySem.W.methodCall_KW (pl := pl) (ld_glob I hg hm ?_ hdb) ht
  refine PySem.W.method_cls I.kIn c.ga (PySem.W.cls_value I.kIn c.rd c.fd rfl ?_)
  have I1 := I.tok (s.toks + 1)
  refine PySem.W.callWith_K (first := []) (h₀ := X.base) I.ok.mod.kin c.kp (thn (ha pos pins _ σ H _ I1 h) fun us s2 ⟨vs, H2, I2, r, q2⟩ => ⟨I2.kIn, ?_⟩) hst hpl
  exact run_fn F hr hb hd hx I2 r q2
variable {OK : Addr → Prop} {SPV : Addr → Sp}
theorem pe_methV0 {pl : Sem Bool} (he : PE X o ta) (V : Virt X.prog X.w X.K X.mg X.base CX k OK m ps SPV) (hr : Room k X.A) (hx : Passes CX X E)
    (ht : eval (.Call (.Attribute o m apos) [] [] pos) X.env = (do
      let ov ← eval o X.env
      standAt apos.atName
      let (f, first) ← holding [ov] (getMethod ov m pl)
      callWith pos f first (backTo pos (starEach [] X.env)) (backToKw pos (keywordEach [] X.env))) := by rfl) :
    PE X (.Call (.Attribute o m apos) [] [] pos) (tMethV OK m SPV E ta tNil) := by
  intro pins s σ H Q I h
  refine PySem.W.methodCall_KW (pl := pl) (thn (he pins s σ H _ I h) fun u s1 ⟨x, H1, I1, rx, a, C, dx, fs, ex, ea, ok, l, q⟩ => ?_) ht
  subst ex
  obtain rfl : u = Value.ref a := rx
  obtain ⟨f, fd, c, hm, F, hb⟩ := V.ok C ok
  refine getmeth_ok I1 ea c hm l ?_
  exact PySem.W.callWith_K0 (first := [.ref a]) I1.kIn hm.kp (run_fn (us := [.ref a]) (vs := [.ref a]) (dvs := []) F hr hb .nil hx I1 (.cons rfl .nil) q)
end
abbrev SVs := List (Str × V)
def tDGetK (kvs : SVs) (ty : TE) : TE := fun σ H Q => ty σ H fun y H1 => ∃ x v, y = .str x ∧ kvs.lookup x = some v ∧ Q v H1
section
variable {X : Cx} {x : Str} {p pos : Pos} {i : Expr} {ty : TE} {u : Value} {kvs : List (Str × V)}
end
def FldAt (K : PySem.W.Frag) (H : Hp) (a : Addr) (f : Str) (v : V) : Prop := ∃ C dx fs, H a = some (.ins C dx fs) ∧ Cls K C ∧ NoAttr K C f ∧ fs.lookup f = some v
theorem putF_new {f : Str} {v : V} : ∀ {fs : List (Str × V)} (ks : List Str), fs.map (·.1) = ks → ks.contains f = false → putF f v fs = fs ++ [(f, v)]
  | [], _, _, _ => rfl
  | (g, y) :: r, ks, e, h => by
    cases e
    rw [List.map_cons, List.contains_cons] at h
    have h1 := (Bool.or_eq_false_iff.mp h)
    have hne : ¬ g = f := fun z => by
      have := h1.1
      rw [z] at this
      simp at this
    show (if g = f then _ else _) = _
    rw [if_neg hne, putF_new _ rfl h1.2]
    rfl
theorem lenP {f : Str} {v : V} {fs : List (Str × V)} {n : Nat} (h : fs.length < n) : (putF f v fs).length < n + 1 := Nat.lt_of_le_of_lt (length_putF f v fs) (by omega)
theorem lookup_at {f : Str} {v : V} : ∀ {fs : List (Str × V)} (ks : List Str) (i : Nat), fs.map (·.1) = ks → ks.findIdx? (· == f) = some i → fs[i]? = some (f, v) → fs.lookup f = some v
  | [], _, _, _, _, h => by simp at h
  | (g, y) :: r, ks, i, e, h, hv => by
    cases e
    rw [List.map_cons, List.findIdx?_cons] at h
    rw [List.lookup]
    by_cases e : g = f
    · subst e
      rw [beq_self_eq_true, if_pos rfl] at h
      cases h
      have : (g, y) = (g, v) := by simpa using hv
      cases this
      rw [beq_self_eq_true]
    · rw [beq_eq_false_iff_ne.mpr e, if_neg (by decide)] at h
      obtain ⟨j, hj, rfl⟩ := Option.map_eq_some_iff.mp h
      rw [beq_eq_false_iff_ne.mpr (fun z => e z.symm)]
      exact lookup_at _ j rfl hj (by simpa using hv)
theorem lookup_no {f : Str} : ∀ {fs : List (Str × V)} (ks : List Str), fs.map (·.1) = ks → ks.contains f = false → fs.lookup f = none
  | [], _, _, _ => rfl
  | (g, y) :: r, ks, e, h => by
    cases e
    rw [List.map_cons, List.contains_cons] at h
    have h1 := (Bool.or_eq_false_iff.mp h)
    rw [List.lookup, h1.1]
    exact lookup_no _ rfl h1.2
end L2
namespace L2
open PySem PySem.Spec PyProof.Rows
theorem Inv.turnedL {X : Cx} {pins : List (Addr × Obj)} {σ : St} {H : Hp} {s : Shared} {h' : Heap} {t' : Nat} {fp : List Addr} (I : Inv X pins σ H s) (k : ∀ b o, b ∉ fp → s.heap.get? b = some o → h'.get? b = some o)
    (hf : ∀ b ∈ fp, FpOk X pins H b) : Inv X pins σ H { s with heap := h', toks := t' } := by
  have nit : ∀ b u, H b = some u → b ∉ fp := fun b u e z => by rw [(hf b z).1] at e; cases e
  refine I.step (g' := s.gens) (d' := s.drawn) (ch := fp) (fun b hb => ?_) (fun b o _ _ hc e _ => k b o hc e) (fun b o _ _ hc e _ => ⟨o.slots, k b o hc e⟩) (fun _ _ _ _ n => n)
    (fun b o hc e => ⟨o, k b o hc e⟩) (fun _ _ e => e) (fun _ _ _ e => e) (fun b ps e => ⟨#[], by rw [e]; simp⟩) (fun m hm => ?_) (fun b u e => ?_) I.bare
  · obtain ⟨f0, f1, f2, f3, f4, f5⟩ := hf b hb
    exact ⟨f3, f1, f4, f5⟩
  · obtain ⟨o, es, ep, ho, r⟩ := hm
    exact ⟨o, es, ep, k _ o (fun z => (hf _ z).2.1 rfl) ho, r⟩
  · refine (I.hok b u e).stay (fun c v hc q => k c v ?_ q) (fun _ q => q) fun _ _ q => q
    rcases hc with z | z
    · rw [z]; exact nit b u e
    · exact nit c _ z
def Ite (K : PySem.W.Frag) (a : Addr) : It :=
  ⟨fun i H => ∃ xs x, SqL K H a xs ∧ xs[i]? = some x, fun i H v H' => ∃ p y, H p = none ∧ v = .ref p ∧ (∀ xs, SqL K H a xs → xs[i]? = some y) ∧ H' = upd H p (.tup [.int i, y]), fun i H => ∃ xs, SqL K H a xs ∧ xs.length ≤ i⟩
theorem turn_enum {P : Program} {w : World} {K : PySem.W.Frag} {es : List Expr} {k} {pos : Pos} (a e it : Addr) (hne : e ≠ it) :
    Turn P w K (.Tuple es k pos) (Ite K a) [e, it] e (fun i h => ∃ old, IsEnum h e it ((i : Nat) : Int) old ∧ h.IsListIter it a i) where
  mem := by simp
  obj := fun i h ⟨old, he, hi⟩ b hb => by
    simp only [List.mem_cons, List.not_mem_nil, or_false] at hb
    rcases hb with rfl | rfl
    · exact ⟨_, he, fun v z => by
        have z' : Data.fields _ = Data.cell v := z
        cases z'⟩
    · obtain ⟨o, q, c, d⟩ := hi
      exact ⟨o, q, fun v z => by rw [d] at z; cases z⟩
  keep := fun i h h' ⟨old, he, hi⟩ k => ⟨old, k e (by simp) _ he, hi.at fun o q => k it (by simp) o q⟩
  item := by
    intro X hP hw hK hc i pins s σ H E I hf ⟨old, he, hi⟩ hg
    subst hP hw hK
    obtain ⟨xs, x, hq, hx⟩ := hg
    obtain ⟨its, rv, p, hz⟩ := I.list hq
    obtain ⟨u, hu, ru⟩ := rv.get hx
    refine wpAny_pyNext_enum_item he hi p.isList (x := u) (by simpa using hu) hne fun h1 he1 hi1 ht1 hz1 hk1 => ⟨_, rfl, ?_⟩
    refine wpAny_letOwnedTupleGo_enum he1 fun h2 he2 hs2 => ?_
    replace hs2 : Heap.SameBut e h1 h2 := hs2
    have hel : e < s.heap.objs.size := Heap.lt_size he
    have hk : ∀ b o, b ∉ [e, it] → s.heap.get? b = some o → h2.get? b = some o := fun b o hb q => by
      simp only [List.mem_cons, List.not_mem_nil, or_false, not_or] at hb
      exact hs2.extBut _ _ hb.1 (hk1 b o hb.1 hb.2 q)
    have I1 : Inv X pins σ H { s with heap := h2, toks := s.toks + 1 } := I.turnedL hk hf
    have fo : FpOk X pins H s.heap.objs.size := I.fpOk (Nat.le_refl _) (I.hok.fresh (Nat.le_refl _))
    have ht2 : h2.get? s.heap.objs.size = some { cls := .type "tuple", data := .seq #[.int i s.toks, u] } := (hs2.2 _ (Nat.ne_of_gt hel)).trans ht1
    have I2 := I1.adopt (o := .tup [.int i, x]) fo ⟨by show 2 ≤ sizeLine; decide, [.int i s.toks, u], .cons ⟨_, rfl⟩ (.cons ru .nil), ⟨_, ht2, rfl, _, rfl⟩⟩
    refine ⟨.ref s.heap.objs.size, _, I2, rfl, ⟨_, x, fo.1, rfl, fun ys hy => by rw [I.list_inj hy hq]; exact hx, rfl⟩, ⟨u, ?_, ?_⟩, fun b hb => ?_⟩
    · have e1 : ((i + 1 : Nat) : Int) = (i : Int) + 1 := by omega
      rw [e1]; exact he2
    · exact hi1.extBut hs2.extBut (Ne.symm hne)
    · have hlt : b < s.heap.objs.size := by
        simp only [List.mem_cons, List.not_mem_nil, or_false] at hb
        rcases hb with rfl | rfl
        · exact hel
        · obtain ⟨o, q, _⟩ := hi
          exact Heap.lt_size q
      rw [upd_ne (Nat.ne_of_lt hlt)]; exact (hf b hb).1
  done := by
    intro X hP hw hK hc i pins s σ H E I hf ⟨old, he, hi⟩ hg
    subst hP hw hK
    obtain ⟨xs, hq, hx⟩ := hg
    obtain ⟨its, rv, p, hz⟩ := I.list hq
    have hl := rv.length
    exact wpAny_pyNext_enum_end (I.ok.hd hc) he hi p.isList (by simp; omega) fun h' eb => ⟨rfl, I.turnedL (t' := s.toks) (fun b o hb q => eb b o (fun z => hb (by simp [z])) q) hf⟩
  self := fun _ _ _ _ _ ⟨_, he, _⟩ h => wpAny_pyIter_enum he h
theorem boot_enumerate : bootBuiltins "enumerate" = some (.type "enumerate") := by decide +kernel
theorem boot_zip : bootBuiltins "zip" = some (.type "zip") := by decide +kernel
def Itz (K : PySem.W.Frag) (a b : Addr) : It :=
  ⟨fun i H => ∃ xs ys x y, SqL K H a xs ∧ SqL K H b ys ∧ xs[i]? = some x ∧ ys[i]? = some y,
   fun i H v H' => ∃ p x y, H p = none ∧ v = .ref p ∧ (∀ xs, SqL K H a xs → xs[i]? = some x) ∧ (∀ ys, SqL K H b ys → ys[i]? = some y) ∧ H' = upd H p (.tup [x, y]),
   fun i H => ∃ xs ys, SqL K H a xs ∧ SqL K H b ys ∧ (xs.length ≤ i ∨ ys.length ≤ i)⟩
theorem cls_ne {h : Heap} {a b : Addr} {o o' : Obj} {c d : String} (ha : h.get? a = some o) (hb : h.get? b = some o') (hc : o.cls = .type c) (hd : o'.cls = .type d) (n : c ≠ d) : a ≠ b := fun z => by
  subst z
  rw [ha] at hb
  cases hb
  rw [hc] at hd
  cases hd
  exact n rfl
theorem zip_apart {h : Heap} {z TI TO i1 i2 l1 l2 : Addr} {f0 u1 u2 v1 v2 : Value} {k1 k2 : Nat} {xs ys : Array Value} (hz : IsZip h z TI TO f0) (hTI : IsPair h TI u1 u2) (hTO : IsPair h TO v1 v2) (h1 : h.IsListIter i1 l1 k1) (h2 : h.IsListIter i2 l2 k2)
    (g1 : h.IsList l1 xs) (g2 : h.IsList l2 ys) (nT : TI ≠ TO) (ni : i1 ≠ i2) : ZipApart z TI TO i1 i2 l1 l2 := by
  obtain ⟨o1, e1, c1, _⟩ := h1
  obtain ⟨o2, e2, c2, _⟩ := h2
  obtain ⟨p1, f1, d1, _⟩ := g1
  obtain ⟨p2, f2, d2, _⟩ := g2
  exact ⟨cls_ne hTI hz rfl rfl (by decide), cls_ne hTO hz rfl rfl (by decide), cls_ne e1 hz c1 rfl (by decide), cls_ne e2 hz c2 rfl (by decide), nT, cls_ne hTI e1 rfl c1 (by decide), cls_ne hTI e2 rfl c2 (by decide),
    cls_ne hTO e1 rfl c1 (by decide), cls_ne hTO e2 rfl c2 (by decide), ni, cls_ne f1 hz d1 rfl (by decide), cls_ne f1 hTO d1 rfl (by decide), cls_ne f1 e1 d1 c1 (by decide), cls_ne f1 e2 d1 c2 (by decide),
    cls_ne f2 hz d2 rfl (by decide), cls_ne f2 hTO d2 rfl (by decide), cls_ne f2 e1 d2 c1 (by decide), cls_ne f2 e2 d2 c2 (by decide)⟩
theorem turn_zip {P : Program} {w : World} {K : PySem.W.Frag} {es : List Expr} {k} {pos : Pos} (a b z TI TO i1 i2 : Addr) (nT : TI ≠ TO) (ni : i1 ≠ i2) :
    Turn P w K (.Tuple es k pos) (Itz K a b) [z, TI, TO, i1, i2] z (fun i h => IsZip h z TI TO .none ∧ IsPair h TI (.ref i1) (.ref i2) ∧ (∃ u v, IsPair h TO u v) ∧ h.IsListIter i1 a i ∧ h.IsListIter i2 b i) where
  mem := by simp
  obj := fun i h ⟨hz, hTI, ⟨u, v, hTO⟩, ⟨o1, e1, _, d1⟩, o2, e2, _, d2⟩ c hc => by
    simp only [List.mem_cons, List.not_mem_nil, or_false] at hc
    rcases hc with rfl | rfl | rfl | rfl | rfl
    · exact ⟨_, hz, fun v z => by
        have z' : Data.fields _ = Data.cell v := z
        cases z'⟩
    · exact ⟨_, hTI, fun v z => by
        have z' : Data.seq _ _ = Data.cell v := z
        cases z'⟩
    · exact ⟨_, hTO, fun v z => by
        have z' : Data.seq _ _ = Data.cell v := z
        cases z'⟩
    · exact ⟨o1, e1, fun v z => by rw [d1] at z; cases z⟩
    · exact ⟨o2, e2, fun v z => by rw [d2] at z; cases z⟩
  keep := fun i h h' ⟨hz, hTI, ⟨u, v, hTO⟩, h1, h2⟩ k => ⟨k z (by simp) _ hz, k TI (by simp) _ hTI, ⟨u, v, k TO (by simp) _ hTO⟩, h1.at fun o q => k i1 (by simp) o q, h2.at fun o q => k i2 (by simp) o q⟩
  item := by
    intro X hP hw hK hc i pins s σ H E I hf ⟨hz, hTI, ⟨u, v, hTO⟩, h1, h2⟩ hg
    subst hP hw hK
    obtain ⟨xs, ys, x, y, hq, hr, hx, hy⟩ := hg
    obtain ⟨its, rv, p, hz1⟩ := I.list hq
    obtain ⟨jts, rw', p', hz2⟩ := I.list hr
    obtain ⟨ux, hu, ru⟩ := rv.get hx
    obtain ⟨uy, hv, rv'⟩ := rw'.get hy
    have D := zip_apart hz hTI hTO h1 h2 p.isList p'.isList nT ni
    refine wpAny_pyNext_zip_item D hz hTI hTO h1 h2 p.isList p'.isList (x := ux) (y := uy) (by simpa using hu) (by simpa using hv) fun g gz gTO g1 g2 gT gs gk => ⟨_, rfl, ?_⟩
    refine wpAny_letOwnedTupleGo_zip gz fun g' gz' hs' => ?_
    replace hs' : Heap.SameBut z g g' := hs'
    have hzl : z < s.heap.objs.size := Heap.lt_size hz
    have hk : ∀ c o, c ∉ [z, TI, TO, i1, i2] → s.heap.get? c = some o → g'.get? c = some o := fun c o hc q => by
      simp only [List.mem_cons, List.not_mem_nil, or_false, not_or] at hc
      exact hs'.extBut _ _ hc.1 (gk c o hc.1 hc.2.2.1 hc.2.2.2.1 hc.2.2.2.2 q)
    have I1 : Inv X pins σ H { s with heap := g', toks := s.toks } := I.turnedL hk hf
    have fo : FpOk X pins H s.heap.objs.size := I.fpOk (Nat.le_refl _) (I.hok.fresh (Nat.le_refl _))
    have ht2 : IsPair g' s.heap.objs.size ux uy := (hs'.2 _ (Nat.ne_of_gt hzl)).trans gT
    have I2 := I1.adopt (o := .tup [x, y]) fo ⟨by show 2 ≤ sizeLine; decide, [ux, uy], .cons ru (.cons rv' .nil), ⟨_, ht2, rfl, _, rfl⟩⟩
    refine ⟨.ref s.heap.objs.size, _, I2, rfl, ⟨_, x, y, fo.1, rfl, fun ys hy => by rw [I.list_inj hy hq]; exact hx, fun zs hzs => by rw [I.list_inj hzs hr]; exact hy, rfl⟩, ⟨gz', ?_, ⟨_, _, hs'.extBut _ _ D.TOz gTO⟩, g1.extBut hs'.extBut D.i1z, g2.extBut hs'.extBut D.i2z⟩, fun b hb => ?_⟩
    · exact hs'.extBut _ _ D.TIz (gk _ _ D.TIz D.TITO D.TIi1 D.TIi2 hTI)
    · have hlt : b < s.heap.objs.size := by
        obtain ⟨o1, e1, _⟩ := h1
        obtain ⟨o2, e2, _⟩ := h2
        simp only [List.mem_cons, List.not_mem_nil, or_false] at hb
        rcases hb with rfl | rfl | rfl | rfl | rfl
        · exact hzl
        · exact Heap.lt_size hTI
        · exact Heap.lt_size hTO
        · exact Heap.lt_size e1
        · exact Heap.lt_size e2
      rw [upd_ne (Nat.ne_of_lt hlt)]; exact (hf b hb).1
  done := by
    intro X hP hw hK hc i pins s σ H E I hf ⟨hz, hTI, ⟨u, v, hTO⟩, h1, h2⟩ hg
    subst hP hw hK
    obtain ⟨xs, ys, hq, hr, hx⟩ := hg
    obtain ⟨its, rv, p, hz1⟩ := I.list hq
    obtain ⟨jts, rw', p', hz2⟩ := I.list hr
    have hl := rv.length
    have hl' := rw'.length
    have D := zip_apart hz hTI hTO h1 h2 p.isList p'.isList nT ni
    exact wpAny_pyNext_zip_end (I.ok.hd hc) D hz hTI hTO h1 h2 p.isList p'.isList (by simp; omega) fun h' eb => ⟨rfl, I.turnedL (t' := s.toks) (fun b o hb q => eb b o (fun z => hb (by simp [z])) (fun z => hb (by simp [z])) (fun z => hb (by simp [z])) (fun z => hb (by simp [z])) q) hf⟩
  self := fun _ _ _ _ _ ⟨hz, _⟩ h => wpAny_pyIter_zip hz h
def Itv (K : PySem.W.Frag) (a : Addr) (n : Nat) : It :=
  ⟨fun i H => i < n ∧ ∃ xs, SqL K H a xs ∧ xs.length = n, fun i H x H' => H' = H ∧ ∀ xs, SqL K H a xs → xs[n - 1 - i]? = some x, fun i _ => n ≤ i⟩
section
variable {X : Cx}
def iEnum (K : PySem.W.Frag) (ta : TA) : TI := fun σ H R => ta σ H fun vs H1 => ∃ a, vs = [.ref a] ∧ (∃ xs, SqL K H1 a xs) ∧ R (Ite K a) H1
theorem pi_enum {es : List Expr} {k} {tpos : Pos} {a : Expr} {ta : TA} {p pos : Pos} (hg : Gl X "enumerate") (hm : X.mg "enumerate" = none) (ha : PA X [a] ta) (hs : starEach [a] X.env = [(false, eval a X.env)] := by rfl) :
    PI X (.Tuple es k tpos) (.Call (.Name "enumerate" p) [a] [] pos) (iEnum X.K ta) := by
  intro pins s σ H R I h
  refine Call_ (ld_blt I hg hm boot_enumerate (PyProof.Rows.callWith_type1 (thn (ha pos pins s σ H _ I h) fun us s1 ⟨vs, H1, I1, r1, q1⟩ => ?_) hs rfl))
  obtain ⟨a, e, ⟨xs, hq⟩, q⟩ := q1
  subst e
  cases r1 with
  | cons r rr =>
    cases rr
    cases r
    obtain ⟨its, rv, pl, hz⟩ := I1.list hq
    refine call_enumerate_list pl.isList fun h' hE hI hsz hk => wpAny_pyIter_enum hE ?_
    refine ⟨s1.heap.objs.size + 1, [s1.heap.objs.size + 1, s1.heap.objs.size], _, _, H1, rfl, I1.kept (t' := s1.toks) hk, turn_enum a _ _ (Nat.succ_ne_self _), ⟨_, hE, hI⟩, fun b hb => ?_, q⟩
    have hb' : s1.heap.objs.size ≤ b := by
      simp only [List.mem_cons, List.not_mem_nil, or_false] at hb
      rcases hb with rfl | rfl
      · exact Nat.le_succ _
      · exact Nat.le_refl _
    exact I1.fpOk hb' (I1.hok.fresh hb')
def iZip (K : PySem.W.Frag) (ta : TA) : TI := fun σ H R => ta σ H fun vs H1 => ∃ a b, vs = [.ref a, .ref b] ∧ (∃ xs, SqL K H1 a xs) ∧ (∃ ys, SqL K H1 b ys) ∧ R (Itz K a b) H1
theorem pi_zip {es : List Expr} {k} {tpos : Pos} {a b : Expr} {ta : TA} {p pos : Pos} (hg : Gl X "zip") (hm : X.mg "zip" = none) (ha : PA X [a, b] ta) (hs : starEach [a, b] X.env = [(false, eval a X.env), (false, eval b X.env)] := by rfl)
    (hs2 : starEach [b] X.env = [(false, eval b X.env)] := by rfl) : PI X (.Tuple es k tpos) (.Call (.Name "zip" p) [a, b] [] pos) (iZip X.K ta) := by
  intro pins s σ H R I h
  refine Call_ (ld_blt I hg hm boot_zip (PyProof.Rows.callWith_type1 (thn (ha pos pins s σ H _ I h) fun us s1 ⟨vs, H1, I1, r1, q1⟩ => ?_) (by rw [hs, hs2]) (by rw [hs2]; rfl)))
  obtain ⟨a, b, e, ⟨xs, hq⟩, ⟨ys, hr⟩, q⟩ := q1
  subst e
  cases r1 with
  | cons r rr =>
    cases rr with
    | cons r' rr =>
      cases rr
      cases r
      cases r'
      obtain ⟨its, rv, pl, hz⟩ := I1.list hq
      obtain ⟨jts, rv', pl', hz'⟩ := I1.list hr
      refine call_zip_2 pl.isList pl'.isList fun h' hz hTI hTO h1 h2 hsz hk => wpAny_pyIter_zip hz ?_
      refine ⟨s1.heap.objs.size + 4, [s1.heap.objs.size + 4, s1.heap.objs.size + 2, s1.heap.objs.size + 3, s1.heap.objs.size, s1.heap.objs.size + 1], _, _, H1, rfl, I1.kept (t' := s1.toks) hk,
        turn_zip a b _ _ _ _ _ (Nat.ne_of_lt (Nat.lt_succ_self _)) (Nat.ne_of_lt (Nat.lt_succ_self _)), ⟨hz, hTI, ⟨_, _, hTO⟩, h1, h2⟩, fun c hc => ?_, q⟩
      have hb' : s1.heap.objs.size ≤ c := by
        simp only [List.mem_cons, List.not_mem_nil, or_false] at hc
        rcases hc with rfl | rfl | rfl | rfl | rfl
        · exact Nat.le_add_right _ _
        · exact Nat.le_add_right _ _
        · exact Nat.le_add_right _ _
        · exact Nat.le_refl _
        · exact Nat.le_add_right _ _
      exact I1.fpOk hb' (I1.hok.fresh hb')
def iRev (K : PySem.W.Frag) (ta : TA) : TI := fun σ H R => ta σ H fun vs H1 => ∃ a xs, vs = [.ref a] ∧ SqL K H1 a xs ∧ R (Itv K a xs.length) H1
end
theorem pg_tupK {X : Cx} {es : List Expr} {k : Nat} {pos : Pos} {t : TGs} {n : Nat} {K : PySem.W.Frag} (hK : X.K = K) (hc : X.calm = true) (h : PGs X es t)
    (hn : (assignEach es X.env).length = n := by rfl) (hst : (assignEach es X.env).findIdx? (·.1) = none := by rfl) : PG X (.Tuple es k pos) (gTup K n t) := by
  subst hK
  exact pg_tup hc h hn hst
section
variable {X : Cx}
def rInsert : V → List V → Hp → VK → Prop := fun x vs H Q => ∃ l xs i y, x = .ref l ∧ vs = [.int i, y] ∧ H l = some (.lst xs) ∧ 0 ≤ i ∧ i < 2 ^ 62 ∧ i ≤ (xs.length : Int) ∧ xs.length < sizeLine ∧ Q .non (upd H l (.lst (xs.take i.toNat ++ y :: xs.drop i.toNat)))
theorem mt_insert : MtM X "list.insert" rInsert := by
  intro pins s σ H x vs v us Q I rx rv h
  obtain ⟨l, xs, i, y, rfl, rfl, hH, h0, h1, h2, hz, q⟩ := h
  cases rx
  cases rv with
  | cons ra rb =>
    cases rb with
    | @cons _ w _ _ rw' rc =>
      cases rc
      obtain ⟨t, rfl⟩ := ra
      obtain ⟨z, its, n, r, hl, e⟩ := I.lstM hH
      refine call_meets F.slot_list_insert ⟨_, e, rfl⟩ F.entry_list_insert (F.args_list_insert_3 _ _ _) (AutoListH.list_insert_list_int_val_1 l its.toArray n i t w (by rw [fitsIndex_both (k := i) (by omega) (by omega)]; decide) (by rw [List.size_toArray]; omega)) ⟨e, ?_⟩
      refine ⟨.non, _, I.lset (its' := its.take i.toNat ++ w :: its.drop i.toNat) hH e ?_ ((r.take i.toNat).append (.cons rw' (r.drop i.toNat))) ?_, rfl, q⟩
      · have hk : (if i < 0 then (i + ((its.toArray.size : Nat) : Int)).toNat else min i.toNat its.toArray.size) = i.toNat := by
          rw [if_neg (by omega), List.size_toArray]; omega
        show (its.toArray.extract 0 (if i < 0 then (i + ((its.toArray.size : Nat) : Int)).toNat else min i.toNat its.toArray.size)).push w ++ its.toArray.extract (if i < 0 then (i + ((its.toArray.size : Nat) : Int)).toNat else min i.toNat its.toArray.size) = _
        rw [hk]
        apply Array.toList_inj.mp
        simp
        exact List.take_of_length_le (by rw [List.length_drop]; exact Nat.le_refl _)
      · rw [List.length_append, List.length_cons, List.length_take, List.length_drop]; omega
end
end L2
namespace L2
open PySem PySem.Spec PyProof.Rows
inductive EqH (K : PySem.W.Frag) (H : Hp) : Nat → V → V → Bool → Prop
  | flat {k : Nat} {x y : V} (hx : flatV x = true) (hy : flatV y = true) : EqH K H k x y (eqV x y)
  | lst {k : Nat} {p q : Addr} {xs ys : List V} {e : Nat → Bool} (hp : SqL K H p xs) (hq : SqL K H q ys) (hl : xs.length = ys.length) (he : ∀ (j : Nat) (x y : V), xs[j]? = some x → ys[j]? = some y → EqH K H k x y (e j)) : EqH K H (k + 1) (.ref p) (.ref q) ((List.range xs.length).all e)
  | lstN {k : Nat} {p q : Addr} {xs ys : List V} (hp : SqL K H p xs) (hq : SqL K H q ys) (hl : xs.length ≠ ys.length) : EqH K H (k + 1) (.ref p) (.ref q) false
  | tup {k : Nat} {p q : Addr} {xs ys : List V} {e : Nat → Bool} (hp : SqT K H p xs) (hq : SqT K H q ys) (he : ∀ (j : Nat) (x y : V), xs[j]? = some x → ys[j]? = some y → EqH K H k x y (e j)) : EqH K H (k + 1) (.ref p) (.ref q) ((List.range (min xs.length ys.length)).all e && xs.length == ys.length)
theorem eqV_self {x : V} (h : flatV x = true) : eqV x x = true := by
  cases x <;> first | rfl | (simp [eqV]; done) | cases h
theorem all_of_get {n : Nat} {e : Nat → Bool} (h : ∀ j, j < n → e j = true) : (List.range n).all e = true := by
  rw [List.all_eq_true]
  exact fun j hj => h j (List.mem_range.mp hj)
section
variable {X : Cx} {pins : List (Addr × Obj)} {σ : St} {H : Hp} {s : Shared}
theorem EqH.self (I : Inv X pins σ H s) {k : Nat} {x y : V} {b : Bool} (h : EqH X.K H k x y b) (e : x = y) : b = true := by
  induction h with
  | flat hx hy => subst e; exact eqV_self hx
  | @lst k p q xs ys f hp hq hl he ih =>
    injection e with e
    subst e
    have := I.list_inj hp hq
    subst this
    refine all_of_get fun j hj => ?_
    exact ih j xs[j] xs[j] (List.getElem?_eq_getElem hj) (List.getElem?_eq_getElem hj) rfl
  | lstN hp hq hl =>
    injection e with e
    subst e
    have := I.list_inj hp hq
    subst this
    exact absurd rfl hl
  | @tup k p q xs ys f hp hq he ih =>
    injection e with e
    subst e
    have := I.tuple_inj hp hq
    subst this
    rw [Bool.and_eq_true]
    refine ⟨all_of_get fun j hj => ?_, by simp⟩
    have hj' : j < xs.length := by omega
    exact ih j xs[j] xs[j] (List.getElem?_eq_getElem hj') (List.getElem?_eq_getElem hj') rfl
theorem units_in1 (A : Around) : A.in1.units = A.units + 1 := rfl
theorem eqH_both (I : Inv X pins σ H s) {k : Nat} {x y : V} {b : Bool} (h : EqH X.K H k x y b) : ∀ (A : Around) (v u : Value), A.units + k < cLine → RelV x v → RelV y u →
    SeqAt.EqAt A s v u b ∧ (∀ p q, x = .ref p → y = .ref q → SeqAt.RcAt A s v u b) := by
  induction h with
  | flat hx hy =>
    intro A v u hu rx ry
    refine ⟨eqAt_V rx ry hx hy, fun p q e _ => ?_⟩
    subst e
    cases hx
  | @lst k p q xs ys f hp hq hl he ih =>
    intro A v u hu rx ry
    cases rx
    cases ry
    obtain ⟨its, r, pl, hz⟩ := I.list hp
    obtain ⟨jts, r', pl', hz'⟩ := I.list hq
    have l1 := r.length
    have l2 := r'.length
    have rc : SeqAt.RcAt A s (.ref p) (.ref q) ((List.range xs.length).all f) := by
      have := SeqAt.RcAt.lists (A := A) (e := f) pl.isList pl'.isList (by simp only [List.size_toArray]; omega) (by omega) fun j h1 h2 => by
        simp only [List.size_toArray] at h1 h2
        have hj : j < xs.length := by omega
        have hj' : j < ys.length := by omega
        obtain ⟨a, ha, ra⟩ := r.get (List.getElem?_eq_getElem hj)
        obtain ⟨c, hc, rc⟩ := r'.get (List.getElem?_eq_getElem hj')
        have ea : its.toArray[j] = a := by
          have := List.getElem?_eq_getElem h1
          rw [ha] at this
          simpa using (Option.some.inj this).symm
        have ec : jts.toArray[j] = c := by
          have := List.getElem?_eq_getElem h2
          rw [hc] at this
          simpa using (Option.some.inj this).symm
        rw [ea, ec]
        exact (ih j _ _ (List.getElem?_eq_getElem hj) (List.getElem?_eq_getElem hj') A.in1 a c (by rw [units_in1]; omega) ra rc).1
      rwa [List.size_toArray, ← l1] at this
    refine ⟨?_, fun _ _ _ _ => rc⟩
    by_cases hne : p = q
    · have hb := (EqH.lst hp hq hl he).self I (congrArg V.ref hne)
      rw [hb, hne]
      exact SeqAt.EqAt.same _
    · exact SeqAt.EqAt.of_refs hne rc
  | @lstN k p q xs ys hp hq hl =>
    intro A v u hu rx ry
    cases rx
    cases ry
    obtain ⟨its, r, pl, hz⟩ := I.list hp
    obtain ⟨jts, r', pl', hz'⟩ := I.list hq
    have l1 := r.length
    have l2 := r'.length
    have rc : SeqAt.RcAt A s (.ref p) (.ref q) false := SeqAt.RcAt.lists_lengths pl.isList pl'.isList (by simp only [List.size_toArray, bne_iff_ne, ne_eq]; omega) (by omega)
    refine ⟨SeqAt.EqAt.of_refs (fun e => hl ?_) rc, fun _ _ _ _ => rc⟩
    subst e
    rw [I.list_inj hp hq]
  | @tup k p q xs ys f hp hq he ih =>
    intro A v u hu rx ry
    cases rx
    cases ry
    obtain ⟨its, r, pl, hz⟩ := I.tuple hp
    obtain ⟨jts, r', pl', hz'⟩ := I.tuple hq
    have l1 := r.length
    have l2 := r'.length
    have rc : SeqAt.RcAt A s (.ref p) (.ref q) ((List.range (min xs.length ys.length)).all f && xs.length == ys.length) := by
      have := SeqAt.RcAt.tuples (A := A) (e := f) pl pl' (by omega) fun j h1 h2 => by
        simp only [List.size_toArray] at h1 h2
        have hj : j < xs.length := by omega
        have hj' : j < ys.length := by omega
        obtain ⟨a, ha, ra⟩ := r.get (List.getElem?_eq_getElem hj)
        obtain ⟨c, hc, rc⟩ := r'.get (List.getElem?_eq_getElem hj')
        have ea : its.toArray[j] = a := by
          have := List.getElem?_eq_getElem h1
          rw [ha] at this
          simpa using (Option.some.inj this).symm
        have ec : jts.toArray[j] = c := by
          have := List.getElem?_eq_getElem h2
          rw [hc] at this
          simpa using (Option.some.inj this).symm
        rw [ea, ec]
        exact (ih j _ _ (List.getElem?_eq_getElem hj) (List.getElem?_eq_getElem hj') A.in1 a c (by rw [units_in1]; omega) ra rc).1
      rwa [List.size_toArray, List.size_toArray, ← l1, ← l2] at this
    refine ⟨?_, fun _ _ _ _ => rc⟩
    by_cases hne : p = q
    · have hb := (EqH.tup hp hq he).self I (congrArg V.ref hne)
      rw [hb, hne]
      exact SeqAt.EqAt.same _
    · exact SeqAt.EqAt.of_refs hne rc
end
section
variable {X : Cx} {pins : List (Addr × Obj)} {σ : St} {H : Hp} {s : Shared}
end
section
variable {X : Cx}
def rNeL (K : PySem.W.Frag) : R2 := fun x y H Q => ∃ p q b, x = .ref p ∧ y = .ref q ∧ EqH K H 8 (.ref p) (.ref q) b ∧ Q (.bl (!b)) H
def rEqL (K : PySem.W.Frag) : R2 := fun x y H Q => ∃ p q b, x = .ref p ∧ y = .ref q ∧ EqH K H 8 (.ref p) (.ref q) b ∧ Q (.bl b) H
theorem op_eqL (hU : X.A.units + 64 < cLine) : OpR X (compareOp .Eq) (rEqL X.K) := by
  intro pins s σ H x y v u Q I rx ry h
  obtain ⟨p, q, b, rfl, rfl, hE, q'⟩ := h
  exact (eqH_both I hE X.A v u (by omega) rx ry).2 p q rfl rfl _ _ _ _ ⟨.bl b, H, I, rfl, q'⟩
end
theorem EqH.mono {K : PySem.W.Frag} {H : Hp} {j k : Nat} {x y : V} {b : Bool} (h : EqH K H j x y b) : j ≤ k → EqH K H k x y b := by
  induction h generalizing k with
  | flat hx hy => exact fun _ => .flat hx hy
  | lst hp hq hl he ih =>
    intro hk
    obtain ⟨m, rfl⟩ : ∃ m, k = m + 1 := ⟨k - 1, by omega⟩
    exact .lst hp hq hl fun j x y h1 h2 => ih j x y h1 h2 (by omega)
  | lstN hp hq hl =>
    intro hk
    obtain ⟨m, rfl⟩ : ∃ m, k = m + 1 := ⟨k - 1, by omega⟩
    exact .lstN hp hq hl
  | tup hp hq he ih =>
    intro hk
    obtain ⟨m, rfl⟩ : ∃ m, k = m + 1 := ⟨k - 1, by omega⟩
    exact .tup hp hq fun j x y h1 h2 => ih j x y h1 h2 (by omega)
def oneK : V → V → Bool
  | .int _, .int _ => true
  | .str _, .str _ => true
  | .bl _, .bl _ => true
  | .non, .non => true
  | _, _ => false
theorem oneK_eq {x y : V} (h : oneK x y = true) : flatV x = true ∧ flatV y = true ∧ eqV x y = decide (x = y) := by
  cases x <;> cases y <;> first | (exfalso; simp [oneK] at h; done) | (refine ⟨rfl, rfl, ?_⟩; rfl) | (refine ⟨rfl, rfl, ?_⟩; rw [Bool.eq_iff_iff]; simp [eqV]; done)
theorem EqH.flats {K : PySem.W.Frag} {H : Hp} {k : Nat} {p q : Addr} {xs ys : List V} (hp : SqL K H p xs) (hq : SqL K H q ys) (h : ∀ x ∈ xs, ∀ y ∈ ys, oneK x y = true) : EqH K H (k + 1) (.ref p) (.ref q) (decide (xs = ys)) := by
  by_cases hl : xs.length = ys.length
  · have hd : decide (xs = ys) = (List.range xs.length).all fun j => eqV (xs.getD j .non) (ys.getD j .non) := by
      rw [Bool.eq_iff_iff, decide_eq_true_eq, List.all_eq_true]
      constructor
      · rintro rfl j hj
        have hj' := List.mem_range.mp hj
        have hm : xs.getD j .non ∈ xs := by rw [List.getD_eq_getElem?_getD, List.getElem?_eq_getElem hj']; exact List.getElem_mem hj'
        rw [(oneK_eq (h _ hm _ hm)).2.2, decide_eq_true rfl]
      · intro z
        refine List.ext_getElem hl fun j h1 h2 => ?_
        have := z j (List.mem_range.mpr h1)
        rw [List.getD_eq_getElem?_getD, List.getD_eq_getElem?_getD, List.getElem?_eq_getElem h1, List.getElem?_eq_getElem h2] at this
        have w : eqV xs[j] ys[j] = true := this
        rw [(oneK_eq (h _ (List.getElem_mem h1) _ (List.getElem_mem h2))).2.2, decide_eq_true_eq] at w
        exact w
    rw [hd]
    refine .lst hp hq hl fun j x y h1 h2 => ?_
    have e := oneK_eq (h x (List.mem_of_getElem? h1) y (List.mem_of_getElem? h2))
    rw [List.getD_eq_getElem?_getD, List.getD_eq_getElem?_getD, h1, h2]
    exact .flat e.1 e.2.1
  · rw [decide_eq_false (fun z => hl (by rw [z]))]
    exact .lstN hp hq hl
end L2
namespace L2
open PySem PySem.Spec PyProof.Rows
theorem tVar_ap (i : Nat) (σ : St) (H : Hp) (Q : VK) : tVar i σ H Q = (∃ v, σ[i]? = some (some v) ∧ Q v H) := rfl
theorem tC_ap (v : V) (x_0 : St) (H : Hp) (Q : VK) : tC v x_0 H Q = (Q v H) := rfl
theorem tAdd_ap (ta tb : TE) (σ : St) (H : Hp) (Q : VK) : tAdd ta tb σ H Q = (t2I ta tb (fun i j H2 => Q (.int (i + j)) H2) σ H) := rfl
theorem tSub_ap (ta tb : TE) (σ : St) (H : Hp) (Q : VK) : tSub ta tb σ H Q = (t2I ta tb (fun i j H2 => Q (.int (i - j)) H2) σ H) := rfl
theorem tMul_ap (ta tb : TE) (σ : St) (H : Hp) (Q : VK) : tMul ta tb σ H Q = (t2I ta tb (fun i j H2 => (-(2 ^ 64) < i ∧ i < 2 ^ 64) ∧ Q (.int (i * j)) H2) σ H) := rfl
theorem tCmp_ap (p : Int → Int → Bool) (ta tb : TE) (σ : St) (H : Hp) (Q : VK) : tCmp p ta tb σ H Q = (t2I ta tb (fun i j H2 => Q (.bl (p i j)) H2) σ H) := rfl
theorem tIsN_ap (ta : TE) (σ : St) (H : Hp) (Q : VK) : tIsN ta σ H Q = (ta σ H fun x H1 => Q (.bl (decide (x = .non))) H1) := rfl
theorem tNotN_ap (ta : TE) (σ : St) (H : Hp) (Q : VK) : tNotN ta σ H Q = (ta σ H fun x H1 => Q (.bl (!decide (x = .non))) H1) := rfl
theorem tB_ap (t : TE) (σ : St) (H : Hp) (Q : (Bool → Hp → Prop)) : tB t σ H Q = (t σ H fun x H1 => ∃ c, x = .bl c ∧ Q c H1) := rfl
theorem tAnd_ap (t u : TT) (σ : St) (H : Hp) (Q : (Bool → Hp → Prop)) : tAnd t u σ H Q = (t σ H fun c H1 => if c = true then u σ H1 Q else Q false H1) := rfl
theorem tOr_ap (t u : TT) (σ : St) (H : Hp) (Q : (Bool → Hp → Prop)) : tOr t u σ H Q = (t σ H fun c H1 => if c = true then Q true H1 else u σ H1 Q) := rfl
theorem tNot_ap (t : TT) (σ : St) (H : Hp) (Q : (Bool → Hp → Prop)) : tNot t σ H Q = (t σ H fun c H1 => Q (!c) H1) := rfl
theorem tAndV_ap (ta tb : TE) (σ : St) (H : Hp) (Q : VK) : tAndV ta tb σ H Q = (ta σ H fun x H1 => ∃ c, x = .bl c ∧ if c = true then tb σ H1 Q else Q (.bl false) H1) := rfl
theorem tOrV_ap (ta tb : TE) (σ : St) (H : Hp) (Q : VK) : tOrV ta tb σ H Q = (ta σ H fun x H1 => ∃ c, x = .bl c ∧ if c = true then Q (.bl true) H1 else tb σ H1 Q) := rfl
theorem tNotV_ap (ta : TE) (σ : St) (H : Hp) (Q : VK) : tNotV ta σ H Q = (ta σ H fun x H1 => ∃ c, x = .bl c ∧ Q (.bl (!c)) H1) := rfl
theorem tIf_ap (t : TT) (ta tb : TE) (σ : St) (H : Hp) (Q : VK) : tIf t ta tb σ H Q = (t σ H fun c H1 => if c = true then ta σ H1 Q else tb σ H1 Q) := rfl
theorem tNext_ap (D : Ends) (σ : St) (H : Hp) : tNext  D σ H = (D.nx σ H) := rfl
theorem tSeq_ap (t u : TS) (D : Ends) (σ : St) (H : Hp) : tSeq t u D σ H = (t { D with nx := u D } σ H) := rfl
theorem tBreak_ap (D : Ends) (σ : St) (H : Hp) : tBreak  D σ H = (D.bk σ H) := rfl
theorem tCont_ap (D : Ends) (σ : St) (H : Hp) : tCont  D σ H = (D.ct σ H) := rfl
theorem tDrop_ap (te : TE) (D : Ends) (σ : St) (H : Hp) : tDrop te D σ H = (te σ H fun _ H1 => D.nx σ H1) := rfl
theorem tRet_ap (te : TE) (D : Ends) (σ : St) (H : Hp) : tRet te D σ H = (te σ H D.rt) := rfl
theorem tRetN_ap (D : Ends) (x_1 : St) (H : Hp) : tRetN  D x_1 H = (D.rt .non H) := rfl
theorem tNever_ap (x_0 : Ends) (x_1 : St) (x_2 : Hp) : tNever  x_0 x_1 x_2 = (False) := rfl
theorem gName_ap (i : Nat) (v : V) (σ : St) (H : Hp) (Q : (St → Hp → Prop)) : gName i v σ H Q = (Q (σ.set i (some v)) H) := rfl
theorem gNil_ap (vs : List V) (σ : St) (H : Hp) (Q : (St → Hp → Prop)) : gNil  vs σ H Q = (vs = [] ∧ Q σ H) := rfl
theorem gCons_ap (t : TG) (u : TGs) (vs : List V) (σ : St) (H : Hp) (Q : (St → Hp → Prop)) : gCons t u vs σ H Q = (∃ v r, vs = v :: r ∧ t v σ H fun σ' H' => u r σ' H' Q) := rfl
theorem gTup_ap (K : PySem.W.Frag) (n : Nat) (t : TGs) (v : V) (σ : St) (H : Hp) (Q : (St → Hp → Prop)) : gTup K n t v σ H Q = (∃ a xs, v = .ref a ∧ SqT K H a xs ∧ xs.length = n ∧ t xs σ H Q) := rfl
theorem gSub_ap (to ti : TE) (t : TSet) (v : V) (σ : St) (H : Hp) (Q : (St → Hp → Prop)) : gSub to ti t v σ H Q = (to σ H fun o H1 => ti σ H1 fun i H2 => t o i v H2 fun H3 => Q σ H3) := rfl
theorem tAsg_ap (te : TE) (g : TG) (D : Ends) (σ : St) (H : Hp) : tAsg te g D σ H = (te σ H fun x H1 => g x σ H1 D.nx) := rfl
theorem tPar_ap (i j : Nat) (ta : TA) (D : Ends) (σ : St) (H : Hp) : tPar i j ta D σ H = (ta σ H fun vs H1 => ∃ v w, vs = [v, w] ∧ D.nx ((σ.set i (some v)).set j (some w)) H1) := rfl
theorem tAug_ap (i : Nat) (te : TE) (ti : TIp) (D : Ends) (σ : St) (H : Hp) : tAug i te ti D σ H = (∃ x, σ[i]? = some (some x) ∧ te σ H fun y H1 => ti x y H1 fun z H2 => D.nx (σ.set i (some z)) H2) := rfl
theorem tAugS_ap (to ti te : TE) (tget : V → V → Hp → VK → Prop) (tip : TIp) (tset : TSet) (D : Ends) (σ : St) (H : Hp) : tAugS to ti te tget tip tset D σ H = (to σ H fun o H1 => ti σ H1 fun i H2 => tget o i H2 fun x H3 => te σ H3 fun y H4 => tip x y H4 fun z H5 => tset o i z H5 fun H6 => D.nx σ H6) := rfl
theorem iList_ap (K : PySem.W.Frag) (tl : TE) (σ : St) (H : Hp) (R : (It → Hp → Prop)) : iList K tl σ H R = (tl σ H fun x H1 => ∃ a, x = .ref a ∧ (∃ xs, SqL K H1 a xs) ∧ R (Itl K a) H1) := rfl
theorem iTup_ap (K : PySem.W.Frag) (tl : TE) (σ : St) (H : Hp) (R : (It → Hp → Prop)) : iTup K tl σ H R = (tl σ H fun x H1 => ∃ a, x = .ref a ∧ (∃ xs, SqT K H1 a xs) ∧ R (Itt K a) H1) := rfl
theorem tOp_ap (r : R2) (ta tb : TE) (σ : St) (H : Hp) (Q : VK) : tOp r ta tb σ H Q = (ta σ H fun x H1 => tb σ H1 fun y H2 => r x y H2 Q) := rfl
theorem tUn_ap (r : V → Hp → VK → Prop) (ta : TE) (σ : St) (H : Hp) (Q : VK) : tUn r ta σ H Q = (ta σ H fun x H1 => r x H1 Q) := rfl
theorem rI_ap (C : Int → Int → Prop) (g : Int → Int → V) (x : V) (y : V) (H : Hp) (Q : VK) : rI C g x y H Q = (∃ i j, x = .int i ∧ y = .int j ∧ C i j ∧ Q (g i j) H) := rfl
theorem rI0_ap (g : Int → Int → V) (x : V) (y : V) (H : Hp) (Q : VK) : rI0 g x y H Q = (∃ i j, x = .int i ∧ y = .int j ∧ Q (g i j) H) := rfl
theorem rU_ap (g : Int → V) (x : V) (H : Hp) (Q : VK) : rU g x H Q = (∃ i, x = .int i ∧ Q (g i) H) := rfl
theorem rEq_ap (x : V) (y : V) (H : Hp) (Q : VK) : rEq  x y H Q = (scal x y = true ∧ Q (.bl (decide (x = y))) H) := rfl
theorem rNe_ap (x : V) (y : V) (H : Hp) (Q : VK) : rNe  x y H Q = (scal x y = true ∧ Q (.bl (!decide (x = y))) H) := rfl
theorem tTest_ap (t : TE) (σ : St) (H : Hp) (Q : (Bool → Hp → Prop)) : tTest t σ H Q = (t σ H fun x H' => ∃ k, x = .bl k ∧ Q k H') := rfl
theorem tChain_ap (r r' : R2) (ta tb tc : TE) (σ : St) (H : Hp) (Q : VK) : tChain r r' ta tb tc σ H Q = (ta σ H fun x H1 => tb σ H1 fun y H2 => r x y H2 fun z H3 => ∃ k, z = .bl k ∧
  (if k = true then tc σ H3 fun w' H4 => r' y w' H4 Q else Q (.bl false) H3)) := rfl
theorem tCon_ap (K : PySem.W.Frag) (ta : TE) (f : Str) (σ : St) (H : Hp) (Q : VK) : tCon K ta f σ H Q = (ta σ H fun x H1 => ∃ a C dx fs v u, x = .ref a ∧ H1 a = some (.ins C dx fs) ∧ Cls K C ∧ Con K C f v u ∧ fs.lookup f = none ∧ Q v H1) := rfl
theorem sFld_ap (K : PySem.W.Frag) (ta tv : TE) (f : Str) (D : Ends) (σ : St) (H : Hp) : sFld K ta tv f D σ H = (tv σ H fun y H1 => ta σ H1 fun x H2 => ∃ a C dx fs, x = .ref a ∧ H2 a = some (.ins C dx fs) ∧ Cls K C ∧ NoAttr K C f ∧ fs.length < 1000 ∧
  D.nx σ (upd H2 a (.ins C dx (putF f y fs)))) := rfl
theorem sFldAug_ap (K : PySem.W.Frag) (ta tv : TE) (rd : V → V → Hp → VK → Prop) (f : Str) (D : Ends) (σ : St) (H : Hp) : sFldAug K ta tv rd f D σ H = (ta σ H fun x H1 => ∃ a C dx fs v, x = .ref a ∧ H1 a = some (.ins C dx fs) ∧ Cls K C ∧ NoAttr K C f ∧ fs.lookup f = some v ∧
  tv σ H1 fun y H2 => rd v y H2 fun z H3 => ∃ dx' fs', H3 a = some (.ins C dx' fs') ∧ fs'.length < 1000 ∧ D.nx σ (upd H3 a (.ins C dx' (putF f z fs')))) := rfl
theorem rAdd_ap (x : V) (y : V) (H : Hp) (Q : VK) : rAdd  x y H Q = (∃ i j, x = .int i ∧ y = .int j ∧ Q (.int (i + j)) H) := rfl
theorem rSub_ap (x : V) (y : V) (H : Hp) (Q : VK) : rSub  x y H Q = (∃ i j, x = .int i ∧ y = .int j ∧ Q (.int (i - j)) H) := rfl
theorem tNil_ap (x_0 : St) (H : Hp) (Q : (List V → Hp → Prop)) : tNil  x_0 H Q = (Q [] H) := rfl
theorem tCons_ap (ta : TE) (tr : TA) (σ : St) (H : Hp) (Q : (List V → Hp → Prop)) : tCons ta tr σ H Q = (ta σ H fun x H1 => tr σ H1 fun xs H2 => Q (x :: xs) H2) := rfl
theorem tTup_ap (t : TA) (σ : St) (H : Hp) (Q : VK) : tTup t σ H Q = (t σ H fun xs H1 => xs.length ≤ sizeLine ∧ ∀ p, H1 p = none → Q (.ref p) (upd H1 p (.tup xs))) := rfl
theorem tLst_ap (t : TA) (σ : St) (H : Hp) (Q : VK) : tLst t σ H Q = (t σ H fun xs H1 => xs.length ≤ sizeLine ∧ ∀ p, H1 p = none → Q (.ref p) (upd H1 p (.lst xs))) := rfl
theorem tCall_ap (sp : Sp) (dvs : List V) (E : XK) (t : TA) (σ : St) (H : Hp) (Q : VK) : tCall sp dvs E t σ H Q = (t σ H fun vs H1 => sp (vs ++ dvs) H1 Q E) := rfl
theorem tMeth_ap (C : Addr) (m : Str) (sp : Sp) (dvs : List V) (E : XK) (ta : TE) (t : TA) (σ : St) (H : Hp) (Q : VK) : tMeth C m sp dvs E ta t σ H Q = (ta σ H fun x H1 => ∃ a dx fs, x = .ref a ∧ H1 a = some (.ins C dx fs) ∧ fs.lookup m = none ∧
  t σ H1 fun vs H2 => sp (x :: (vs ++ dvs)) H2 Q E) := rfl
theorem tMake_ap (C : Addr) (sp : Sp) (dvs : List V) (E : XK) (t : TA) (σ : St) (H : Hp) (Q : VK) : tMake C sp dvs E t σ H Q = (t σ H fun vs H1 => ∀ x dx, H1 x = none → H1 dx = none → dx ≠ x →
  sp (.ref x :: (vs ++ dvs)) (upd (upd H1 dx (.own x)) x (.ins C dx [])) (fun v H2 => v = .non ∧ Q (.ref x) H2) E) := rfl
theorem tCallK_ap (sp : Sp) (gV : List V → List V → List V) (E : XK) (t tk : TA) (σ : St) (H : Hp) (Q : VK) : tCallK sp gV E t tk σ H Q = (t σ H fun vs H1 => tk σ H1 fun zs H2 => sp (gV vs zs) H2 Q E) := rfl
theorem tCB_ap (r : List V → Hp → VK → Prop) (t : TA) (σ : St) (H : Hp) (Q : VK) : tCB r t σ H Q = (t σ H fun vs H1 => r vs H1 Q) := rfl
theorem tNoPart_ap (x_0 : St) (H : Hp) (Q : (Option Int → Hp → Prop)) : tNoPart  x_0 H Q = (Q none H) := rfl
theorem tPart_ap (t : TE) (σ : St) (H : Hp) (Q : (Option Int → Hp → Prop)) : tPart t σ H Q = (t σ H fun x H1 => ∃ i, x = .int i ∧ Q (some i) H1) := rfl
theorem tSl_ap (r : V → Option Int → Option Int → Hp → VK → Prop) (te : TE) (tl th : TO) (σ : St) (H : Hp) (Q : VK) : tSl r te tl th σ H Q = (te σ H fun x H1 => tl σ H1 fun l H2 => th σ H2 fun u H3 => r x l u H3 Q) := rfl
theorem rSlT_ap (K : PySem.W.Frag) (x : V) (lo : Option Int) (hi : Option Int) (H : Hp) (Q : VK) : rSlT K x lo hi H Q = (∃ a xs, x = .ref a ∧ SqT K H a xs ∧
  ¬ (HT.sIx xs.length 0 lo = 0 ∧ HT.sIx xs.length xs.length hi = xs.length) ∧ ∀ p, H p = none → Q (.ref p) (upd H p (.tup (cutV xs lo hi)))) := rfl
theorem rLtT_ap (K : PySem.W.Frag) (x : V) (y : V) (H : Hp) (Q : VK) : rLtT K x y H Q = (∃ a b ns ms, x = .ref a ∧ y = .ref b ∧ SqT K H a (ns.map V.int) ∧ SqT K H b (ms.map V.int) ∧ Q (.bl (HT.lexLt ns ms)) H) := rfl
theorem rCatT_ap (K : PySem.W.Frag) (x : V) (y : V) (H : Hp) (Q : VK) : rCatT K x y H Q = (∃ a b xs ys, x = .ref a ∧ y = .ref b ∧ SqT K H a xs ∧ SqT K H b ys ∧ xs ≠ [] ∧ xs.length + ys.length ≤ sizeLine ∧
  (ys = [] → Q (.ref a) H) ∧ (ys ≠ [] → ∀ p, H p = none → Q (.ref p) (upd H p (.tup (xs ++ ys))))) := rfl
theorem rIxL_ap (K : PySem.W.Frag) (x : V) (y : V) (H : Hp) (Q : VK) : rIxL K x y H Q = (∃ p xs i v, x = .ref p ∧ y = .int i ∧ SqL K H p xs ∧ atI xs i = some v ∧ Q v H) := rfl
theorem rIxT_ap (K : PySem.W.Frag) (x : V) (y : V) (H : Hp) (Q : VK) : rIxT K x y H Q = (∃ p xs i v, x = .ref p ∧ y = .int i ∧ SqT K H p xs ∧ atI xs i = some v ∧ Q v H) := rfl
theorem rIxS_ap (x : V) (y : V) (H : Hp) (Q : VK) : rIxS  x y H Q = (∃ z i c, x = .str z ∧ y = .int i ∧ z.length ≤ sizeLine ∧ atI z.cps.toList i = some c ∧ Q (.str ⟨#[c]⟩) H) := rfl
theorem rIx_ap (K : PySem.W.Frag) (x : V) (y : V) (H : Hp) (Q : VK) : rIx K x y H Q = (rIxL K x y H Q ∨ rIxT K x y H Q ∨ rIxS x y H Q) := rfl
theorem rSetL_ap (o : V) (i : V) (v : V) (H : Hp) (Q : (Hp → Prop)) : rSetL  o i v H Q = (∃ p xs k j, o = .ref p ∧ i = .int k ∧ H p = some (.lst xs) ∧ ixN xs.length k = some j ∧ Q (upd H p (.lst (xs.set j v)))) := rfl
theorem rSlL_ap (K : PySem.W.Frag) (x : V) (lo : Option Int) (hi : Option Int) (H : Hp) (Q : VK) : rSlL K x lo hi H Q = (∃ a xs, x = .ref a ∧ SqL K H a xs ∧ ∀ p, H p = none → Q (.ref p) (upd H p (.lst (cutV xs lo hi)))) := rfl
theorem rIn_ap (K : PySem.W.Frag) (neg : Bool) (x : V) (y : V) (H : Hp) (Q : VK) : rIn K neg x y H Q = (∃ p xs, y = .ref p ∧ (SqL K H p xs ∨ SqT K H p xs) ∧ flatV x = true ∧ xs.all flatV = true ∧ Q (.bl (if neg then !inV x xs else inV x xs)) H) := rfl
theorem tBM0_ap (K : PySem.W.Frag) (T : String) (r : V → List V → Hp → VK → Prop) (to : TE) (σ : St) (H : Hp) (Q : VK) : tBM0 K T r to σ H Q = (to σ H fun x H1 => tyV K T x H1 ∧ r x [] H1 Q) := rfl
theorem tBM_ap (K : PySem.W.Frag) (T : String) (r : V → List V → Hp → VK → Prop) (to : TE) (t : TA) (σ : St) (H : Hp) (Q : VK) : tBM K T r to t σ H Q = (to σ H fun x H1 => tyV K T x H1 ∧ t σ H1 fun xs H2 => r x xs H2 Q) := rfl
theorem rAppend_ap (x : V) (vs : List V) (H : Hp) (Q : VK) : rAppend  x vs H Q = (∃ l xs y, x = .ref l ∧ vs = [y] ∧ H l = some (.lst xs) ∧ xs.length < sizeLine ∧ Q .non (upd H l (.lst (xs ++ [y])))) := rfl
theorem rExtend_ap (x : V) (vs : List V) (H : Hp) (Q : VK) : rExtend  x vs H Q = (∃ l b xs zs, x = .ref l ∧ vs = [.ref b] ∧ H l = some (.lst xs) ∧ H b = some (.lst zs) ∧ xs.length + zs.length ≤ sizeLine ∧ Q .non (upd H l (.lst (xs ++ zs)))) := rfl
theorem rPop_ap (x : V) (vs : List V) (H : Hp) (Q : VK) : rPop  x vs H Q = (∃ l xs y, x = .ref l ∧ vs = [] ∧ H l = some (.lst xs) ∧ xs[xs.length - 1]? = some y ∧ Q y (upd H l (.lst xs.dropLast))) := rfl
theorem rPopAt_ap (x : V) (vs : List V) (H : Hp) (Q : VK) : rPopAt  x vs H Q = (∃ l xs i k y, x = .ref l ∧ vs = [.int i] ∧ H l = some (.lst xs) ∧ -(2 ^ 63) ≤ i ∧ i < 2 ^ 63 ∧ seqIndex? i xs.length = some k ∧ xs[k]? = some y ∧ Q y (upd H l (.lst (xs.eraseIdx k)))) := rfl
theorem rReverse_ap (x : V) (vs : List V) (H : Hp) (Q : VK) : rReverse  x vs H Q = (∃ l xs, x = .ref l ∧ vs = [] ∧ H l = some (.lst xs) ∧ Q .non (upd H l (.lst xs.reverse))) := rfl
theorem rClear_ap (x : V) (vs : List V) (H : Hp) (Q : VK) : rClear  x vs H Q = (∃ l xs, x = .ref l ∧ vs = [] ∧ H l = some (.lst xs) ∧ Q .non (upd H l (.lst []))) := rfl
theorem rCat_ap (x : V) (y : V) (H : Hp) (Q : VK) : rCat  x y H Q = (∃ l b xs zs, x = .ref l ∧ y = .ref b ∧ H l = some (.lst xs) ∧ H b = some (.lst zs) ∧ xs.length + zs.length ≤ sizeLine ∧ ∀ p, H p = none → Q (.ref p) (upd H p (.lst (xs ++ zs)))) := rfl
theorem rRep_ap (x : V) (y : V) (H : Hp) (Q : VK) : rRep  x y H Q = (∃ l k xs, x = .ref l ∧ y = .int k ∧ H l = some (.lst xs) ∧ -(2 ^ 63) ≤ k ∧ k < 2 ^ 63 ∧ xs.length * k.toNat ≤ sizeLine ∧
  ∀ p, H p = none → Q (.ref p) (upd H p (.lst (List.replicate k.toNat xs).flatten))) := rfl
theorem tDGet_ap (td ty : TE) (σ : St) (H : Hp) (Q : VK) : tDGet td ty σ H Q = (td σ H fun x H1 => ty σ H1 fun y H2 => ∃ a v, x = .ref a ∧ DGet H2 a y (some v) ∧ Q v H2) := rfl
theorem tDIn_ap (ty td : TE) (σ : St) (H : Hp) (Q : VK) : tDIn ty td σ H Q = (ty σ H fun y H1 => td σ H1 fun x H2 => ∃ a o, x = .ref a ∧ DGet H2 a y o ∧ Q (.bl o.isSome) H2) := rfl
theorem tDNotIn_ap (ty td : TE) (σ : St) (H : Hp) (Q : VK) : tDNotIn ty td σ H Q = (ty σ H fun y H1 => td σ H1 fun x H2 => ∃ a o, x = .ref a ∧ DGet H2 a y o ∧ Q (.bl (!o.isSome)) H2) := rfl
theorem sDPut_ap (td ty tv : TE) (D : Ends) (σ : St) (H : Hp) : sDPut td ty tv D σ H = (tv σ H fun v H1 => td σ H1 fun x H2 => ty σ H2 fun y H3 => ∃ a H4, x = .ref a ∧ DPut H3 a y v H4 ∧ D.nx σ H4) := rfl
theorem sDAug_ap (td ty tv : TE) (rd : V → V → Hp → VK → Prop) (D : Ends) (σ : St) (H : Hp) : sDAug td ty tv rd D σ H = (td σ H fun x H1 => ty σ H1 fun y H2 => ∃ a v, x = .ref a ∧ DGet H2 a y (some v) ∧
  tv σ H2 fun y2 H3 => rd v y2 H3 fun z H4 => ∃ H5, DPut H4 a y z H5 ∧ D.nx σ H5) := rfl
theorem sDDel_ap (td ty : TE) (D : Ends) (σ : St) (H : Hp) : sDDel td ty D σ H = (td σ H fun x H1 => ty σ H1 fun y H2 => ∃ a kvs k, x = .ref a ∧ H2 a = some (.dK kvs) ∧ y = kV k ∧ (valV kvs k).isSome = true ∧ D.nx σ (upd H2 a (.dK (dropK kvs k)))) := rfl
theorem tDNewK_ap (x_0 : St) (H : Hp) (Q : VK) : tDNewK  x_0 H Q = (∀ p, H p = none → Q (.ref p) (upd H p (.dK []))) := rfl
theorem tDNewT_ap (x_0 : St) (H : Hp) (Q : VK) : tDNewT  x_0 H Q = (∀ p, H p = none → Q (.ref p) (upd H p (.dT []))) := rfl
theorem tDisp_ap (trs : List (TE × TE)) (σ : St) (H : Hp) (Q : VK) : tDisp trs σ H Q = (∀ p, H p = none → tPairs trs σ (upd H p (.dK [])) fun ps H2 => H2 p = some (.dK []) ∧ ∃ kvs : List (Key × V), ps = kvs.map (fun kv => (kV kv.1, kv.2)) ∧ kvs.length ≤ 15 ∧ Q (.ref p) (upd H2 p (.dK (mergeK [] kvs)))) := rfl
theorem tDGet1_ap (td ty : TE) (σ : St) (H : Hp) (Q : VK) : tDGet1 td ty σ H Q = (td σ H fun x H1 => ∃ a, x = .ref a ∧ IsD H1 a ∧ ty σ H1 fun y H2 => ∃ o, DGet H2 a y o ∧ Q (o.getD .non) H2) := rfl
theorem tDGet2_ap (td ty tx : TE) (σ : St) (H : Hp) (Q : VK) : tDGet2 td ty tx σ H Q = (td σ H fun x H1 => ∃ a, x = .ref a ∧ IsD H1 a ∧ ty σ H1 fun y H2 => tx σ H2 fun z H3 => ∃ o, DGet H3 a y o ∧ Q (o.getD z) H3) := rfl
theorem tDPop1_ap (td ty : TE) (σ : St) (H : Hp) (Q : VK) : tDPop1 td ty σ H Q = (td σ H fun x H1 => ∃ a, x = .ref a ∧ IsD H1 a ∧ ty σ H1 fun y H2 => ∃ kvs k v, H2 a = some (.dK kvs) ∧ y = kV k ∧ valV kvs k = some v ∧ Q v (upd H2 a (.dK (dropK kvs k)))) := rfl
theorem tDPop2_ap (td ty tx : TE) (σ : St) (H : Hp) (Q : VK) : tDPop2 td ty tx σ H Q = (td σ H fun x H1 => ∃ a, x = .ref a ∧ IsD H1 a ∧ ty σ H1 fun y H2 => tx σ H2 fun z H3 => ∃ kvs k, H3 a = some (.dK kvs) ∧ y = kV k ∧
  (∀ v, valV kvs k = some v → Q v (upd H3 a (.dK (dropK kvs k)))) ∧ (valV kvs k = none → Q z H3)) := rfl
theorem tTrue_ap (x_0 : St) (H : Hp) (Q : (Bool → Hp → Prop)) : tTrue  x_0 H Q = (Q true H) := rfl
theorem iStr_ap (tl : TE) (σ : St) (H : Hp) (R : (It → Hp → Prop)) : iStr tl σ H R = (tl σ H fun x H1 => ∃ z, x = .str z ∧ R (Its (signsV z)) H1) := rfl
theorem rSlS_ap (x : V) (lo : Option Int) (hi : Option Int) (H : Hp) (Q : VK) : rSlS  x lo hi H Q = (∃ z, x = .str z ∧ z.length ≤ sizeLine ∧ Q (.str (Txt.slice z lo hi)) H) := rfl
theorem rJoin_ap (K : PySem.W.Frag) (x : V) (vs : List V) (H : Hp) (Q : VK) : rJoin K x vs H Q = (∃ sep p ys, x = .str sep ∧ vs = [.ref p] ∧ SqL K H p (strsV ys) ∧ (ys.map (·.length)).sum + ys.length * sep.length ≤ 16777216 ∧ Q (.str (Txt.join sep ys)) H) := rfl
theorem rSplit_ap (x : V) (vs : List V) (H : Hp) (Q : VK) : rSplit  x vs H Q = (∃ z y, x = .str z ∧ vs = [.str y] ∧ y.length ≠ 0 ∧ z.length + 2 ≤ sizeLine ∧ (Txt.split z y).length ≤ sizeLine ∧ ∀ p, H p = none → Q (.ref p) (upd H p (.lst (strsV (Txt.split z y))))) := rfl
theorem rIndexS_ap (x : V) (vs : List V) (H : Hp) (Q : VK) : rIndexS  x vs H Q = (∃ z y i rest, x = .str z ∧ vs = [.str y] ∧ Builtin.Str.occurrences z y 0 z.length 1 = i :: rest ∧ Q (.int (i : Nat)) H) := rfl
theorem tMethV_ap (OK : Addr → Prop) (m : Str) (SPV : Addr → Sp) (E : XK) (ta : TE) (t : TA) (σ : St) (H : Hp) (Q : VK) : tMethV OK m SPV E ta t σ H Q = (ta σ H fun x H1 => ∃ a C dx fs, x = .ref a ∧ H1 a = some (.ins C dx fs) ∧ OK C ∧ fs.lookup m = none ∧
  t σ H1 fun vs H2 => SPV C (x :: vs) H2 Q E) := rfl
theorem tDGetK_ap (kvs : SVs) (ty : TE) (σ : St) (H : Hp) (Q : VK) : tDGetK kvs ty σ H Q = (ty σ H fun y H1 => ∃ x v, y = .str x ∧ kvs.lookup x = some v ∧ Q v H1) := rfl
theorem iEnum_ap (K : PySem.W.Frag) (ta : TA) (σ : St) (H : Hp) (R : (It → Hp → Prop)) : iEnum K ta σ H R = (ta σ H fun vs H1 => ∃ a, vs = [.ref a] ∧ (∃ xs, SqL K H1 a xs) ∧ R (Ite K a) H1) := rfl
theorem iZip_ap (K : PySem.W.Frag) (ta : TA) (σ : St) (H : Hp) (R : (It → Hp → Prop)) : iZip K ta σ H R = (ta σ H fun vs H1 => ∃ a b, vs = [.ref a, .ref b] ∧ (∃ xs, SqL K H1 a xs) ∧ (∃ ys, SqL K H1 b ys) ∧ R (Itz K a b) H1) := rfl
theorem iRev_ap (K : PySem.W.Frag) (ta : TA) (σ : St) (H : Hp) (R : (It → Hp → Prop)) : iRev K ta σ H R = (ta σ H fun vs H1 => ∃ a xs, vs = [.ref a] ∧ SqL K H1 a xs ∧ R (Itv K a xs.length) H1) := rfl
theorem rInsert_ap (x : V) (vs : List V) (H : Hp) (Q : VK) : rInsert  x vs H Q = (∃ l xs i y, x = .ref l ∧ vs = [.int i, y] ∧ H l = some (.lst xs) ∧ 0 ≤ i ∧ i < 2 ^ 62 ∧ i ≤ (xs.length : Int) ∧ xs.length < sizeLine ∧ Q .non (upd H l (.lst (xs.take i.toNat ++ y :: xs.drop i.toNat)))) := rfl
theorem rNeL_ap (K : PySem.W.Frag) (x : V) (y : V) (H : Hp) (Q : VK) : rNeL K x y H Q = (∃ p q b, x = .ref p ∧ y = .ref q ∧ EqH K H 8 (.ref p) (.ref q) b ∧ Q (.bl (!b)) H) := rfl
theorem rEqL_ap (K : PySem.W.Frag) (x : V) (y : V) (H : Hp) (Q : VK) : rEqL K x y H Q = (∃ p q b, x = .ref p ∧ y = .ref q ∧ EqH K H 8 (.ref p) (.ref q) b ∧ Q (.bl b) H) := rfl
def ForW (J : It) (g : TG) (tb : TS) (D : Ends) (σ : St) (H : Hp) : Prop := ∃ W : Nat → Nat → St → Hp → Prop, (∃ m, W 0 m σ H) ∧ ∀ i m σ H, W i m σ H →
  (J.stop i H ∧ D.nx σ H) ∨ (J.go i H ∧ ∃ N : St → Hp → Prop, (∀ σ' H', N σ' H' → ∃ m', m' < m ∧ W (i + 1) m' σ' H') ∧ ∀ x H', J.yld i H x H' → g x σ H' fun σ2 H2 => tb { D with nx := N, ct := N, bk := D.nx } σ2 H2)
theorem tFor_ap (wi : TI) (g : TG) (tb : TS) (D : Ends) (σ : St) (H : Hp) : tFor wi g tb D σ H = wi σ H fun J H1 => ForW J g tb D σ H1 := rfl
def CompR (J : It) (g : TG) (tc : TT) (te : TE) (σb : St) (Q : VK) (H : Hp) : Prop := ∃ W : Nat → Nat → List V → Hp → Prop, (∃ m, W 0 m [] H) ∧ CompW J g tc te σb Q W
theorem tFld_ap (K : PySem.W.Frag) (ta : TE) (f : Str) (σ : St) (H : Hp) (Q : VK) : tFld K ta f σ H Q = (ta σ H fun x H1 => ∃ a v, x = .ref a ∧ FldAt K H1 a f v ∧ Q v H1) := by
  unfold tFld FldAt
  congr 1
  funext x H1
  apply propext
  constructor
  · rintro ⟨a, C, dx, fs, v, h1, h2, h3, h4, h5, h6⟩; exact ⟨a, v, h1, ⟨C, dx, fs, h2, h3, h4, h5⟩, h6⟩
  · rintro ⟨a, v, h1, ⟨C, dx, fs, h2, h3, h4, h5⟩, h6⟩; exact ⟨a, C, dx, fs, v, h1, h2, h3, h4, h5, h6⟩
theorem tComp_ap (wi : TI) (g : TG) (tc : TT) (te : TE) (sel : List (Option Nat)) (σ : St) (H : Hp) (Q : VK) : tComp wi g tc te sel σ H Q = wi σ H fun J H1 => CompR J g tc te (blk sel σ) Q H1 := rfl
theorem iRng1_ap (ta : TA) (σ : St) (H : Hp) (R : It → Hp → Prop) : iRng1 ta σ H R = (ta σ H fun vs H1 => ∃ j : Int, vs = [.int j] ∧ -4611686018427387904 ≤ j ∧ j < 4611686018427387904 ∧ R (Itr 0 j.toNat) H1) := rfl
theorem iRng2_ap (ta : TA) (σ : St) (H : Hp) (R : It → Hp → Prop) : iRng2 ta σ H R = (ta σ H fun vs H1 => ∃ i j : Int, vs = [.int i, .int j] ∧ (-4611686018427387904 ≤ i ∧ i < 4611686018427387904 ∧ -4611686018427387904 ≤ j ∧ j < 4611686018427387904) ∧ R (Itr i (j - i).toNat) H1) := rfl
theorem sel_map (sel : List (Option Nat)) (σ : St) : blk sel σ = sel.map fun o => o.bind fun j => (σ[j]?).join := rfl
theorem tIfS_by {c : TT} {t u : TS} {D : Ends} {σ : St} {H : Hp} (b : Bool) (hc : ∀ Q : Bool → Hp → Prop, Q b H → c σ H Q) (h1 : b = true → t D σ H) (h2 : b = false → u D σ H) : tIfS c t u D σ H := by
  refine hc _ ?_
  cases b with
  | true => exact h1 rfl
  | false => exact h2 rfl
theorem tIfS_any {c : TT} {t u : TS} {D : Ends} {σ : St} {H : Hp} (R : Bool → Hp → Prop) (hc : ∀ Q : Bool → Hp → Prop, (∀ b H', R b H' → Q b H') → c σ H Q) (h1 : ∀ H', R true H' → t D σ H') (h2 : ∀ H', R false H' → u D σ H') : tIfS c t u D σ H := by
  refine hc _ fun b H' r => ?_
  cases b with
  | true => exact h1 H' r
  | false => exact h2 H' r
theorem tS_any {t : TS} {D : Ends} {σ : St} {H : Hp} (R : St → Hp → Prop) (h : ∀ D' : Ends, (∀ σ H, R σ H → D'.nx σ H) → D'.rt = D.rt → D'.bk = D.bk → D'.ct = D.ct → t D' σ H) (hR : ∀ σ H, R σ H → D.nx σ H) : t D σ H := h D hR rfl rfl rfl
theorem tAsg_by {te : TE} {g : TG} {D : Ends} {σ : St} {H : Hp} (v : V) (hc : ∀ Q : VK, Q v H → te σ H Q) (h : g v σ H D.nx) : tAsg te g D σ H := hc _ h
theorem ForW.range {lo : Int} {n : Nat} {g : TG} {tb : TS} {D : Ends} {σ : St} {H : Hp} (Pv : Nat → St → Hp → Prop) (h0 : Pv 0 σ H)
    (hs : ∀ i σ H, i < n → Pv i σ H → g (.int (lo + i)) σ H fun σ2 H2 => tb { D with nx := Pv (i + 1), ct := Pv (i + 1), bk := D.nx } σ2 H2) (hd : ∀ σ H, Pv n σ H → D.nx σ H) : ForW (Itr lo n) g tb D σ H := for_range Pv h0 hs hd
theorem ForW.list {K : PySem.W.Frag} {a : Addr} {xs : List V} {g : TG} {tb : TS} {D : Ends} {σ : St} {H : Hp} (Pv : Nat → St → Hp → Prop) (h0 : Pv 0 σ H) (hl : ∀ i σ H, i ≤ xs.length → Pv i σ H → SqL K H a xs)
    (hs : ∀ i x σ H, xs[i]? = some x → Pv i σ H → g x σ H fun σ2 H2 => tb { D with nx := Pv (i + 1), ct := Pv (i + 1), bk := D.nx } σ2 H2) (hd : ∀ σ H, Pv xs.length σ H → D.nx σ H) : ForW (Itl K a) g tb D σ H := for_list Pv h0 hl hs hd
theorem ForW.its {xs : List V} {g : TG} {tb : TS} {D : Ends} {σ : St} {H : Hp} (Pv : Nat → St → Hp → Prop) (h0 : Pv 0 σ H)
    (hs : ∀ i x σ H, xs[i]? = some x → Pv i σ H → g x σ H fun σ2 H2 => tb { D with nx := Pv (i + 1), ct := Pv (i + 1), bk := D.nx } σ2 H2) (hd : ∀ σ H, Pv xs.length σ H → D.nx σ H) : ForW (Its xs) g tb D σ H := for_its Pv h0 hs hd
theorem CompR.list {K : PySem.W.Frag} {a : Addr} {xs : List V} {g : TG} {tc : TT} {te : TE} {σb : St} {Q : VK} {H : Hp} (Pv : Nat → List V → Hp → Prop) (hz : xs.length ≤ sizeLine) (h0 : Pv 0 [] H) (hl : ∀ i ys H, i ≤ xs.length → Pv i ys H → SqL K H a xs ∧ ys.length ≤ i)
    (hs : ∀ i x ys H, xs[i]? = some x → Pv i ys H → CompTurn Pv g tc te σb i x ys H) (hd : ∀ ys H, Pv xs.length ys H → ∀ p, H p = none → Q (.ref p) (upd H p (.lst ys))) : CompR (Itl K a) g tc te σb Q H := comp_list Pv hz h0 hl hs hd
theorem CompR.its {xs : List V} {g : TG} {tc : TT} {te : TE} {σb : St} {Q : VK} {H : Hp} (Pv : Nat → List V → Hp → Prop) (hz : xs.length ≤ sizeLine) (h0 : Pv 0 [] H) (hl : ∀ i ys H, i ≤ xs.length → Pv i ys H → ys.length ≤ i)
    (hs : ∀ i x ys H, xs[i]? = some x → Pv i ys H → CompTurn Pv g tc te σb i x ys H) (hd : ∀ ys H, Pv xs.length ys H → ∀ p, H p = none → Q (.ref p) (upd H p (.lst ys))) : CompR (Its xs) g tc te σb Q H := comp_its Pv hz h0 hl hs hd
theorem CompR.range {lo : Int} {n : Nat} {g : TG} {tc : TT} {te : TE} {σb : St} {Q : VK} {H : Hp} (Pv : Nat → List V → Hp → Prop) (hz : n ≤ sizeLine) (h0 : Pv 0 [] H) (hl : ∀ i ys H, i ≤ n → Pv i ys H → ys.length ≤ i)
    (hs : ∀ i ys H, i < n → Pv i ys H → CompTurn Pv g tc te σb i (.int (lo + i)) ys H) (hd : ∀ ys H, Pv n ys H → ∀ p, H p = none → Q (.ref p) (upd H p (.lst ys))) : CompR (Itr lo n) g tc te σb Q H := comp_range Pv hz h0 hl hs hd
theorem ForW.of {J : It} {n : Nat} {g : TG} {tb : TS} {D : Ends} {σ : St} {H : Hp} (Pv : Nat → St → Hp → Prop) (h0 : Pv 0 σ H) (hgo : ∀ i σ H, i < n → Pv i σ H → J.go i H) (hst : ∀ σ H, Pv n σ H → J.stop n H)
    (hs : ∀ i σ H x H', i < n → Pv i σ H → J.yld i H x H' → g x σ H' fun σ2 H2 => tb { D with nx := Pv (i + 1), ct := Pv (i + 1), bk := D.nx } σ2 H2) (hd : ∀ σ H, Pv n σ H → D.nx σ H) : ForW J g tb D σ H := by
  refine ⟨fun i m σ H => m = n - i ∧ i ≤ n ∧ Pv i σ H, ⟨n, by simp, Nat.zero_le _, h0⟩, ?_⟩
  rintro i m σ H ⟨rfl, hi, p⟩
  by_cases hlt : i < n
  · exact .inr ⟨hgo i σ H hlt p, Pv (i + 1), fun σ' H' p' => ⟨n - (i + 1), by omega, rfl, hlt, p'⟩, fun x H' y => hs i σ H x H' hlt p y⟩
  · have e : i = n := by omega
    subst e
    exact .inl ⟨hst σ H p, hd σ H p⟩
theorem CompR.of {J : It} {n : Nat} {g : TG} {tc : TT} {te : TE} {σb : St} {Q : VK} {H : Hp} (Pv : Nat → List V → Hp → Prop) (hz : n ≤ sizeLine) (h0 : Pv 0 [] H) (hgo : ∀ i ys H, i < n → Pv i ys H → J.go i H) (hst : ∀ ys H, Pv n ys H → J.stop n H) (hl : ∀ i ys H, i < n → Pv i ys H → ys.length ≤ i)
    (hs : ∀ i ys H x H', i < n → Pv i ys H → J.yld i H x H' → CompTurn Pv g tc te σb i x ys H') (hd : ∀ ys H, Pv n ys H → ∀ p, H p = none → Q (.ref p) (upd H p (.lst ys))) : CompR J g tc te σb Q H := by
  refine ⟨fun i m ys H => m = n - i ∧ i ≤ n ∧ Pv i ys H, ⟨n, by simp, Nat.zero_le _, h0⟩, ?_⟩
  rintro i m ys H ⟨rfl, hi, p⟩
  by_cases hlt : i < n
  · have hyl := hl i ys H hlt p
    refine .inr ⟨hgo i ys H hlt p, by omega, fun x H' y => ?_⟩
    exact hs i ys H x H' hlt p y (fun ys' H' => ∃ m', m' < n - i ∧ m' = n - (i + 1) ∧ i + 1 ≤ n ∧ Pv (i + 1) ys' H') fun ys' H' r => ⟨n - (i + 1), by omega, rfl, hlt, r⟩
  · have e : i = n := by omega
    subst e
    exact .inl ⟨hst ys H p, hd ys H p⟩
section
variable {K : PySem.W.Frag} {a b : Addr} {xs ys : List V} {g : TG} {tb : TS} {D : Ends} {σ σb : St} {H : Hp} {tc : TT} {te : TE} {Q : VK}
theorem ForW.enum (Pv : Nat → St → Hp → Prop) (h0 : Pv 0 σ H) (hl : ∀ i σ H, i ≤ xs.length → Pv i σ H → SqL K H a xs)
    (hs : ∀ i x σ H p, xs[i]? = some x → Pv i σ H → H p = none → g (.ref p) σ (upd H p (.tup [.int i, x])) fun σ2 H2 => tb { D with nx := Pv (i + 1), ct := Pv (i + 1), bk := D.nx } σ2 H2) (hd : ∀ σ H, Pv xs.length σ H → D.nx σ H) : ForW (Ite K a) g tb D σ H := by
  refine ForW.of (n := xs.length) Pv h0 (fun i σ H hi p => ⟨xs, xs[i], hl i σ H (Nat.le_of_lt hi) p, by simp [hi]⟩) (fun σ H p => ⟨xs, hl _ σ H (Nat.le_refl _) p, Nat.le_refl _⟩) (fun i σ H v H' hi p y => ?_) hd
  obtain ⟨q, x, hq, rfl, hx, rfl⟩ := y
  exact hs i x σ H q (hx xs (hl i σ H (Nat.le_of_lt hi) p)) p hq
theorem ForW.zip (Pv : Nat → St → Hp → Prop) (h0 : Pv 0 σ H) (hl : ∀ i σ H, i ≤ xs.length → Pv i σ H → SqL K H a xs ∧ SqL K H b ys) (n : Nat) (hn : n = min xs.length ys.length)
    (hs : ∀ i x y σ H p, xs[i]? = some x → ys[i]? = some y → Pv i σ H → H p = none → g (.ref p) σ (upd H p (.tup [x, y])) fun σ2 H2 => tb { D with nx := Pv (i + 1), ct := Pv (i + 1), bk := D.nx } σ2 H2) (hd : ∀ σ H, Pv n σ H → D.nx σ H) : ForW (Itz K a b) g tb D σ H := by
  subst hn
  refine ForW.of (n := min xs.length ys.length) Pv h0 (fun i σ H hi p => ?_) (fun σ H p => ?_) (fun i σ H v H' hi p y => ?_) hd
  · obtain ⟨z1, z2⟩ := hl i σ H (by omega) p
    exact ⟨xs, ys, xs[i], ys[i], z1, z2, by rw [List.getElem?_eq_getElem (by omega)], by rw [List.getElem?_eq_getElem (by omega)]⟩
  · obtain ⟨z1, z2⟩ := hl _ σ H (by omega) p
    exact ⟨xs, ys, z1, z2, by omega⟩
  · obtain ⟨q, x, y, hq, rfl, hx, hy, rfl⟩ := y
    obtain ⟨z1, z2⟩ := hl i σ H (by omega) p
    exact hs i x y σ H q (hx xs z1) (hy ys z2) p hq
theorem CompR.enum (Pv : Nat → List V → Hp → Prop) (hz : xs.length ≤ sizeLine) (h0 : Pv 0 [] H) (hl : ∀ i ys H, i ≤ xs.length → Pv i ys H → SqL K H a xs ∧ ys.length ≤ i)
    (hs : ∀ i x ys H p, xs[i]? = some x → Pv i ys H → H p = none → CompTurn Pv g tc te σb i (.ref p) ys (upd H p (.tup [.int i, x]))) (hd : ∀ ys H, Pv xs.length ys H → ∀ p, H p = none → Q (.ref p) (upd H p (.lst ys))) : CompR (Ite K a) g tc te σb Q H := by
  refine CompR.of (n := xs.length) Pv hz h0 (fun i ys H hi p => ⟨xs, xs[i], (hl i ys H (Nat.le_of_lt hi) p).1, by simp [hi]⟩) (fun ys H p => ⟨xs, (hl _ ys H (Nat.le_refl _) p).1, Nat.le_refl _⟩) (fun i ys H hi p => (hl i ys H (Nat.le_of_lt hi) p).2) (fun i zs H v H' hi p y => ?_) hd
  obtain ⟨q, x, hq, rfl, hx, rfl⟩ := y
  exact hs i x zs H q (hx xs (hl i zs H (Nat.le_of_lt hi) p).1) p hq
theorem gTup2_at {i j : Nat} {p : Addr} {x y : V} {R : St → Hp → Prop} (h : SqT K H p [x, y]) (q : R ((σ.set i (some x)).set j (some y)) H) : gTup K 2 (gCons (gName i) (gCons (gName j) gNil)) (.ref p) σ H R :=
  ⟨p, _, rfl, h, rfl, x, _, rfl, y, _, rfl, rfl, q⟩
theorem gTup2_new {i j : Nat} {p : Addr} {x y : V} {R : St → Hp → Prop} (q : R ((σ.set i (some x)).set j (some y)) (upd H p (.tup [x, y]))) : gTup K 2 (gCons (gName i) (gCons (gName j) gNil)) (.ref p) σ (upd H p (.tup [x, y])) R :=
  gTup2_at (.inl (.inl upd_same)) q
end
theorem CompR.range_sel {lo : Int} {n : Nat} {ss : List (Option V)} {g : TG} {tc : TT} {te : TE} {σb : St} {Q : VK} {H : Hp} (hz : n ≤ sizeLine) (he : ss.length = n)
    (hs : ∀ (i : Nat) (o : Option V) (ys : List V) (N : List V → Hp → Prop), i < n → ss[i]? = some o → N (ys ++ o.toList) H → g (.int (lo + i)) σb H fun σ2 H2 => Sub σb σ2 ∧ tc σ2 H2 fun c H3 => if c = true then te σ2 H3 fun y H4 => N (ys ++ [y]) H4 else N ys H3)
    (hd : ∀ p, H p = none → Q (.ref p) (upd H p (.lst (ss.flatMap Option.toList)))) : CompR (Itr lo n) g tc te σb Q H := by
  refine CompR.range (fun i ys H' => H' = H ∧ ys = (ss.take i).flatMap Option.toList ∧ ys.length ≤ i) hz ⟨rfl, rfl, Nat.le_refl _⟩ (fun i ys H' hi ⟨e0, e, e'⟩ => e') (fun i ys H' hi ⟨e1, e2, e3⟩ N hN => ?_) (fun ys H' ⟨e1, e2, _⟩ p hp => ?_)
  · subst e1
    have hi' : i < ss.length := by omega
    have hz' : ss[i]? = some ss[i] := List.getElem?_eq_getElem hi'
    refine hs i ss[i] ys N hi hz' (hN _ _ ⟨rfl, by rw [e2, List.take_add_one, hz', List.flatMap_append]; simp, ?_⟩)
    rw [List.length_append]
    cases ss[i] <;> simp <;> omega
  · subst e1
    rw [e2, ← he, List.take_length]
    exact hd p hp
theorem Sub.name {r : St} {v : Option V} : Sub (none :: r) (v :: r) := by
  refine ⟨rfl, fun i w h => ?_⟩
  cases i with
  | zero => cases h
  | succ i => exact h
end L2
local macro_rules | `(tactic| walk_at "RD") => `(tactic| ((try dsimp only [L2.cxOf, L2.Cx.nox, L2.Cx.wish, L2.Cx.block]); (try simp only [L2.tVar_ap, L2.tC_ap, L2.tAdd_ap, L2.tSub_ap, L2.tMul_ap, L2.tCmp_ap, L2.tIsN_ap, L2.tNotN_ap, L2.tB_ap, L2.tAnd_ap, L2.tOr_ap, L2.tNot_ap, L2.tAndV_ap, L2.tOrV_ap, L2.tNotV_ap, L2.tIf_ap, L2.tNext_ap, L2.tSeq_ap, L2.tBreak_ap, L2.tCont_ap, L2.tDrop_ap, L2.tRet_ap, L2.tRetN_ap, L2.tNever_ap, L2.gName_ap, L2.gNil_ap, L2.gCons_ap, L2.gTup_ap, L2.gSub_ap, L2.tAsg_ap, L2.tPar_ap, L2.tAug_ap, L2.tAugS_ap, L2.iList_ap, L2.iTup_ap, L2.tOp_ap, L2.tUn_ap, L2.rI_ap, L2.rI0_ap, L2.rU_ap, L2.rEq_ap, L2.rNe_ap, L2.tTest_ap, L2.tChain_ap, L2.tCon_ap, L2.sFld_ap, L2.sFldAug_ap, L2.rAdd_ap, L2.rSub_ap, L2.tNil_ap, L2.tCons_ap, L2.tTup_ap, L2.tLst_ap, L2.tCall_ap, L2.tMeth_ap, L2.tMake_ap, L2.tCallK_ap, L2.tCB_ap, L2.tNoPart_ap, L2.tPart_ap, L2.tSl_ap, L2.rSlT_ap, L2.rLtT_ap, L2.rCatT_ap, L2.rIxL_ap, L2.rIxT_ap, L2.rIxS_ap, L2.rIx_ap, L2.rSetL_ap, L2.rSlL_ap, L2.rIn_ap, L2.tBM0_ap, L2.tBM_ap, L2.rAppend_ap, L2.rExtend_ap, L2.rPop_ap, L2.rPopAt_ap, L2.rReverse_ap, L2.rClear_ap, L2.rCat_ap, L2.rRep_ap, L2.tDGet_ap, L2.tDIn_ap, L2.tDNotIn_ap, L2.sDPut_ap, L2.sDAug_ap, L2.sDDel_ap, L2.tDNewK_ap, L2.tDNewT_ap, L2.tDisp_ap, L2.tDGet1_ap, L2.tDGet2_ap, L2.tDPop1_ap, L2.tDPop2_ap, L2.tTrue_ap, L2.iStr_ap, L2.rSlS_ap, L2.rJoin_ap, L2.rSplit_ap, L2.rIndexS_ap, L2.tMethV_ap, L2.tDGetK_ap, L2.iEnum_ap, L2.iZip_ap, L2.iRev_ap, L2.rInsert_ap, L2.rNeL_ap, L2.rEqL_ap, L2.tFor_ap, L2.tComp_ap, L2.iRng1_ap, L2.iRng2_ap, L2.tFld_ap, L2.start, L2.sel_map, List.map_cons, List.map_nil, Option.bind_none, Option.bind_some, Option.join_some, Option.join_none, List.length_cons, List.length_nil, Nat.reduceAdd, Nat.reduceSub, Nat.zero_add, List.replicate, List.cons_append, List.nil_append, List.append_nil, List.set_cons_zero, List.set_cons_succ, List.getElem?_cons_zero, List.getElem?_cons_succ, Option.some.injEq, L2.V.int.injEq, L2.V.bl.injEq, L2.V.str.injEq, L2.V.ref.injEq, L2.V.ty.injEq, exists_eq_left', exists_eq_left, exists_and_left, List.cons.injEq, and_true, true_and, and_assoc, Int.zero_add, reduceCtorEq, false_and, exists_false, and_false, ite_true, ite_false, if_true, if_false, Bool.false_eq_true, L2.scal, L2.tyV, false_or, or_false, Bool.not_true, Bool.not_false, decide_true, decide_false])))
namespace My
open PySem L2
def top (i : Nat) : Stmt := PySem.Challenge.pw_lampway_k11_in_order.main.body.getD i (.Pass ⟨0, 0, 0, 0⟩)
abbrev s_stretches : Stmt := top 2
theorem sc_stretches : FnScope ["colours", "found", "begin", "turn", "colour"] ["colours"] (defScope s_stretches) := ⟨rfl, rfl, rfl, by decide +kernel, rfl, by decide +kernel, by decide +kernel⟩
abbrev s_may_follow : Stmt := top 3
theorem sc_may_follow : FnScope ["way", "colour", "into_free"] ["way", "colour"] (defScope s_may_follow) := ⟨rfl, rfl, rfl, by decide +kernel, rfl, by decide +kernel, by decide +kernel⟩
abbrev s_follow_well : Stmt := top 4
theorem sc_follow_well : FnScope ["way", "found", "one", "second"] ["way", "found"] (defScope s_follow_well) := ⟨rfl, rfl, rfl, by decide +kernel, rfl, by decide +kernel, by decide +kernel⟩
abbrev s_last_well : Stmt := top 5
theorem sc_last_well : FnScope ["way", "colour", "turns", "is_whole"] ["way", "colour", "turns", "is_whole"] (defScope s_last_well) := ⟨rfl, rfl, rfl, by decide +kernel, rfl, by decide +kernel, by decide +kernel⟩
abbrev s_in_order : Stmt := top 6
theorem sc_in_order : FnScope ["way", "colours", "found", "place", "stretch", "is_whole"] ["way", "colours"] (defScope s_in_order) := ⟨rfl, rfl, rfl, by decide +kernel, rfl, by decide +kernel, by decide +kernel⟩
abbrev s__law_draw : Stmt := top 13
theorem sc__law_draw : FnScope ["_law_script", "_law_k", "_law_many", "_law_cell", "_law_seed"] ["_law_script", "_law_k", "_law_many"] (defScope s__law_draw) := ⟨rfl, rfl, rfl, by decide +kernel, rfl, by decide +kernel, by decide +kernel⟩
abbrev s__law_next : Stmt := top 14
theorem sc__law_next : FnScope ["_law_script", "_law_k", "_law_last", "_law_ready", "_law_fade", "_law_ahead"] ["_law_script", "_law_k", "_law_last", "_law_ready", "_law_fade"] (defScope s__law_next) := ⟨rfl, rfl, rfl, by decide +kernel, rfl, by decide +kernel, by decide +kernel⟩
abbrev s__law_parts : Stmt := top 15
theorem sc__law_parts : FnScope ["_law_script", "_law_ready", "_law_fade", "_law_least", "_law_parts_here", "_law_last", "_law_k", "_law_turns"] ["_law_script", "_law_ready", "_law_fade", "_law_least"] (defScope s__law_parts) := ⟨rfl, rfl, rfl, by decide +kernel, rfl, by decide +kernel, by decide +kernel⟩
abbrev s__law_spoiled : Stmt := top 16
theorem sc__law_spoiled : FnScope ["_law_script", "_law_parts_here", "_law_spoiled_here", "_law_at", "_law_way", "_law_other"] ["_law_script", "_law_parts_here"] (defScope s__law_spoiled) := ⟨rfl, rfl, rfl, by decide +kernel, rfl, by decide +kernel, by decide +kernel⟩
abbrev s__law_row : Stmt := top 17
theorem sc__law_row : FnScope ["_law_parts_here", "_law_row_here", "_law_part"] ["_law_parts_here"] (defScope s__law_row) := ⟨rfl, rfl, rfl, by decide +kernel, rfl, by decide +kernel, by decide +kernel⟩
abbrev s__law_starts : Stmt := top 18
theorem sc__law_starts : FnScope ["_law_row_here"] ["_law_row_here"] (defScope s__law_starts) := ⟨rfl, rfl, rfl, by decide +kernel, rfl, by decide +kernel, by decide +kernel⟩
abbrev s__law_follows : Stmt := top 19
theorem sc__law_follows : FnScope ["_law_one", "_law_shade", "_law_ready", "_law_fade", "_law_ahead"] ["_law_one", "_law_shade", "_law_ready", "_law_fade"] (defScope s__law_follows) := ⟨rfl, rfl, rfl, by decide +kernel, rfl, by decide +kernel, by decide +kernel⟩
abbrev s__law_due : Stmt := top 20
theorem sc__law_due : FnScope ["_law_row_here", "_law_ready", "_law_fade", "_law_least", "_law_starts_here", "_law_k", "_law_shade", "_law_turns", "_law_outer", "_law_whole"] ["_law_row_here", "_law_ready", "_law_fade", "_law_least"] (defScope s__law_due) := ⟨rfl, rfl, rfl, by decide +kernel, rfl, by decide +kernel, by decide +kernel⟩
abbrev s__law_good : Stmt := top 21
theorem sc__law_good : FnScope ["_law_way", "_law_parts_here", "_law_ready", "_law_fade", "_law_least", "_law_row_here", "_law_handed", "_law_found"] ["_law_way", "_law_parts_here", "_law_ready", "_law_fade", "_law_least"] (defScope s__law_good) := ⟨rfl, rfl, rfl, by decide +kernel, rfl, by decide +kernel, by decide +kernel⟩
abbrev s_law : Stmt := top 22
theorem sc_law : FnScope ["_law_script", "_law_sort", "_law_off", "_law_least", "_law_way", "_law_ready", "_law_fade", "_law_parts_here"] ["_law_script"] (defScope s_law) := ⟨rfl, rfl, rfl, by decide +kernel, rfl, by decide +kernel, by decide +kernel⟩
abbrev s_Way_init : Stmt := inClass (top 8) 0
theorem sc_Way___init__ : FnScope ["self", "kind", "name", "start", "end", "off", "near", "least"] ["self", "kind", "name", "start", "end", "off", "near", "least"] (defScope s_Way_init) := ⟨rfl, rfl, rfl, by decide +kernel, rfl, by decide +kernel, by decide +kernel⟩
abbrev s_CarWay_init : Stmt := inClass (top 9) 0
theorem sc_CarWay___init__ : FnScope ["self", "name", "start", "end", "off", "near", "least"] ["self", "name", "start", "end", "off", "near", "least"] (defScope s_CarWay_init) := ⟨rfl, rfl, rfl, by decide +kernel, rfl, by decide +kernel, by decide +kernel⟩
abbrev s_CarWay_ready : Stmt := inClass (top 9) 1
theorem sc_CarWay_ready : FnScope ["self"] ["self"] (defScope s_CarWay_ready) := ⟨rfl, rfl, rfl, by decide +kernel, rfl, by decide +kernel, by decide +kernel⟩
abbrev s_CarWay_fade : Stmt := inClass (top 9) 2
theorem sc_CarWay_fade : FnScope ["self"] ["self"] (defScope s_CarWay_fade) := ⟨rfl, rfl, rfl, by decide +kernel, rfl, by decide +kernel, by decide +kernel⟩
abbrev s_FootWay_init : Stmt := inClass (top 10) 0
theorem sc_FootWay___init__ : FnScope ["self", "name", "start", "end", "off", "near", "least"] ["self", "name", "start", "end", "off", "near", "least"] (defScope s_FootWay_init) := ⟨rfl, rfl, rfl, by decide +kernel, rfl, by decide +kernel, by decide +kernel⟩
abbrev s_FootWay_ready : Stmt := inClass (top 10) 1
theorem sc_FootWay_ready : FnScope ["self"] ["self"] (defScope s_FootWay_ready) := ⟨rfl, rfl, rfl, by decide +kernel, rfl, by decide +kernel, by decide +kernel⟩
abbrev s_FootWay_fade : Stmt := inClass (top 10) 2
theorem sc_FootWay_fade : FnScope ["self"] ["self"] (defScope s_FootWay_fade) := ⟨rfl, rfl, rfl, by decide +kernel, rfl, by decide +kernel, by decide +kernel⟩
abbrev s_TramWay_init : Stmt := inClass (top 11) 0
theorem sc_TramWay___init__ : FnScope ["self", "name", "start", "end", "off", "near", "least"] ["self", "name", "start", "end", "off", "near", "least"] (defScope s_TramWay_init) := ⟨rfl, rfl, rfl, by decide +kernel, rfl, by decide +kernel, by decide +kernel⟩
abbrev s_TramWay_ready : Stmt := inClass (top 11) 1
theorem sc_TramWay_ready : FnScope ["self"] ["self"] (defScope s_TramWay_ready) := ⟨rfl, rfl, rfl, by decide +kernel, rfl, by decide +kernel, by decide +kernel⟩
abbrev s_TramWay_fade : Stmt := inClass (top 11) 2
theorem sc_TramWay_fade : FnScope ["self"] ["self"] (defScope s_TramWay_fade) := ⟨rfl, rfl, rfl, by decide +kernel, rfl, by decide +kernel, by decide +kernel⟩
structure Adr where
  a_stretches : Addr
  d_stretches : FuncData
  a_may_follow : Addr
  d_may_follow : FuncData
  a_follow_well : Addr
  d_follow_well : FuncData
  a_last_well : Addr
  d_last_well : FuncData
  a_in_order : Addr
  d_in_order : FuncData
  a__law_draw : Addr
  d__law_draw : FuncData
  a__law_next : Addr
  d__law_next : FuncData
  a__law_parts : Addr
  d__law_parts : FuncData
  a__law_spoiled : Addr
  d__law_spoiled : FuncData
  a__law_row : Addr
  d__law_row : FuncData
  a__law_starts : Addr
  d__law_starts : FuncData
  a__law_follows : Addr
  d__law_follows : FuncData
  a__law_due : Addr
  d__law_due : FuncData
  a__law_good : Addr
  d__law_good : FuncData
  a_law : Addr
  d_law : FuncData
  a_Way_init : Addr
  d_Way_init : FuncData
  a_CarWay_init : Addr
  d_CarWay_init : FuncData
  a_CarWay_ready : Addr
  d_CarWay_ready : FuncData
  a_CarWay_fade : Addr
  d_CarWay_fade : FuncData
  a_FootWay_init : Addr
  d_FootWay_init : FuncData
  a_FootWay_ready : Addr
  d_FootWay_ready : FuncData
  a_FootWay_fade : Addr
  d_FootWay_fade : FuncData
  a_TramWay_init : Addr
  d_TramWay_init : FuncData
  a_TramWay_ready : Addr
  d_TramWay_ready : FuncData
  a_TramWay_fade : Addr
  d_TramWay_fade : FuncData
  c_Way : Addr
  c_CarWay : Addr
  c_FootWay : Addr
  c_TramWay : Addr
structure Txt (w : World) (K : PySem.W.Frag) (mg : Str → Option Value) (t : Adr) : Prop where
  F_stretches : Fun K "stretches" "stretches" s_stretches t.a_stretches t.d_stretches
  n_stretches : Binds K t.d_stretches ["colours"] []
  m_stretches : mg "stretches" = some (.ref t.a_stretches)
  k_stretches : PySem.W.keepIn K (.ref t.a_stretches) = true
  F_may_follow : Fun K "may_follow" "may_follow" s_may_follow t.a_may_follow t.d_may_follow
  n_may_follow : Binds K t.d_may_follow ["way", "colour"] []
  m_may_follow : mg "may_follow" = some (.ref t.a_may_follow)
  k_may_follow : PySem.W.keepIn K (.ref t.a_may_follow) = true
  F_follow_well : Fun K "follow_well" "follow_well" s_follow_well t.a_follow_well t.d_follow_well
  n_follow_well : Binds K t.d_follow_well ["way", "found"] []
  m_follow_well : mg "follow_well" = some (.ref t.a_follow_well)
  k_follow_well : PySem.W.keepIn K (.ref t.a_follow_well) = true
  F_last_well : Fun K "last_well" "last_well" s_last_well t.a_last_well t.d_last_well
  n_last_well : Binds K t.d_last_well ["way", "colour", "turns", "is_whole"] []
  m_last_well : mg "last_well" = some (.ref t.a_last_well)
  k_last_well : PySem.W.keepIn K (.ref t.a_last_well) = true
  F_in_order : Fun K "in_order" "in_order" s_in_order t.a_in_order t.d_in_order
  n_in_order : Binds K t.d_in_order ["way", "colours"] []
  m_in_order : mg "in_order" = some (.ref t.a_in_order)
  k_in_order : PySem.W.keepIn K (.ref t.a_in_order) = true
  F__law_draw : Fun K "_law_draw" "_law_draw" s__law_draw t.a__law_draw t.d__law_draw
  n__law_draw : Binds K t.d__law_draw ["_law_script", "_law_k", "_law_many"] []
  m__law_draw : mg "_law_draw" = some (.ref t.a__law_draw)
  k__law_draw : PySem.W.keepIn K (.ref t.a__law_draw) = true
  F__law_next : Fun K "_law_next" "_law_next" s__law_next t.a__law_next t.d__law_next
  n__law_next : Binds K t.d__law_next ["_law_script", "_law_k", "_law_last", "_law_ready", "_law_fade"] []
  m__law_next : mg "_law_next" = some (.ref t.a__law_next)
  k__law_next : PySem.W.keepIn K (.ref t.a__law_next) = true
  F__law_parts : Fun K "_law_parts" "_law_parts" s__law_parts t.a__law_parts t.d__law_parts
  n__law_parts : Binds K t.d__law_parts ["_law_script", "_law_ready", "_law_fade", "_law_least"] []
  m__law_parts : mg "_law_parts" = some (.ref t.a__law_parts)
  k__law_parts : PySem.W.keepIn K (.ref t.a__law_parts) = true
  F__law_spoiled : Fun K "_law_spoiled" "_law_spoiled" s__law_spoiled t.a__law_spoiled t.d__law_spoiled
  n__law_spoiled : Binds K t.d__law_spoiled ["_law_script", "_law_parts_here"] []
  m__law_spoiled : mg "_law_spoiled" = some (.ref t.a__law_spoiled)
  k__law_spoiled : PySem.W.keepIn K (.ref t.a__law_spoiled) = true
  F__law_row : Fun K "_law_row" "_law_row" s__law_row t.a__law_row t.d__law_row
  n__law_row : Binds K t.d__law_row ["_law_parts_here"] []
  m__law_row : mg "_law_row" = some (.ref t.a__law_row)
  k__law_row : PySem.W.keepIn K (.ref t.a__law_row) = true
  F__law_starts : Fun K "_law_starts" "_law_starts" s__law_starts t.a__law_starts t.d__law_starts
  n__law_starts : Binds K t.d__law_starts ["_law_row_here"] []
  m__law_starts : mg "_law_starts" = some (.ref t.a__law_starts)
  k__law_starts : PySem.W.keepIn K (.ref t.a__law_starts) = true
  F__law_follows : Fun K "_law_follows" "_law_follows" s__law_follows t.a__law_follows t.d__law_follows
  n__law_follows : Binds K t.d__law_follows ["_law_one", "_law_shade", "_law_ready", "_law_fade"] []
  m__law_follows : mg "_law_follows" = some (.ref t.a__law_follows)
  k__law_follows : PySem.W.keepIn K (.ref t.a__law_follows) = true
  F__law_due : Fun K "_law_due" "_law_due" s__law_due t.a__law_due t.d__law_due
  n__law_due : Binds K t.d__law_due ["_law_row_here", "_law_ready", "_law_fade", "_law_least"] []
  m__law_due : mg "_law_due" = some (.ref t.a__law_due)
  k__law_due : PySem.W.keepIn K (.ref t.a__law_due) = true
  F__law_good : Fun K "_law_good" "_law_good" s__law_good t.a__law_good t.d__law_good
  n__law_good : Binds K t.d__law_good ["_law_way", "_law_parts_here", "_law_ready", "_law_fade", "_law_least"] []
  m__law_good : mg "_law_good" = some (.ref t.a__law_good)
  k__law_good : PySem.W.keepIn K (.ref t.a__law_good) = true
  F_law : Fun K "law" "law" s_law t.a_law t.d_law
  n_law : Binds K t.d_law ["_law_script"] []
  m_law : mg "law" = some (.ref t.a_law)
  k_law : PySem.W.keepIn K (.ref t.a_law) = true
  F_Way_init : Fun K "__init__" "Way.__init__" s_Way_init t.a_Way_init t.d_Way_init
  n_Way_init : Binds K t.d_Way_init ["self", "kind", "name", "start", "end", "off", "near", "least"] []
  F_CarWay_init : Fun K "__init__" "CarWay.__init__" s_CarWay_init t.a_CarWay_init t.d_CarWay_init
  n_CarWay_init : Binds K t.d_CarWay_init ["self", "name", "start", "end", "off", "near", "least"] []
  F_CarWay_ready : Fun K "ready" "CarWay.ready" s_CarWay_ready t.a_CarWay_ready t.d_CarWay_ready
  n_CarWay_ready : Binds K t.d_CarWay_ready ["self"] []
  F_CarWay_fade : Fun K "fade" "CarWay.fade" s_CarWay_fade t.a_CarWay_fade t.d_CarWay_fade
  n_CarWay_fade : Binds K t.d_CarWay_fade ["self"] []
  F_FootWay_init : Fun K "__init__" "FootWay.__init__" s_FootWay_init t.a_FootWay_init t.d_FootWay_init
  n_FootWay_init : Binds K t.d_FootWay_init ["self", "name", "start", "end", "off", "near", "least"] []
  F_FootWay_ready : Fun K "ready" "FootWay.ready" s_FootWay_ready t.a_FootWay_ready t.d_FootWay_ready
  n_FootWay_ready : Binds K t.d_FootWay_ready ["self"] []
  F_FootWay_fade : Fun K "fade" "FootWay.fade" s_FootWay_fade t.a_FootWay_fade t.d_FootWay_fade
  n_FootWay_fade : Binds K t.d_FootWay_fade ["self"] []
  F_TramWay_init : Fun K "__init__" "TramWay.__init__" s_TramWay_init t.a_TramWay_init t.d_TramWay_init
  n_TramWay_init : Binds K t.d_TramWay_init ["self", "name", "start", "end", "off", "near", "least"] []
  F_TramWay_ready : Fun K "ready" "TramWay.ready" s_TramWay_ready t.a_TramWay_ready t.d_TramWay_ready
  n_TramWay_ready : Binds K t.d_TramWay_ready ["self"] []
  F_TramWay_fade : Fun K "fade" "TramWay.fade" s_TramWay_fade t.a_TramWay_fade t.d_TramWay_fade
  n_TramWay_fade : Binds K t.d_TramWay_fade ["self"] []
  m_Way : mg "Way" = some (.ref t.c_Way)
  cl_Way : Cls K t.c_Way
  nA_Way_kind : NoAttr K t.c_Way "kind"
  nA_Way_name : NoAttr K t.c_Way "name"
  nA_Way_start : NoAttr K t.c_Way "start"
  nA_Way_end : NoAttr K t.c_Way "end"
  nA_Way_off : NoAttr K t.c_Way "off"
  nA_Way_near : NoAttr K t.c_Way "near"
  nA_Way_least : NoAttr K t.c_Way "least"
  m_CarWay : mg "CarWay" = some (.ref t.c_CarWay)
  cl_CarWay : Cls K t.c_CarWay
  M_CarWay : Mk K t.c_CarWay t.a_CarWay_init
  M_CarWay_ready : Meth K t.c_CarWay "ready" t.a_CarWay_ready
  M_CarWay_fade : Meth K t.c_CarWay "fade" t.a_CarWay_fade
  nA_CarWay_kind : NoAttr K t.c_CarWay "kind"
  nA_CarWay_name : NoAttr K t.c_CarWay "name"
  nA_CarWay_start : NoAttr K t.c_CarWay "start"
  nA_CarWay_end : NoAttr K t.c_CarWay "end"
  nA_CarWay_off : NoAttr K t.c_CarWay "off"
  nA_CarWay_near : NoAttr K t.c_CarWay "near"
  nA_CarWay_least : NoAttr K t.c_CarWay "least"
  m_FootWay : mg "FootWay" = some (.ref t.c_FootWay)
  cl_FootWay : Cls K t.c_FootWay
  M_FootWay : Mk K t.c_FootWay t.a_FootWay_init
  M_FootWay_ready : Meth K t.c_FootWay "ready" t.a_FootWay_ready
  M_FootWay_fade : Meth K t.c_FootWay "fade" t.a_FootWay_fade
  nA_FootWay_kind : NoAttr K t.c_FootWay "kind"
  nA_FootWay_name : NoAttr K t.c_FootWay "name"
  nA_FootWay_start : NoAttr K t.c_FootWay "start"
  nA_FootWay_end : NoAttr K t.c_FootWay "end"
  nA_FootWay_off : NoAttr K t.c_FootWay "off"
  nA_FootWay_near : NoAttr K t.c_FootWay "near"
  nA_FootWay_least : NoAttr K t.c_FootWay "least"
  m_TramWay : mg "TramWay" = some (.ref t.c_TramWay)
  cl_TramWay : Cls K t.c_TramWay
  M_TramWay : Mk K t.c_TramWay t.a_TramWay_init
  M_TramWay_ready : Meth K t.c_TramWay "ready" t.a_TramWay_ready
  M_TramWay_fade : Meth K t.c_TramWay "fade" t.a_TramWay_fade
  nA_TramWay_kind : NoAttr K t.c_TramWay "kind"
  nA_TramWay_name : NoAttr K t.c_TramWay "name"
  nA_TramWay_start : NoAttr K t.c_TramWay "start"
  nA_TramWay_end : NoAttr K t.c_TramWay "end"
  nA_TramWay_off : NoAttr K t.c_TramWay "off"
  nA_TramWay_near : NoAttr K t.c_TramWay "near"
  nA_TramWay_least : NoAttr K t.c_TramWay "least"
  dC_Way_CarWay : t.c_Way ≠ t.c_CarWay
  dC_Way_FootWay : t.c_Way ≠ t.c_FootWay
  dC_Way_TramWay : t.c_Way ≠ t.c_TramWay
  dC_CarWay_FootWay : t.c_CarWay ≠ t.c_FootWay
  dC_CarWay_TramWay : t.c_CarWay ≠ t.c_TramWay
  dC_FootWay_TramWay : t.c_FootWay ≠ t.c_TramWay
  C_Way_init : ClsM K t.c_Way "__init__" t.a_Way_init
  b_bool : mg "bool" = none
  b_enumerate : mg "enumerate" = none
  b_isinstance : mg "isinstance" = none
  b_len : mg "len" = none
  b_list : mg "list" = none
  b_range : mg "range" = none
  b_zip : mg "zip" = none
  bl_law : ∀ (s : Shared) (u : Value), BindsTo s t.d_law ⟨[u], []⟩ [("_law_script", u)]
theorem txt_mk {w : World} {K : PySem.W.Frag} {h : Heap} {mg : Str → Option Value} (X : K.In h) (G : h.Ns mainGlobals mg)
    {f_stretches : Addr} {oc_stretches kV_stretches dc_stretches pm_stretches cd_stretches ct_stretches : Value} {od_stretches an_stretches : Option Addr} {sl_stretches : Array (Option Value)}
    {f_may_follow : Addr} {oc_may_follow kV_may_follow dc_may_follow pm_may_follow cd_may_follow ct_may_follow : Value} {od_may_follow an_may_follow : Option Addr} {sl_may_follow : Array (Option Value)}
    {f_follow_well : Addr} {oc_follow_well kV_follow_well dc_follow_well pm_follow_well cd_follow_well ct_follow_well : Value} {od_follow_well an_follow_well : Option Addr} {sl_follow_well : Array (Option Value)}
    {f_last_well : Addr} {oc_last_well kV_last_well dc_last_well pm_last_well cd_last_well ct_last_well : Value} {od_last_well an_last_well : Option Addr} {sl_last_well : Array (Option Value)}
    {f_in_order : Addr} {oc_in_order kV_in_order dc_in_order pm_in_order cd_in_order ct_in_order : Value} {od_in_order an_in_order : Option Addr} {sl_in_order : Array (Option Value)}
    {f__law_draw : Addr} {oc__law_draw kV__law_draw dc__law_draw pm__law_draw cd__law_draw ct__law_draw : Value} {od__law_draw an__law_draw : Option Addr} {sl__law_draw : Array (Option Value)}
    {f__law_next : Addr} {oc__law_next kV__law_next dc__law_next pm__law_next cd__law_next ct__law_next : Value} {od__law_next an__law_next : Option Addr} {sl__law_next : Array (Option Value)}
    {f__law_parts : Addr} {oc__law_parts kV__law_parts dc__law_parts pm__law_parts cd__law_parts ct__law_parts : Value} {od__law_parts an__law_parts : Option Addr} {sl__law_parts : Array (Option Value)}
    {f__law_spoiled : Addr} {oc__law_spoiled kV__law_spoiled dc__law_spoiled pm__law_spoiled cd__law_spoiled ct__law_spoiled : Value} {od__law_spoiled an__law_spoiled : Option Addr} {sl__law_spoiled : Array (Option Value)}
    {f__law_row : Addr} {oc__law_row kV__law_row dc__law_row pm__law_row cd__law_row ct__law_row : Value} {od__law_row an__law_row : Option Addr} {sl__law_row : Array (Option Value)}
    {f__law_starts : Addr} {oc__law_starts kV__law_starts dc__law_starts pm__law_starts cd__law_starts ct__law_starts : Value} {od__law_starts an__law_starts : Option Addr} {sl__law_starts : Array (Option Value)}
    {f__law_follows : Addr} {oc__law_follows kV__law_follows dc__law_follows pm__law_follows cd__law_follows ct__law_follows : Value} {od__law_follows an__law_follows : Option Addr} {sl__law_follows : Array (Option Value)}
    {f__law_due : Addr} {oc__law_due kV__law_due dc__law_due pm__law_due cd__law_due ct__law_due : Value} {od__law_due an__law_due : Option Addr} {sl__law_due : Array (Option Value)}
    {f__law_good : Addr} {oc__law_good kV__law_good dc__law_good pm__law_good cd__law_good ct__law_good : Value} {od__law_good an__law_good : Option Addr} {sl__law_good : Array (Option Value)}
    {f_law : Addr} {oc_law kV_law dc_law pm_law cd_law ct_law : Value} {od_law an_law : Option Addr} {sl_law : Array (Option Value)}
    {f_Way_init : Addr} {oc_Way_init kV_Way_init dc_Way_init pm_Way_init cd_Way_init ct_Way_init : Value} {od_Way_init an_Way_init : Option Addr} {sl_Way_init : Array (Option Value)}
    {f_CarWay_init : Addr} {oc_CarWay_init kV_CarWay_init dc_CarWay_init pm_CarWay_init cd_CarWay_init ct_CarWay_init : Value} {od_CarWay_init an_CarWay_init : Option Addr} {sl_CarWay_init : Array (Option Value)}
    {f_CarWay_ready : Addr} {oc_CarWay_ready kV_CarWay_ready dc_CarWay_ready pm_CarWay_ready cd_CarWay_ready ct_CarWay_ready : Value} {od_CarWay_ready an_CarWay_ready : Option Addr} {sl_CarWay_ready : Array (Option Value)}
    {f_CarWay_fade : Addr} {oc_CarWay_fade kV_CarWay_fade dc_CarWay_fade pm_CarWay_fade cd_CarWay_fade ct_CarWay_fade : Value} {od_CarWay_fade an_CarWay_fade : Option Addr} {sl_CarWay_fade : Array (Option Value)}
    {f_FootWay_init : Addr} {oc_FootWay_init kV_FootWay_init dc_FootWay_init pm_FootWay_init cd_FootWay_init ct_FootWay_init : Value} {od_FootWay_init an_FootWay_init : Option Addr} {sl_FootWay_init : Array (Option Value)}
    {f_FootWay_ready : Addr} {oc_FootWay_ready kV_FootWay_ready dc_FootWay_ready pm_FootWay_ready cd_FootWay_ready ct_FootWay_ready : Value} {od_FootWay_ready an_FootWay_ready : Option Addr} {sl_FootWay_ready : Array (Option Value)}
    {f_FootWay_fade : Addr} {oc_FootWay_fade kV_FootWay_fade dc_FootWay_fade pm_FootWay_fade cd_FootWay_fade ct_FootWay_fade : Value} {od_FootWay_fade an_FootWay_fade : Option Addr} {sl_FootWay_fade : Array (Option Value)}
    {f_TramWay_init : Addr} {oc_TramWay_init kV_TramWay_init dc_TramWay_init pm_TramWay_init cd_TramWay_init ct_TramWay_init : Value} {od_TramWay_init an_TramWay_init : Option Addr} {sl_TramWay_init : Array (Option Value)}
    {f_TramWay_ready : Addr} {oc_TramWay_ready kV_TramWay_ready dc_TramWay_ready pm_TramWay_ready cd_TramWay_ready ct_TramWay_ready : Value} {od_TramWay_ready an_TramWay_ready : Option Addr} {sl_TramWay_ready : Array (Option Value)}
    {f_TramWay_fade : Addr} {oc_TramWay_fade kV_TramWay_fade dc_TramWay_fade pm_TramWay_fade cd_TramWay_fade ct_TramWay_fade : Value} {od_TramWay_fade an_TramWay_fade : Option Addr} {sl_TramWay_fade : Array (Option Value)}
    {c_Way : Addr}
    {c_CarWay : Addr}
    {c_FootWay : Addr}
    {c_TramWay : Addr}
    (e1_stretches : PySem.W.nsIn K mainGlobals "stretches" = some (some (.ref f_stretches)))
    (e2_stretches : K.lookup f_stretches = some ⟨oc_stretches, od_stretches, .func (PySem.W.fnOf "stretches" "stretches" (defArgs s_stretches) (defBody s_stretches) (defScope s_stretches) .none kV_stretches dc_stretches pm_stretches an_stretches cd_stretches ct_stretches), sl_stretches⟩)
    (e3_stretches : PySem.W.codeIn K cd_stretches "stretches" = true)
    (e4_stretches : PySem.W.keepIn K (.ref f_stretches) = true)
    (e1_may_follow : PySem.W.nsIn K mainGlobals "may_follow" = some (some (.ref f_may_follow)))
    (e2_may_follow : K.lookup f_may_follow = some ⟨oc_may_follow, od_may_follow, .func (PySem.W.fnOf "may_follow" "may_follow" (defArgs s_may_follow) (defBody s_may_follow) (defScope s_may_follow) .none kV_may_follow dc_may_follow pm_may_follow an_may_follow cd_may_follow ct_may_follow), sl_may_follow⟩)
    (e3_may_follow : PySem.W.codeIn K cd_may_follow "may_follow" = true)
    (e4_may_follow : PySem.W.keepIn K (.ref f_may_follow) = true)
    (e1_follow_well : PySem.W.nsIn K mainGlobals "follow_well" = some (some (.ref f_follow_well)))
    (e2_follow_well : K.lookup f_follow_well = some ⟨oc_follow_well, od_follow_well, .func (PySem.W.fnOf "follow_well" "follow_well" (defArgs s_follow_well) (defBody s_follow_well) (defScope s_follow_well) .none kV_follow_well dc_follow_well pm_follow_well an_follow_well cd_follow_well ct_follow_well), sl_follow_well⟩)
    (e3_follow_well : PySem.W.codeIn K cd_follow_well "follow_well" = true)
    (e4_follow_well : PySem.W.keepIn K (.ref f_follow_well) = true)
    (e1_last_well : PySem.W.nsIn K mainGlobals "last_well" = some (some (.ref f_last_well)))
    (e2_last_well : K.lookup f_last_well = some ⟨oc_last_well, od_last_well, .func (PySem.W.fnOf "last_well" "last_well" (defArgs s_last_well) (defBody s_last_well) (defScope s_last_well) .none kV_last_well dc_last_well pm_last_well an_last_well cd_last_well ct_last_well), sl_last_well⟩)
    (e3_last_well : PySem.W.codeIn K cd_last_well "last_well" = true)
    (e4_last_well : PySem.W.keepIn K (.ref f_last_well) = true)
    (e1_in_order : PySem.W.nsIn K mainGlobals "in_order" = some (some (.ref f_in_order)))
    (e2_in_order : K.lookup f_in_order = some ⟨oc_in_order, od_in_order, .func (PySem.W.fnOf "in_order" "in_order" (defArgs s_in_order) (defBody s_in_order) (defScope s_in_order) .none kV_in_order dc_in_order pm_in_order an_in_order cd_in_order ct_in_order), sl_in_order⟩)
    (e3_in_order : PySem.W.codeIn K cd_in_order "in_order" = true)
    (e4_in_order : PySem.W.keepIn K (.ref f_in_order) = true)
    (e1__law_draw : PySem.W.nsIn K mainGlobals "_law_draw" = some (some (.ref f__law_draw)))
    (e2__law_draw : K.lookup f__law_draw = some ⟨oc__law_draw, od__law_draw, .func (PySem.W.fnOf "_law_draw" "_law_draw" (defArgs s__law_draw) (defBody s__law_draw) (defScope s__law_draw) .none kV__law_draw dc__law_draw pm__law_draw an__law_draw cd__law_draw ct__law_draw), sl__law_draw⟩)
    (e3__law_draw : PySem.W.codeIn K cd__law_draw "_law_draw" = true)
    (e4__law_draw : PySem.W.keepIn K (.ref f__law_draw) = true)
    (e1__law_next : PySem.W.nsIn K mainGlobals "_law_next" = some (some (.ref f__law_next)))
    (e2__law_next : K.lookup f__law_next = some ⟨oc__law_next, od__law_next, .func (PySem.W.fnOf "_law_next" "_law_next" (defArgs s__law_next) (defBody s__law_next) (defScope s__law_next) .none kV__law_next dc__law_next pm__law_next an__law_next cd__law_next ct__law_next), sl__law_next⟩)
    (e3__law_next : PySem.W.codeIn K cd__law_next "_law_next" = true)
    (e4__law_next : PySem.W.keepIn K (.ref f__law_next) = true)
    (e1__law_parts : PySem.W.nsIn K mainGlobals "_law_parts" = some (some (.ref f__law_parts)))
    (e2__law_parts : K.lookup f__law_parts = some ⟨oc__law_parts, od__law_parts, .func (PySem.W.fnOf "_law_parts" "_law_parts" (defArgs s__law_parts) (defBody s__law_parts) (defScope s__law_parts) .none kV__law_parts dc__law_parts pm__law_parts an__law_parts cd__law_parts ct__law_parts), sl__law_parts⟩)
    (e3__law_parts : PySem.W.codeIn K cd__law_parts "_law_parts" = true)
    (e4__law_parts : PySem.W.keepIn K (.ref f__law_parts) = true)
    (e1__law_spoiled : PySem.W.nsIn K mainGlobals "_law_spoiled" = some (some (.ref f__law_spoiled)))
    (e2__law_spoiled : K.lookup f__law_spoiled = some ⟨oc__law_spoiled, od__law_spoiled, .func (PySem.W.fnOf "_law_spoiled" "_law_spoiled" (defArgs s__law_spoiled) (defBody s__law_spoiled) (defScope s__law_spoiled) .none kV__law_spoiled dc__law_spoiled pm__law_spoiled an__law_spoiled cd__law_spoiled ct__law_spoiled), sl__law_spoiled⟩)
    (e3__law_spoiled : PySem.W.codeIn K cd__law_spoiled "_law_spoiled" = true)
    (e4__law_spoiled : PySem.W.keepIn K (.ref f__law_spoiled) = true)
    (e1__law_row : PySem.W.nsIn K mainGlobals "_law_row" = some (some (.ref f__law_row)))
    (e2__law_row : K.lookup f__law_row = some ⟨oc__law_row, od__law_row, .func (PySem.W.fnOf "_law_row" "_law_row" (defArgs s__law_row) (defBody s__law_row) (defScope s__law_row) .none kV__law_row dc__law_row pm__law_row an__law_row cd__law_row ct__law_row), sl__law_row⟩)
    (e3__law_row : PySem.W.codeIn K cd__law_row "_law_row" = true)
    (e4__law_row : PySem.W.keepIn K (.ref f__law_row) = true)
    (e1__law_starts : PySem.W.nsIn K mainGlobals "_law_starts" = some (some (.ref f__law_starts)))
    (e2__law_starts : K.lookup f__law_starts = some ⟨oc__law_starts, od__law_starts, .func (PySem.W.fnOf "_law_starts" "_law_starts" (defArgs s__law_starts) (defBody s__law_starts) (defScope s__law_starts) .none kV__law_starts dc__law_starts pm__law_starts an__law_starts cd__law_starts ct__law_starts), sl__law_starts⟩)
    (e3__law_starts : PySem.W.codeIn K cd__law_starts "_law_starts" = true)
    (e4__law_starts : PySem.W.keepIn K (.ref f__law_starts) = true)
    (e1__law_follows : PySem.W.nsIn K mainGlobals "_law_follows" = some (some (.ref f__law_follows)))
    (e2__law_follows : K.lookup f__law_follows = some ⟨oc__law_follows, od__law_follows, .func (PySem.W.fnOf "_law_follows" "_law_follows" (defArgs s__law_follows) (defBody s__law_follows) (defScope s__law_follows) .none kV__law_follows dc__law_follows pm__law_follows an__law_follows cd__law_follows ct__law_follows), sl__law_follows⟩)
    (e3__law_follows : PySem.W.codeIn K cd__law_follows "_law_follows" = true)
    (e4__law_follows : PySem.W.keepIn K (.ref f__law_follows) = true)
    (e1__law_due : PySem.W.nsIn K mainGlobals "_law_due" = some (some (.ref f__law_due)))
    (e2__law_due : K.lookup f__law_due = some ⟨oc__law_due, od__law_due, .func (PySem.W.fnOf "_law_due" "_law_due" (defArgs s__law_due) (defBody s__law_due) (defScope s__law_due) .none kV__law_due dc__law_due pm__law_due an__law_due cd__law_due ct__law_due), sl__law_due⟩)
    (e3__law_due : PySem.W.codeIn K cd__law_due "_law_due" = true)
    (e4__law_due : PySem.W.keepIn K (.ref f__law_due) = true)
    (e1__law_good : PySem.W.nsIn K mainGlobals "_law_good" = some (some (.ref f__law_good)))
    (e2__law_good : K.lookup f__law_good = some ⟨oc__law_good, od__law_good, .func (PySem.W.fnOf "_law_good" "_law_good" (defArgs s__law_good) (defBody s__law_good) (defScope s__law_good) .none kV__law_good dc__law_good pm__law_good an__law_good cd__law_good ct__law_good), sl__law_good⟩)
    (e3__law_good : PySem.W.codeIn K cd__law_good "_law_good" = true)
    (e4__law_good : PySem.W.keepIn K (.ref f__law_good) = true)
    (e1_law : PySem.W.nsIn K mainGlobals "law" = some (some (.ref f_law)))
    (e2_law : K.lookup f_law = some ⟨oc_law, od_law, .func (PySem.W.fnOf "law" "law" (defArgs s_law) (defBody s_law) (defScope s_law) .none kV_law dc_law pm_law an_law cd_law ct_law), sl_law⟩)
    (e3_law : PySem.W.codeIn K cd_law "law" = true)
    (e4_law : PySem.W.keepIn K (.ref f_law) = true)
    (eC_Way : PySem.W.nsIn K mainGlobals "Way" = some (some (.ref c_Way)))
    (e1_Way_init : PySem.W.findIn K (.ref c_Way) "__init__" = some (some (.ref f_Way_init)))
    (e2_Way_init : K.lookup f_Way_init = some ⟨oc_Way_init, od_Way_init, .func (PySem.W.fnOf "__init__" "Way.__init__" (defArgs s_Way_init) (defBody s_Way_init) (defScope s_Way_init) .none kV_Way_init dc_Way_init pm_Way_init an_Way_init cd_Way_init ct_Way_init), sl_Way_init⟩)
    (e3_Way_init : PySem.W.codeIn K cd_Way_init "Way.__init__" = true)
    (e4_Way_init : PySem.W.keepIn K (.ref f_Way_init) = true)
    (i_Way_init : PySem.W.isFn K (.ref f_Way_init) = true)
    (eC_CarWay : PySem.W.nsIn K mainGlobals "CarWay" = some (some (.ref c_CarWay)))
    (e1_CarWay_init : PySem.W.findIn K (.ref c_CarWay) "__init__" = some (some (.ref f_CarWay_init)))
    (e2_CarWay_init : K.lookup f_CarWay_init = some ⟨oc_CarWay_init, od_CarWay_init, .func (PySem.W.fnOf "__init__" "CarWay.__init__" (defArgs s_CarWay_init) (defBody s_CarWay_init) (defScope s_CarWay_init) .none kV_CarWay_init dc_CarWay_init pm_CarWay_init an_CarWay_init cd_CarWay_init ct_CarWay_init), sl_CarWay_init⟩)
    (e3_CarWay_init : PySem.W.codeIn K cd_CarWay_init "CarWay.__init__" = true)
    (e4_CarWay_init : PySem.W.keepIn K (.ref f_CarWay_init) = true)
    (i_CarWay_init : PySem.W.isFn K (.ref f_CarWay_init) = true)
    (e1_CarWay_ready : PySem.W.findIn K (.ref c_CarWay) "ready" = some (some (.ref f_CarWay_ready)))
    (e2_CarWay_ready : K.lookup f_CarWay_ready = some ⟨oc_CarWay_ready, od_CarWay_ready, .func (PySem.W.fnOf "ready" "CarWay.ready" (defArgs s_CarWay_ready) (defBody s_CarWay_ready) (defScope s_CarWay_ready) .none kV_CarWay_ready dc_CarWay_ready pm_CarWay_ready an_CarWay_ready cd_CarWay_ready ct_CarWay_ready), sl_CarWay_ready⟩)
    (e3_CarWay_ready : PySem.W.codeIn K cd_CarWay_ready "CarWay.ready" = true)
    (e4_CarWay_ready : PySem.W.keepIn K (.ref f_CarWay_ready) = true)
    (i_CarWay_ready : PySem.W.isFn K (.ref f_CarWay_ready) = true)
    (e1_CarWay_fade : PySem.W.findIn K (.ref c_CarWay) "fade" = some (some (.ref f_CarWay_fade)))
    (e2_CarWay_fade : K.lookup f_CarWay_fade = some ⟨oc_CarWay_fade, od_CarWay_fade, .func (PySem.W.fnOf "fade" "CarWay.fade" (defArgs s_CarWay_fade) (defBody s_CarWay_fade) (defScope s_CarWay_fade) .none kV_CarWay_fade dc_CarWay_fade pm_CarWay_fade an_CarWay_fade cd_CarWay_fade ct_CarWay_fade), sl_CarWay_fade⟩)
    (e3_CarWay_fade : PySem.W.codeIn K cd_CarWay_fade "CarWay.fade" = true)
    (e4_CarWay_fade : PySem.W.keepIn K (.ref f_CarWay_fade) = true)
    (i_CarWay_fade : PySem.W.isFn K (.ref f_CarWay_fade) = true)
    (eC_FootWay : PySem.W.nsIn K mainGlobals "FootWay" = some (some (.ref c_FootWay)))
    (e1_FootWay_init : PySem.W.findIn K (.ref c_FootWay) "__init__" = some (some (.ref f_FootWay_init)))
    (e2_FootWay_init : K.lookup f_FootWay_init = some ⟨oc_FootWay_init, od_FootWay_init, .func (PySem.W.fnOf "__init__" "FootWay.__init__" (defArgs s_FootWay_init) (defBody s_FootWay_init) (defScope s_FootWay_init) .none kV_FootWay_init dc_FootWay_init pm_FootWay_init an_FootWay_init cd_FootWay_init ct_FootWay_init), sl_FootWay_init⟩)
    (e3_FootWay_init : PySem.W.codeIn K cd_FootWay_init "FootWay.__init__" = true)
    (e4_FootWay_init : PySem.W.keepIn K (.ref f_FootWay_init) = true)
    (i_FootWay_init : PySem.W.isFn K (.ref f_FootWay_init) = true)
    (e1_FootWay_ready : PySem.W.findIn K (.ref c_FootWay) "ready" = some (some (.ref f_FootWay_ready)))
    (e2_FootWay_ready : K.lookup f_FootWay_ready = some ⟨oc_FootWay_ready, od_FootWay_ready, .func (PySem.W.fnOf "ready" "FootWay.ready" (defArgs s_FootWay_ready) (defBody s_FootWay_ready) (defScope s_FootWay_ready) .none kV_FootWay_ready dc_FootWay_ready pm_FootWay_ready an_FootWay_ready cd_FootWay_ready ct_FootWay_ready), sl_FootWay_ready⟩)
    (e3_FootWay_ready : PySem.W.codeIn K cd_FootWay_ready "FootWay.ready" = true)
    (e4_FootWay_ready : PySem.W.keepIn K (.ref f_FootWay_ready) = true)
    (i_FootWay_ready : PySem.W.isFn K (.ref f_FootWay_ready) = true)
    (e1_FootWay_fade : PySem.W.findIn K (.ref c_FootWay) "fade" = some (some (.ref f_FootWay_fade)))
    (e2_FootWay_fade : K.lookup f_FootWay_fade = some ⟨oc_FootWay_fade, od_FootWay_fade, .func (PySem.W.fnOf "fade" "FootWay.fade" (defArgs s_FootWay_fade) (defBody s_FootWay_fade) (defScope s_FootWay_fade) .none kV_FootWay_fade dc_FootWay_fade pm_FootWay_fade an_FootWay_fade cd_FootWay_fade ct_FootWay_fade), sl_FootWay_fade⟩)
    (e3_FootWay_fade : PySem.W.codeIn K cd_FootWay_fade "FootWay.fade" = true)
    (e4_FootWay_fade : PySem.W.keepIn K (.ref f_FootWay_fade) = true)
    (i_FootWay_fade : PySem.W.isFn K (.ref f_FootWay_fade) = true)
    (eC_TramWay : PySem.W.nsIn K mainGlobals "TramWay" = some (some (.ref c_TramWay)))
    (e1_TramWay_init : PySem.W.findIn K (.ref c_TramWay) "__init__" = some (some (.ref f_TramWay_init)))
    (e2_TramWay_init : K.lookup f_TramWay_init = some ⟨oc_TramWay_init, od_TramWay_init, .func (PySem.W.fnOf "__init__" "TramWay.__init__" (defArgs s_TramWay_init) (defBody s_TramWay_init) (defScope s_TramWay_init) .none kV_TramWay_init dc_TramWay_init pm_TramWay_init an_TramWay_init cd_TramWay_init ct_TramWay_init), sl_TramWay_init⟩)
    (e3_TramWay_init : PySem.W.codeIn K cd_TramWay_init "TramWay.__init__" = true)
    (e4_TramWay_init : PySem.W.keepIn K (.ref f_TramWay_init) = true)
    (i_TramWay_init : PySem.W.isFn K (.ref f_TramWay_init) = true)
    (e1_TramWay_ready : PySem.W.findIn K (.ref c_TramWay) "ready" = some (some (.ref f_TramWay_ready)))
    (e2_TramWay_ready : K.lookup f_TramWay_ready = some ⟨oc_TramWay_ready, od_TramWay_ready, .func (PySem.W.fnOf "ready" "TramWay.ready" (defArgs s_TramWay_ready) (defBody s_TramWay_ready) (defScope s_TramWay_ready) .none kV_TramWay_ready dc_TramWay_ready pm_TramWay_ready an_TramWay_ready cd_TramWay_ready ct_TramWay_ready), sl_TramWay_ready⟩)
    (e3_TramWay_ready : PySem.W.codeIn K cd_TramWay_ready "TramWay.ready" = true)
    (e4_TramWay_ready : PySem.W.keepIn K (.ref f_TramWay_ready) = true)
    (i_TramWay_ready : PySem.W.isFn K (.ref f_TramWay_ready) = true)
    (e1_TramWay_fade : PySem.W.findIn K (.ref c_TramWay) "fade" = some (some (.ref f_TramWay_fade)))
    (e2_TramWay_fade : K.lookup f_TramWay_fade = some ⟨oc_TramWay_fade, od_TramWay_fade, .func (PySem.W.fnOf "fade" "TramWay.fade" (defArgs s_TramWay_fade) (defBody s_TramWay_fade) (defScope s_TramWay_fade) .none kV_TramWay_fade dc_TramWay_fade pm_TramWay_fade an_TramWay_fade cd_TramWay_fade ct_TramWay_fade), sl_TramWay_fade⟩)
    (e3_TramWay_fade : PySem.W.codeIn K cd_TramWay_fade "TramWay.fade" = true)
    (e4_TramWay_fade : PySem.W.keepIn K (.ref f_TramWay_fade) = true)
    (i_TramWay_fade : PySem.W.isFn K (.ref f_TramWay_fade) = true)
    (pg_Way : PySem.W.plainGet K c_Way Str.empty = true)
    (hd_Way : PySem.W.hasDictIn K c_Way = true)
    (po_Way : PySem.W.plainOver K c_Way = true)
    (sa_Way : PySem.W.findIn K (.ref c_Way) "__setattr__" = some (some (.builtin "object.__setattr__")))
    (nA_Way_kind : PySem.W.findIn K (.ref c_Way) "kind" = some none)
    (nA_Way_name : PySem.W.findIn K (.ref c_Way) "name" = some none)
    (nA_Way_start : PySem.W.findIn K (.ref c_Way) "start" = some none)
    (nA_Way_end : PySem.W.findIn K (.ref c_Way) "end" = some none)
    (nA_Way_off : PySem.W.findIn K (.ref c_Way) "off" = some none)
    (nA_Way_near : PySem.W.findIn K (.ref c_Way) "near" = some none)
    (nA_Way_least : PySem.W.findIn K (.ref c_Way) "least" = some none)
    (pg_CarWay : PySem.W.plainGet K c_CarWay Str.empty = true)
    (hd_CarWay : PySem.W.hasDictIn K c_CarWay = true)
    (po_CarWay : PySem.W.plainOver K c_CarWay = true)
    (sa_CarWay : PySem.W.findIn K (.ref c_CarWay) "__setattr__" = some (some (.builtin "object.__setattr__")))
    (mk_CarWay : PySem.W.makesIn K c_CarWay = true)
    (kc_CarWay : PySem.W.keepIn K (.ref c_CarWay) = true)
    (nA_CarWay_kind : PySem.W.findIn K (.ref c_CarWay) "kind" = some none)
    (nA_CarWay_name : PySem.W.findIn K (.ref c_CarWay) "name" = some none)
    (nA_CarWay_start : PySem.W.findIn K (.ref c_CarWay) "start" = some none)
    (nA_CarWay_end : PySem.W.findIn K (.ref c_CarWay) "end" = some none)
    (nA_CarWay_off : PySem.W.findIn K (.ref c_CarWay) "off" = some none)
    (nA_CarWay_near : PySem.W.findIn K (.ref c_CarWay) "near" = some none)
    (nA_CarWay_least : PySem.W.findIn K (.ref c_CarWay) "least" = some none)
    (pg_FootWay : PySem.W.plainGet K c_FootWay Str.empty = true)
    (hd_FootWay : PySem.W.hasDictIn K c_FootWay = true)
    (po_FootWay : PySem.W.plainOver K c_FootWay = true)
    (sa_FootWay : PySem.W.findIn K (.ref c_FootWay) "__setattr__" = some (some (.builtin "object.__setattr__")))
    (mk_FootWay : PySem.W.makesIn K c_FootWay = true)
    (kc_FootWay : PySem.W.keepIn K (.ref c_FootWay) = true)
    (nA_FootWay_kind : PySem.W.findIn K (.ref c_FootWay) "kind" = some none)
    (nA_FootWay_name : PySem.W.findIn K (.ref c_FootWay) "name" = some none)
    (nA_FootWay_start : PySem.W.findIn K (.ref c_FootWay) "start" = some none)
    (nA_FootWay_end : PySem.W.findIn K (.ref c_FootWay) "end" = some none)
    (nA_FootWay_off : PySem.W.findIn K (.ref c_FootWay) "off" = some none)
    (nA_FootWay_near : PySem.W.findIn K (.ref c_FootWay) "near" = some none)
    (nA_FootWay_least : PySem.W.findIn K (.ref c_FootWay) "least" = some none)
    (pg_TramWay : PySem.W.plainGet K c_TramWay Str.empty = true)
    (hd_TramWay : PySem.W.hasDictIn K c_TramWay = true)
    (po_TramWay : PySem.W.plainOver K c_TramWay = true)
    (sa_TramWay : PySem.W.findIn K (.ref c_TramWay) "__setattr__" = some (some (.builtin "object.__setattr__")))
    (mk_TramWay : PySem.W.makesIn K c_TramWay = true)
    (kc_TramWay : PySem.W.keepIn K (.ref c_TramWay) = true)
    (nA_TramWay_kind : PySem.W.findIn K (.ref c_TramWay) "kind" = some none)
    (nA_TramWay_name : PySem.W.findIn K (.ref c_TramWay) "name" = some none)
    (nA_TramWay_start : PySem.W.findIn K (.ref c_TramWay) "start" = some none)
    (nA_TramWay_end : PySem.W.findIn K (.ref c_TramWay) "end" = some none)
    (nA_TramWay_off : PySem.W.findIn K (.ref c_TramWay) "off" = some none)
    (nA_TramWay_near : PySem.W.findIn K (.ref c_TramWay) "near" = some none)
    (nA_TramWay_least : PySem.W.findIn K (.ref c_TramWay) "least" = some none)
    (dC_Way_CarWay : c_Way ≠ c_CarWay)
    (dC_Way_FootWay : c_Way ≠ c_FootWay)
    (dC_Way_TramWay : c_Way ≠ c_TramWay)
    (dC_CarWay_FootWay : c_CarWay ≠ c_FootWay)
    (dC_CarWay_TramWay : c_CarWay ≠ c_TramWay)
    (dC_FootWay_TramWay : c_FootWay ≠ c_TramWay)
    (cr_Way_init : PySem.W.readsIn K c_Way (.type "type") = true)
    (cf_Way_init : PySem.W.findCls K (.ref c_Way) (.type "type") "__init__" = some (.val (.ref f_Way_init)))
    (cg_Way_init : PySem.W.specialIn K (.ref c_Way) "__getattribute__" = some (some (.builtin "type.__getattribute__")))
    (b_bool : PySem.W.nsIn K mainGlobals "bool" = some none)
    (b_enumerate : PySem.W.nsIn K mainGlobals "enumerate" = some none)
    (b_isinstance : PySem.W.nsIn K mainGlobals "isinstance" = some none)
    (b_len : PySem.W.nsIn K mainGlobals "len" = some none)
    (b_list : PySem.W.nsIn K mainGlobals "list" = some none)
    (b_range : PySem.W.nsIn K mainGlobals "range" = some none)
    (b_zip : PySem.W.nsIn K mainGlobals "zip" = some none) : ∃ t, Txt w K mg t := by
  refine ⟨⟨f_stretches, PySem.W.fnOf "stretches" "stretches" (defArgs s_stretches) (defBody s_stretches) (defScope s_stretches) .none kV_stretches dc_stretches pm_stretches an_stretches cd_stretches ct_stretches, f_may_follow, PySem.W.fnOf "may_follow" "may_follow" (defArgs s_may_follow) (defBody s_may_follow) (defScope s_may_follow) .none kV_may_follow dc_may_follow pm_may_follow an_may_follow cd_may_follow ct_may_follow, f_follow_well, PySem.W.fnOf "follow_well" "follow_well" (defArgs s_follow_well) (defBody s_follow_well) (defScope s_follow_well) .none kV_follow_well dc_follow_well pm_follow_well an_follow_well cd_follow_well ct_follow_well, f_last_well, PySem.W.fnOf "last_well" "last_well" (defArgs s_last_well) (defBody s_last_well) (defScope s_last_well) .none kV_last_well dc_last_well pm_last_well an_last_well cd_last_well ct_last_well, f_in_order, PySem.W.fnOf "in_order" "in_order" (defArgs s_in_order) (defBody s_in_order) (defScope s_in_order) .none kV_in_order dc_in_order pm_in_order an_in_order cd_in_order ct_in_order, f__law_draw, PySem.W.fnOf "_law_draw" "_law_draw" (defArgs s__law_draw) (defBody s__law_draw) (defScope s__law_draw) .none kV__law_draw dc__law_draw pm__law_draw an__law_draw cd__law_draw ct__law_draw, f__law_next, PySem.W.fnOf "_law_next" "_law_next" (defArgs s__law_next) (defBody s__law_next) (defScope s__law_next) .none kV__law_next dc__law_next pm__law_next an__law_next cd__law_next ct__law_next, f__law_parts, PySem.W.fnOf "_law_parts" "_law_parts" (defArgs s__law_parts) (defBody s__law_parts) (defScope s__law_parts) .none kV__law_parts dc__law_parts pm__law_parts an__law_parts cd__law_parts ct__law_parts, f__law_spoiled, PySem.W.fnOf "_law_spoiled" "_law_spoiled" (defArgs s__law_spoiled) (defBody s__law_spoiled) (defScope s__law_spoiled) .none kV__law_spoiled dc__law_spoiled pm__law_spoiled an__law_spoiled cd__law_spoiled ct__law_spoiled, f__law_row, PySem.W.fnOf "_law_row" "_law_row" (defArgs s__law_row) (defBody s__law_row) (defScope s__law_row) .none kV__law_row dc__law_row pm__law_row an__law_row cd__law_row ct__law_row, f__law_starts, PySem.W.fnOf "_law_starts" "_law_starts" (defArgs s__law_starts) (defBody s__law_starts) (defScope s__law_starts) .none kV__law_starts dc__law_starts pm__law_starts an__law_starts cd__law_starts ct__law_starts, f__law_follows, PySem.W.fnOf "_law_follows" "_law_follows" (defArgs s__law_follows) (defBody s__law_follows) (defScope s__law_follows) .none kV__law_follows dc__law_follows pm__law_follows an__law_follows cd__law_follows ct__law_follows, f__law_due, PySem.W.fnOf "_law_due" "_law_due" (defArgs s__law_due) (defBody s__law_due) (defScope s__law_due) .none kV__law_due dc__law_due pm__law_due an__law_due cd__law_due ct__law_due, f__law_good, PySem.W.fnOf "_law_good" "_law_good" (defArgs s__law_good) (defBody s__law_good) (defScope s__law_good) .none kV__law_good dc__law_good pm__law_good an__law_good cd__law_good ct__law_good, f_law, PySem.W.fnOf "law" "law" (defArgs s_law) (defBody s_law) (defScope s_law) .none kV_law dc_law pm_law an_law cd_law ct_law, f_Way_init, PySem.W.fnOf "__init__" "Way.__init__" (defArgs s_Way_init) (defBody s_Way_init) (defScope s_Way_init) .none kV_Way_init dc_Way_init pm_Way_init an_Way_init cd_Way_init ct_Way_init, f_CarWay_init, PySem.W.fnOf "__init__" "CarWay.__init__" (defArgs s_CarWay_init) (defBody s_CarWay_init) (defScope s_CarWay_init) .none kV_CarWay_init dc_CarWay_init pm_CarWay_init an_CarWay_init cd_CarWay_init ct_CarWay_init, f_CarWay_ready, PySem.W.fnOf "ready" "CarWay.ready" (defArgs s_CarWay_ready) (defBody s_CarWay_ready) (defScope s_CarWay_ready) .none kV_CarWay_ready dc_CarWay_ready pm_CarWay_ready an_CarWay_ready cd_CarWay_ready ct_CarWay_ready, f_CarWay_fade, PySem.W.fnOf "fade" "CarWay.fade" (defArgs s_CarWay_fade) (defBody s_CarWay_fade) (defScope s_CarWay_fade) .none kV_CarWay_fade dc_CarWay_fade pm_CarWay_fade an_CarWay_fade cd_CarWay_fade ct_CarWay_fade, f_FootWay_init, PySem.W.fnOf "__init__" "FootWay.__init__" (defArgs s_FootWay_init) (defBody s_FootWay_init) (defScope s_FootWay_init) .none kV_FootWay_init dc_FootWay_init pm_FootWay_init an_FootWay_init cd_FootWay_init ct_FootWay_init, f_FootWay_ready, PySem.W.fnOf "ready" "FootWay.ready" (defArgs s_FootWay_ready) (defBody s_FootWay_ready) (defScope s_FootWay_ready) .none kV_FootWay_ready dc_FootWay_ready pm_FootWay_ready an_FootWay_ready cd_FootWay_ready ct_FootWay_ready, f_FootWay_fade, PySem.W.fnOf "fade" "FootWay.fade" (defArgs s_FootWay_fade) (defBody s_FootWay_fade) (defScope s_FootWay_fade) .none kV_FootWay_fade dc_FootWay_fade pm_FootWay_fade an_FootWay_fade cd_FootWay_fade ct_FootWay_fade, f_TramWay_init, PySem.W.fnOf "__init__" "TramWay.__init__" (defArgs s_TramWay_init) (defBody s_TramWay_init) (defScope s_TramWay_init) .none kV_TramWay_init dc_TramWay_init pm_TramWay_init an_TramWay_init cd_TramWay_init ct_TramWay_init, f_TramWay_ready, PySem.W.fnOf "ready" "TramWay.ready" (defArgs s_TramWay_ready) (defBody s_TramWay_ready) (defScope s_TramWay_ready) .none kV_TramWay_ready dc_TramWay_ready pm_TramWay_ready an_TramWay_ready cd_TramWay_ready ct_TramWay_ready, f_TramWay_fade, PySem.W.fnOf "fade" "TramWay.fade" (defArgs s_TramWay_fade) (defBody s_TramWay_fade) (defScope s_TramWay_fade) .none kV_TramWay_fade dc_TramWay_fade pm_TramWay_fade an_TramWay_fade cd_TramWay_fade ct_TramWay_fade, c_Way, c_CarWay, c_FootWay, c_TramWay⟩, ?_⟩
  exact ⟨fun_mk (st := s_stretches) e2_stretches e3_stretches e4_stretches,
    (fun_mk (st := s_stretches) e2_stretches e3_stretches e4_stretches).binds fun _ _ _ _ _ _ us hl => match us, hl with | [_], _ => rfl,
    PySem.W.mg_of X G e1_stretches,
    e4_stretches,
    fun_mk (st := s_may_follow) e2_may_follow e3_may_follow e4_may_follow,
    (fun_mk (st := s_may_follow) e2_may_follow e3_may_follow e4_may_follow).binds fun _ _ _ _ _ _ us hl => match us, hl with | [_, _], _ => rfl,
    PySem.W.mg_of X G e1_may_follow,
    e4_may_follow,
    fun_mk (st := s_follow_well) e2_follow_well e3_follow_well e4_follow_well,
    (fun_mk (st := s_follow_well) e2_follow_well e3_follow_well e4_follow_well).binds fun _ _ _ _ _ _ us hl => match us, hl with | [_, _], _ => rfl,
    PySem.W.mg_of X G e1_follow_well,
    e4_follow_well,
    fun_mk (st := s_last_well) e2_last_well e3_last_well e4_last_well,
    (fun_mk (st := s_last_well) e2_last_well e3_last_well e4_last_well).binds fun _ _ _ _ _ _ us hl => match us, hl with | [_, _, _, _], _ => rfl,
    PySem.W.mg_of X G e1_last_well,
    e4_last_well,
    fun_mk (st := s_in_order) e2_in_order e3_in_order e4_in_order,
    (fun_mk (st := s_in_order) e2_in_order e3_in_order e4_in_order).binds fun _ _ _ _ _ _ us hl => match us, hl with | [_, _], _ => rfl,
    PySem.W.mg_of X G e1_in_order,
    e4_in_order,
    fun_mk (st := s__law_draw) e2__law_draw e3__law_draw e4__law_draw,
    (fun_mk (st := s__law_draw) e2__law_draw e3__law_draw e4__law_draw).binds fun _ _ _ _ _ _ us hl => match us, hl with | [_, _, _], _ => rfl,
    PySem.W.mg_of X G e1__law_draw,
    e4__law_draw,
    fun_mk (st := s__law_next) e2__law_next e3__law_next e4__law_next,
    (fun_mk (st := s__law_next) e2__law_next e3__law_next e4__law_next).binds fun _ _ _ _ _ _ us hl => match us, hl with | [_, _, _, _, _], _ => rfl,
    PySem.W.mg_of X G e1__law_next,
    e4__law_next,
    fun_mk (st := s__law_parts) e2__law_parts e3__law_parts e4__law_parts,
    (fun_mk (st := s__law_parts) e2__law_parts e3__law_parts e4__law_parts).binds fun _ _ _ _ _ _ us hl => match us, hl with | [_, _, _, _], _ => rfl,
    PySem.W.mg_of X G e1__law_parts,
    e4__law_parts,
    fun_mk (st := s__law_spoiled) e2__law_spoiled e3__law_spoiled e4__law_spoiled,
    (fun_mk (st := s__law_spoiled) e2__law_spoiled e3__law_spoiled e4__law_spoiled).binds fun _ _ _ _ _ _ us hl => match us, hl with | [_, _], _ => rfl,
    PySem.W.mg_of X G e1__law_spoiled,
    e4__law_spoiled,
    fun_mk (st := s__law_row) e2__law_row e3__law_row e4__law_row,
    (fun_mk (st := s__law_row) e2__law_row e3__law_row e4__law_row).binds fun _ _ _ _ _ _ us hl => match us, hl with | [_], _ => rfl,
    PySem.W.mg_of X G e1__law_row,
    e4__law_row,
    fun_mk (st := s__law_starts) e2__law_starts e3__law_starts e4__law_starts,
    (fun_mk (st := s__law_starts) e2__law_starts e3__law_starts e4__law_starts).binds fun _ _ _ _ _ _ us hl => match us, hl with | [_], _ => rfl,
    PySem.W.mg_of X G e1__law_starts,
    e4__law_starts,
    fun_mk (st := s__law_follows) e2__law_follows e3__law_follows e4__law_follows,
    (fun_mk (st := s__law_follows) e2__law_follows e3__law_follows e4__law_follows).binds fun _ _ _ _ _ _ us hl => match us, hl with | [_, _, _, _], _ => rfl,
    PySem.W.mg_of X G e1__law_follows,
    e4__law_follows,
    fun_mk (st := s__law_due) e2__law_due e3__law_due e4__law_due,
    (fun_mk (st := s__law_due) e2__law_due e3__law_due e4__law_due).binds fun _ _ _ _ _ _ us hl => match us, hl with | [_, _, _, _], _ => rfl,
    PySem.W.mg_of X G e1__law_due,
    e4__law_due,
    fun_mk (st := s__law_good) e2__law_good e3__law_good e4__law_good,
    (fun_mk (st := s__law_good) e2__law_good e3__law_good e4__law_good).binds fun _ _ _ _ _ _ us hl => match us, hl with | [_, _, _, _, _], _ => rfl,
    PySem.W.mg_of X G e1__law_good,
    e4__law_good,
    fun_mk (st := s_law) e2_law e3_law e4_law,
    (fun_mk (st := s_law) e2_law e3_law e4_law).binds fun _ _ _ _ _ _ us hl => match us, hl with | [_], _ => rfl,
    PySem.W.mg_of X G e1_law,
    e4_law,
    fun_mk (st := s_Way_init) e2_Way_init e3_Way_init e4_Way_init,
    (fun_mk (st := s_Way_init) e2_Way_init e3_Way_init e4_Way_init).binds fun _ _ _ _ _ _ us hl => match us, hl with | [_, _, _, _, _, _, _, _], _ => rfl,
    fun_mk (st := s_CarWay_init) e2_CarWay_init e3_CarWay_init e4_CarWay_init,
    (fun_mk (st := s_CarWay_init) e2_CarWay_init e3_CarWay_init e4_CarWay_init).binds fun _ _ _ _ _ _ us hl => match us, hl with | [_, _, _, _, _, _, _], _ => rfl,
    fun_mk (st := s_CarWay_ready) e2_CarWay_ready e3_CarWay_ready e4_CarWay_ready,
    (fun_mk (st := s_CarWay_ready) e2_CarWay_ready e3_CarWay_ready e4_CarWay_ready).binds fun _ _ _ _ _ _ us hl => match us, hl with | [_], _ => rfl,
    fun_mk (st := s_CarWay_fade) e2_CarWay_fade e3_CarWay_fade e4_CarWay_fade,
    (fun_mk (st := s_CarWay_fade) e2_CarWay_fade e3_CarWay_fade e4_CarWay_fade).binds fun _ _ _ _ _ _ us hl => match us, hl with | [_], _ => rfl,
    fun_mk (st := s_FootWay_init) e2_FootWay_init e3_FootWay_init e4_FootWay_init,
    (fun_mk (st := s_FootWay_init) e2_FootWay_init e3_FootWay_init e4_FootWay_init).binds fun _ _ _ _ _ _ us hl => match us, hl with | [_, _, _, _, _, _, _], _ => rfl,
    fun_mk (st := s_FootWay_ready) e2_FootWay_ready e3_FootWay_ready e4_FootWay_ready,
    (fun_mk (st := s_FootWay_ready) e2_FootWay_ready e3_FootWay_ready e4_FootWay_ready).binds fun _ _ _ _ _ _ us hl => match us, hl with | [_], _ => rfl,
    fun_mk (st := s_FootWay_fade) e2_FootWay_fade e3_FootWay_fade e4_FootWay_fade,
    (fun_mk (st := s_FootWay_fade) e2_FootWay_fade e3_FootWay_fade e4_FootWay_fade).binds fun _ _ _ _ _ _ us hl => match us, hl with | [_], _ => rfl,
    fun_mk (st := s_TramWay_init) e2_TramWay_init e3_TramWay_init e4_TramWay_init,
    (fun_mk (st := s_TramWay_init) e2_TramWay_init e3_TramWay_init e4_TramWay_init).binds fun _ _ _ _ _ _ us hl => match us, hl with | [_, _, _, _, _, _, _], _ => rfl,
    fun_mk (st := s_TramWay_ready) e2_TramWay_ready e3_TramWay_ready e4_TramWay_ready,
    (fun_mk (st := s_TramWay_ready) e2_TramWay_ready e3_TramWay_ready e4_TramWay_ready).binds fun _ _ _ _ _ _ us hl => match us, hl with | [_], _ => rfl,
    fun_mk (st := s_TramWay_fade) e2_TramWay_fade e3_TramWay_fade e4_TramWay_fade,
    (fun_mk (st := s_TramWay_fade) e2_TramWay_fade e3_TramWay_fade e4_TramWay_fade).binds fun _ _ _ _ _ _ us hl => match us, hl with | [_], _ => rfl,
    PySem.W.mg_of X G eC_Way,
    ⟨pg_Way, hd_Way, po_Way, sa_Way⟩,
    nA_Way_kind,
    nA_Way_name,
    nA_Way_start,
    nA_Way_end,
    nA_Way_off,
    nA_Way_near,
    nA_Way_least,
    PySem.W.mg_of X G eC_CarWay,
    ⟨pg_CarWay, hd_CarWay, po_CarWay, sa_CarWay⟩,
    ⟨mk_CarWay, e1_CarWay_init, i_CarWay_init, kc_CarWay⟩,
    ⟨e1_CarWay_ready, i_CarWay_ready, e4_CarWay_ready⟩,
    ⟨e1_CarWay_fade, i_CarWay_fade, e4_CarWay_fade⟩,
    nA_CarWay_kind,
    nA_CarWay_name,
    nA_CarWay_start,
    nA_CarWay_end,
    nA_CarWay_off,
    nA_CarWay_near,
    nA_CarWay_least,
    PySem.W.mg_of X G eC_FootWay,
    ⟨pg_FootWay, hd_FootWay, po_FootWay, sa_FootWay⟩,
    ⟨mk_FootWay, e1_FootWay_init, i_FootWay_init, kc_FootWay⟩,
    ⟨e1_FootWay_ready, i_FootWay_ready, e4_FootWay_ready⟩,
    ⟨e1_FootWay_fade, i_FootWay_fade, e4_FootWay_fade⟩,
    nA_FootWay_kind,
    nA_FootWay_name,
    nA_FootWay_start,
    nA_FootWay_end,
    nA_FootWay_off,
    nA_FootWay_near,
    nA_FootWay_least,
    PySem.W.mg_of X G eC_TramWay,
    ⟨pg_TramWay, hd_TramWay, po_TramWay, sa_TramWay⟩,
    ⟨mk_TramWay, e1_TramWay_init, i_TramWay_init, kc_TramWay⟩,
    ⟨e1_TramWay_ready, i_TramWay_ready, e4_TramWay_ready⟩,
    ⟨e1_TramWay_fade, i_TramWay_fade, e4_TramWay_fade⟩,
    nA_TramWay_kind,
    nA_TramWay_name,
    nA_TramWay_start,
    nA_TramWay_end,
    nA_TramWay_off,
    nA_TramWay_near,
    nA_TramWay_least,
    dC_Way_CarWay,
    dC_Way_FootWay,
    dC_Way_TramWay,
    dC_CarWay_FootWay,
    dC_CarWay_TramWay,
    dC_FootWay_TramWay,
    ⟨cr_Way_init, cf_Way_init, cg_Way_init, e4_Way_init⟩,
    PySem.W.mg_none_of X G b_bool,
    PySem.W.mg_none_of X G b_enumerate,
    PySem.W.mg_none_of X G b_isinstance,
    PySem.W.mg_none_of X G b_len,
    PySem.W.mg_none_of X G b_list,
    PySem.W.mg_none_of X G b_range,
    PySem.W.mg_none_of X G b_zip,
    fun _ _ => .of_eq rfl⟩
/-! ### drawing -/
def draw (ns : List Int) (k m : Int) : Int :=
  ((((if 0 < (ns.length : Int) then ns.getD (k % (ns.length : Int)).toNat 0 else 0) % 1000003 + 31 * k * k + 1) * 48271 % 999983 * 7919) % 524287) % m
theorem draw_lo (ns : List Int) (k : Int) {m : Int} (h : 0 < m) : 0 ≤ draw ns k m := Int.emod_nonneg _ (by omega)
theorem draw_hi (ns : List Int) (k : Int) {m : Int} (h : 0 < m) : draw ns k m < m := Int.emod_lt_of_pos _ h
def sp_draw (K : PySem.W.Frag) (a : Addr) (ns : List Int) : Sp := fun vs H Q _ => ∃ k m, vs = [.ref a, .int k, .int m] ∧ Sc K a ns H ∧ (0 ≤ k ∧ k < 1000000) ∧ 0 < m ∧ Q (.int (draw ns k m)) H
section
variable {P : Program} {w : World} {K : PySem.W.Frag} {mg : Str → Option Value} {base : Heap} {t : Adr}
theorem ok_draw (T : Txt w K mg t) (a : Addr) (ns : List Int) (h63 : ns.length ≤ 63) : FnOk P w K mg base CX0 1 t.a__law_draw t.d__law_draw ["_law_script", "_law_k", "_law_many"] (sp_draw K a ns) := by
  refine T.F__law_draw.ok sc__law_draw (fun vs H Q E h => ?_) (fun cdv A outer s H vs Q E hr h => ?_)
  · obtain ⟨k, m, rfl, _⟩ := h; rfl
  obtain ⟨k, m, rfl, S, ⟨h0, h1⟩, hm, q⟩ := h
  refine ⟨_, (pss_cons (ps_set (i := 3) sc__law_draw.nd rfl (Or.inl rfl) (pe_ifExp (pt_cmpR op_gt (pe_callB call_len_seq rfl T.b_len boot_b_len (pa_cons (pv 0) pa_nil)) pe_int (nomark _)) (pe_ix ix_list (pv 0) (pe_op op_mod (pv 1) (pe_callB call_len_seq rfl T.b_len boot_b_len (pa_cons (pv 0) pa_nil))) (fun _ _ => rfl)) pe_int))
      (pss_cons (ps_set (i := 4) sc__law_draw.nd rfl (Or.inl rfl) (pe_op op_add (pe_op op_add (pe_op op_mod (pv 3) pe_int) (pe_op op_mul (pe_op op_mul pe_int (pv 1)) (pv 1))) pe_int))
      (pss_one (ps_ret (pe_op op_mod (pe_op op_mod (pe_op op_mul (pe_op op_mod (pe_op op_mul (pv 4) pe_int) pe_int) pe_int) pe_int) (pv 2)))))), ?_⟩
  (walk_at "RD")
  refine ⟨_, .inl S.seq, ?_⟩
  rw [List.length_map]
  have hkk : (0 : Int) ≤ k * k ∧ k * k < 1000000 * 1000000 := ⟨Int.mul_nonneg h0 h0, Int.mul_lt_mul' (by omega) h1 h0 (by decide)⟩
  have fin : ∀ i : Int, (0 : Int) < 1000003 ∧ CMul 31 k ∧ CMul (31 * k) k ∧ CMul (i % 1000003 + 31 * k * k + 1) 48271 ∧ (0 : Int) < 999983 ∧ CMul ((i % 1000003 + 31 * k * k + 1) * 48271 % 999983) 7919 ∧ (0 : Int) < 524287 ∧ 0 < m := by
    intro i
    refine ⟨by decide, .inl (by decide), .inr (by omega), .inr (by decide), by decide, .inr (by decide), by decide, hm⟩
  by_cases c : (0 : Int) < (ns.length : Int)
  · rw [if_pos (decide_eq_true c)]
    have hk : 0 ≤ k % (ns.length : Int) ∧ k % (ns.length : Int) < (ns.length : Int) := ⟨Int.emod_nonneg _ (by omega), Int.emod_lt_of_pos _ c⟩
    refine ⟨_, .inl S.seq, by rw [List.length_map]; exact c, _, S.seq, ?_⟩
    rw [List.length_map]
    have hj : (k % (ns.length : Int)).toNat < ns.length := by omega
    refine ⟨.int ns[(k % (ns.length : Int)).toNat], ?_, _, rfl, ?_⟩
    · have e := atI_nat (xs := ns.map V.int) (j := (k % (ns.length : Int)).toNat) (v := .int ns[(k % (ns.length : Int)).toNat]) (by rw [List.getElem?_map, List.getElem?_eq_getElem hj] <;> rfl)
      rwa [Int.toNat_of_nonneg hk.1] at e
    · obtain ⟨f1, f2, f3, f4, f5, f6, f7, f8⟩ := fin ns[(k % (ns.length : Int)).toNat]
      refine ⟨f1, f2, f3, f4, f5, f6, f7, f8, ?_⟩
      have e : draw ns k m = (((ns[(k % (ns.length : Int)).toNat] % 1000003 + 31 * k * k + 1) * 48271 % 999983 * 7919) % 524287) % m := by
        unfold draw
        rw [if_pos c, List.getD_eq_getElem?_getD, List.getElem?_eq_getElem hj]
        rfl
      rw [← e]; exact q
  · rw [if_neg (by simpa using c)]
    obtain ⟨f1, f2, f3, f4, f5, f6, f7, f8⟩ := fin 0
    refine ⟨f1, f2, f3, f4, f5, f6, f7, f8, ?_⟩
    have e : draw ns k m = (((0 % 1000003 + 31 * k * k + 1) * 48271 % 999983 * 7919) % 524287) % m := by
      unfold draw
      rw [if_neg c]
    rw [← e]; exact q
end
end My
namespace My
open PySem L2
/-! ### ways -/
structure WD where
  k : Nat
  name : Str
  start : Int
  fin : Int
  off : Int
  near : Int
  least : Int
def sortS : Nat → Str
  | 0 => Str.ofString "car"
  | 1 => Str.ofString "foot"
  | _ => Str.ofString "tram"
def Adr.cw (t : Adr) : Nat → Addr
  | 0 => t.c_CarWay
  | 1 => t.c_FootWay
  | _ => t.c_TramWay
def wFlds (d : WD) : List (Str × V) := [(Str.ofString "kind", .str (sortS d.k)), (Str.ofString "name", .str d.name), (Str.ofString "start", .int d.start), (Str.ofString "end", .int d.fin), (Str.ofString "off", .int d.off), (Str.ofString "near", .int d.near), (Str.ofString "least", .int d.least)]
abbrev wKeys : List Str := [Str.ofString "kind", Str.ofString "name", Str.ofString "start", Str.ofString "end", Str.ofString "off", Str.ofString "near", Str.ofString "least"]
theorem wFlds_keys (d : WD) : (wFlds d).map (·.1) = wKeys := rfl
def WayAt (t : Adr) (H : Hp) (p : Addr) (d : WD) : Prop := d.k < 3 ∧ ∃ dx, H p = some (.ins (t.cw d.k) dx (wFlds d))
theorem WayAt.same {t : Adr} {H H' : Hp} {p : Addr} {d : WD} (h : WayAt t H p d) (s : Same H H') : WayAt t H' p d := ⟨h.1, h.2.imp fun dx e => s _ _ e⟩
def isW (t : Adr) (C : Addr) : Prop := ∃ k, k < 3 ∧ C = t.cw k
def readyW (d : WD) : Int := match d.k with | 0 => 1 | 1 => 0 | _ => 2
def fadeW (d : WD) : Int := match d.k with | 0 => 2 | 1 => d.off | _ => 1
def goesW (d : WD) (n : Int) : Int := match d.k with | 1 => n | _ => if 1 < n then 1 else n
section
variable {w : World} {K : PySem.W.Frag} {mg : Str → Option Value} {t : Adr}
theorem Txt.clw (T : Txt w K mg t) : ∀ k, Cls K (t.cw k)
  | 0 => T.cl_CarWay
  | 1 => T.cl_FootWay
  | _ + 2 => T.cl_TramWay
theorem Txt.naw (T : Txt w K mg t) {f : Str} (hf : f ∈ wKeys) : ∀ k, NoAttr K (t.cw k) f := by
  intro k
  simp only [wKeys, List.mem_cons, List.not_mem_nil, or_false] at hf
  rcases hf with rfl | rfl | rfl | rfl | rfl | rfl | rfl
  · match k with
    | 0 => exact T.nA_CarWay_kind
    | 1 => exact T.nA_FootWay_kind
    | _ + 2 => exact T.nA_TramWay_kind
  · match k with
    | 0 => exact T.nA_CarWay_name
    | 1 => exact T.nA_FootWay_name
    | _ + 2 => exact T.nA_TramWay_name
  · match k with
    | 0 => exact T.nA_CarWay_start
    | 1 => exact T.nA_FootWay_start
    | _ + 2 => exact T.nA_TramWay_start
  · match k with
    | 0 => exact T.nA_CarWay_end
    | 1 => exact T.nA_FootWay_end
    | _ + 2 => exact T.nA_TramWay_end
  · match k with
    | 0 => exact T.nA_CarWay_off
    | 1 => exact T.nA_FootWay_off
    | _ + 2 => exact T.nA_TramWay_off
  · match k with
    | 0 => exact T.nA_CarWay_near
    | 1 => exact T.nA_FootWay_near
    | _ + 2 => exact T.nA_TramWay_near
  · match k with
    | 0 => exact T.nA_CarWay_least
    | 1 => exact T.nA_FootWay_least
    | _ + 2 => exact T.nA_TramWay_least
theorem Txt.cw_inj (T : Txt w K mg t) {j k : Nat} (hj : j < 3) (hk : k < 3) (e : t.cw j = t.cw k) : j = k := by
  match j, k, hj, hk with
  | 0, 0, _, _ => rfl
  | 0, 1, _, _ => exact absurd e T.dC_CarWay_FootWay
  | 0, 2, _, _ => exact absurd e T.dC_CarWay_TramWay
  | 1, 0, _, _ => exact absurd e.symm T.dC_CarWay_FootWay
  | 1, 1, _, _ => rfl
  | 1, 2, _, _ => exact absurd e T.dC_FootWay_TramWay
  | 2, 0, _, _ => exact absurd e.symm T.dC_CarWay_TramWay
  | 2, 1, _, _ => exact absurd e.symm T.dC_FootWay_TramWay
  | 2, 2, _, _ => rfl
  | j + 3, _, h, _ => omega
  | _, k + 3, _, h => omega
theorem WayAt.fld (T : Txt w K mg t) {H : Hp} {p : Addr} {d : WD} (h : WayAt t H p d) {f : Str} {v : V} (i : Nat) (hi : wKeys.findIdx? (· == f) = some i) (hv : (wFlds d)[i]? = some (f, v)) : FldAt K H p f v := by
  obtain ⟨_, dx, e⟩ := h
  have hm : f ∈ wKeys := by
    obtain ⟨hlt, h1, _⟩ := List.findIdx?_eq_some_iff_getElem.mp hi
    have : wKeys[i] = f := by simpa using h1
    rw [← this]; exact List.getElem_mem hlt
  exact ⟨_, dx, _, e, T.clw _, T.naw hm _, lookup_at wKeys i (wFlds_keys d) hi hv⟩
theorem WayAt.f_kind (T : Txt w K mg t) {H : Hp} {p : Addr} {d : WD} (h : WayAt t H p d) : FldAt K H p (Str.ofString "kind") (.str (sortS d.k)) := h.fld T 0 (by decide +kernel) rfl
theorem WayAt.f_name (T : Txt w K mg t) {H : Hp} {p : Addr} {d : WD} (h : WayAt t H p d) : FldAt K H p (Str.ofString "name") (.str d.name) := h.fld T 1 (by decide +kernel) rfl
theorem WayAt.f_start (T : Txt w K mg t) {H : Hp} {p : Addr} {d : WD} (h : WayAt t H p d) : FldAt K H p (Str.ofString "start") (.int d.start) := h.fld T 2 (by decide +kernel) rfl
theorem WayAt.f_end (T : Txt w K mg t) {H : Hp} {p : Addr} {d : WD} (h : WayAt t H p d) : FldAt K H p (Str.ofString "end") (.int d.fin) := h.fld T 3 (by decide +kernel) rfl
theorem WayAt.f_off (T : Txt w K mg t) {H : Hp} {p : Addr} {d : WD} (h : WayAt t H p d) : FldAt K H p (Str.ofString "off") (.int d.off) := h.fld T 4 (by decide +kernel) rfl
theorem WayAt.f_near (T : Txt w K mg t) {H : Hp} {p : Addr} {d : WD} (h : WayAt t H p d) : FldAt K H p (Str.ofString "near") (.int d.near) := h.fld T 5 (by decide +kernel) rfl
theorem WayAt.f_least (T : Txt w K mg t) {H : Hp} {p : Addr} {d : WD} (h : WayAt t H p d) : FldAt K H p (Str.ofString "least") (.int d.least) := h.fld T 6 (by decide +kernel) rfl
end
/-- Way.__init__: the fields are stored -/
def sp_wayI (t : Adr) : Sp := fun vs H Q _ => ∃ (p dx : Addr) (d : WD), vs = [.ref p, .str (sortS d.k), .str d.name, .int d.start, .int d.fin, .int d.off, .int d.near, .int d.least] ∧ d.k < 3 ∧ H p = some (.ins (t.cw d.k) dx []) ∧ Q .non (upd H p (.ins (t.cw d.k) dx (wFlds d)))
def sp_sortI (t : Adr) (k : Nat) : Sp := fun vs H Q _ => ∃ (p dx : Addr) (d : WD), vs = [.ref p, .str d.name, .int d.start, .int d.fin, .int d.off, .int d.near, .int d.least] ∧ d.k = k ∧ H p = some (.ins (t.cw d.k) dx []) ∧ Q .non (upd H p (.ins (t.cw d.k) dx (wFlds d)))
section
variable {P : Program} {w : World} {K : PySem.W.Frag} {mg : Str → Option Value} {base : Heap} {t : Adr}
theorem ok_wayI (T : Txt w K mg t) : FnOk P w K mg base CX0 1 t.a_Way_init t.d_Way_init ["self", "kind", "name", "start", "end", "off", "near", "least"] (sp_wayI t) := by
  refine T.F_Way_init.ok sc_Way___init__ (fun vs H Q E h => ?_) (fun cdv A outer s H vs Q E hr h => ?_)
  · obtain ⟨p, dx, d, rfl, _⟩ := h; rfl
  obtain ⟨p, dx, d, rfl, hk, hp, q⟩ := h
  refine ⟨_, (pss_cons (ps_fld (pv 0) (pv 1) rfl)
      (pss_cons (ps_fld (pv 0) (pv 2) rfl)
      (pss_cons (ps_fld (pv 0) (pv 3) rfl)
      (pss_cons (ps_fld (pv 0) (pv 4) rfl)
      (pss_cons (ps_fld (pv 0) (pv 5) rfl)
      (pss_cons (ps_fld (pv 0) (pv 6) rfl)
      (pss_one (ps_fld (pv 0) (pv 7) rfl)))))))), ?_⟩
  (walk_at "RD")
  have na : ∀ {f : Str}, f ∈ wKeys → NoAttr K (t.cw d.k) f := fun hf => T.naw hf d.k
  refine ⟨_, _, _, hp, T.clw _, na (by decide +kernel), by decide, ?_⟩
  refine ⟨_, _, _, upd_same, T.clw _, na (by decide +kernel), lenP (n := 999) (by decide), ?_⟩
  refine ⟨_, _, _, upd_same, T.clw _, na (by decide +kernel), lenP (n := 999) (lenP (n := 998) (by decide)), ?_⟩
  refine ⟨_, _, _, upd_same, T.clw _, na (by decide +kernel), lenP (n := 999) (lenP (n := 998) (lenP (n := 997) (by decide))), ?_⟩
  refine ⟨_, _, _, upd_same, T.clw _, na (by decide +kernel), lenP (n := 999) (lenP (n := 998) (lenP (n := 997) (lenP (n := 996) (by decide)))), ?_⟩
  refine ⟨_, _, _, upd_same, T.clw _, na (by decide +kernel), lenP (n := 999) (lenP (n := 998) (lenP (n := 997) (lenP (n := 996) (lenP (n := 995) (by decide))))), ?_⟩
  refine ⟨_, _, _, upd_same, T.clw _, na (by decide +kernel), lenP (n := 999) (lenP (n := 998) (lenP (n := 997) (lenP (n := 996) (lenP (n := 995) (lenP (n := 994) (by decide)))))), ?_⟩
  simp only [upd_upd]
  rw [show putF (Str.ofString "kind") (V.str (sortS d.k)) ([] : List (Str × V)) = [(Str.ofString "kind", V.str (sortS d.k))] from putF_new [] rfl (by decide +kernel),
    show putF (Str.ofString "name") (V.str d.name) ([(Str.ofString "kind", V.str (sortS d.k))] : List (Str × V)) = [(Str.ofString "kind", V.str (sortS d.k)), (Str.ofString "name", V.str d.name)] from putF_new [Str.ofString "kind"] rfl (by decide +kernel),
    show putF (Str.ofString "start") (V.int d.start) ([(Str.ofString "kind", V.str (sortS d.k)), (Str.ofString "name", V.str d.name)] : List (Str × V)) = [(Str.ofString "kind", V.str (sortS d.k)), (Str.ofString "name", V.str d.name), (Str.ofString "start", V.int d.start)] from putF_new [Str.ofString "kind", Str.ofString "name"] rfl (by decide +kernel),
    show putF (Str.ofString "end") (V.int d.fin) ([(Str.ofString "kind", V.str (sortS d.k)), (Str.ofString "name", V.str d.name), (Str.ofString "start", V.int d.start)] : List (Str × V)) = [(Str.ofString "kind", V.str (sortS d.k)), (Str.ofString "name", V.str d.name), (Str.ofString "start", V.int d.start), (Str.ofString "end", V.int d.fin)] from putF_new [Str.ofString "kind", Str.ofString "name", Str.ofString "start"] rfl (by decide +kernel),
    show putF (Str.ofString "off") (V.int d.off) ([(Str.ofString "kind", V.str (sortS d.k)), (Str.ofString "name", V.str d.name), (Str.ofString "start", V.int d.start), (Str.ofString "end", V.int d.fin)] : List (Str × V)) = [(Str.ofString "kind", V.str (sortS d.k)), (Str.ofString "name", V.str d.name), (Str.ofString "start", V.int d.start), (Str.ofString "end", V.int d.fin), (Str.ofString "off", V.int d.off)] from putF_new [Str.ofString "kind", Str.ofString "name", Str.ofString "start", Str.ofString "end"] rfl (by decide +kernel),
    show putF (Str.ofString "near") (V.int d.near) ([(Str.ofString "kind", V.str (sortS d.k)), (Str.ofString "name", V.str d.name), (Str.ofString "start", V.int d.start), (Str.ofString "end", V.int d.fin), (Str.ofString "off", V.int d.off)] : List (Str × V)) = [(Str.ofString "kind", V.str (sortS d.k)), (Str.ofString "name", V.str d.name), (Str.ofString "start", V.int d.start), (Str.ofString "end", V.int d.fin), (Str.ofString "off", V.int d.off), (Str.ofString "near", V.int d.near)] from putF_new [Str.ofString "kind", Str.ofString "name", Str.ofString "start", Str.ofString "end", Str.ofString "off"] rfl (by decide +kernel),
    show putF (Str.ofString "least") (V.int d.least) ([(Str.ofString "kind", V.str (sortS d.k)), (Str.ofString "name", V.str d.name), (Str.ofString "start", V.int d.start), (Str.ofString "end", V.int d.fin), (Str.ofString "off", V.int d.off), (Str.ofString "near", V.int d.near)] : List (Str × V)) = [(Str.ofString "kind", V.str (sortS d.k)), (Str.ofString "name", V.str d.name), (Str.ofString "start", V.int d.start), (Str.ofString "end", V.int d.fin), (Str.ofString "off", V.int d.off), (Str.ofString "near", V.int d.near), (Str.ofString "least", V.int d.least)] from putF_new [Str.ofString "kind", Str.ofString "name", Str.ofString "start", Str.ofString "end", Str.ofString "off", Str.ofString "near"] rfl (by decide +kernel)]
  exact q
theorem ok_carI (T : Txt w K mg t) : FnOk P w K mg base CX0 2 t.a_CarWay_init t.d_CarWay_init ["self", "name", "start", "end", "off", "near", "least"] (sp_sortI t 0) := by
  have G_Way_init : FnOk P w K mg base CX0 1 t.a_Way_init t.d_Way_init ["self", "kind", "name", "start", "end", "off", "near", "least"] (sp_wayI t) := ok_wayI T
  refine T.F_CarWay_init.ok sc_CarWay___init__ (fun vs H Q E h => ?_) (fun cdv A outer s H vs Q E hr h => ?_)
  · obtain ⟨p, dx, d, rfl, _⟩ := h; rfl
  obtain ⟨p, dx, d, rfl, hk, hp, q⟩ := h
  refine ⟨_, (pss_one (ps_expr (pe_callC rfl T.m_Way T.C_Way_init G_Way_init hr T.n_Way_init .nil pass0 (pa_cons (pv 0) (pa_cons pe_str (pa_cons (pv 1) (pa_cons (pv 2) (pa_cons (pv 3) (pa_cons (pv 4) (pa_cons (pv 5) (pa_cons (pv 6) pa_nil))))))))))), ?_⟩
  (walk_at "RD")
  exact ⟨p, dx, d, by rw [hk]; rfl, by omega, hp, q⟩
theorem ok_footI (T : Txt w K mg t) : FnOk P w K mg base CX0 2 t.a_FootWay_init t.d_FootWay_init ["self", "name", "start", "end", "off", "near", "least"] (sp_sortI t 1) := by
  have G_Way_init : FnOk P w K mg base CX0 1 t.a_Way_init t.d_Way_init ["self", "kind", "name", "start", "end", "off", "near", "least"] (sp_wayI t) := ok_wayI T
  refine T.F_FootWay_init.ok sc_FootWay___init__ (fun vs H Q E h => ?_) (fun cdv A outer s H vs Q E hr h => ?_)
  · obtain ⟨p, dx, d, rfl, _⟩ := h; rfl
  obtain ⟨p, dx, d, rfl, hk, hp, q⟩ := h
  refine ⟨_, (pss_one (ps_expr (pe_callC rfl T.m_Way T.C_Way_init G_Way_init hr T.n_Way_init .nil pass0 (pa_cons (pv 0) (pa_cons pe_str (pa_cons (pv 1) (pa_cons (pv 2) (pa_cons (pv 3) (pa_cons (pv 4) (pa_cons (pv 5) (pa_cons (pv 6) pa_nil))))))))))), ?_⟩
  (walk_at "RD")
  exact ⟨p, dx, d, by rw [hk]; rfl, by omega, hp, q⟩
theorem ok_tramI (T : Txt w K mg t) : FnOk P w K mg base CX0 2 t.a_TramWay_init t.d_TramWay_init ["self", "name", "start", "end", "off", "near", "least"] (sp_sortI t 2) := by
  have G_Way_init : FnOk P w K mg base CX0 1 t.a_Way_init t.d_Way_init ["self", "kind", "name", "start", "end", "off", "near", "least"] (sp_wayI t) := ok_wayI T
  refine T.F_TramWay_init.ok sc_TramWay___init__ (fun vs H Q E h => ?_) (fun cdv A outer s H vs Q E hr h => ?_)
  · obtain ⟨p, dx, d, rfl, _⟩ := h; rfl
  obtain ⟨p, dx, d, rfl, hk, hp, q⟩ := h
  refine ⟨_, (pss_one (ps_expr (pe_callC rfl T.m_Way T.C_Way_init G_Way_init hr T.n_Way_init .nil pass0 (pa_cons (pv 0) (pa_cons pe_str (pa_cons (pv 1) (pa_cons (pv 2) (pa_cons (pv 3) (pa_cons (pv 4) (pa_cons (pv 5) (pa_cons (pv 6) pa_nil))))))))))), ?_⟩
  (walk_at "RD")
  exact ⟨p, dx, d, by rw [hk]; rfl, by omega, hp, q⟩
end
def spv_ready (t : Adr) (C : Addr) : Sp := fun vs H Q _ => ∃ p d, vs = [.ref p] ∧ WayAt t H p d ∧ C = t.cw d.k ∧ Q (.int (readyW d)) H
def spv_fade (t : Adr) (C : Addr) : Sp := fun vs H Q _ => ∃ p d, vs = [.ref p] ∧ WayAt t H p d ∧ C = t.cw d.k ∧ Q (.int (fadeW d)) H
section
variable {P : Program} {w : World} {K : PySem.W.Frag} {mg : Str → Option Value} {base : Heap} {t : Adr}
theorem ok_CarWay_ready (T : Txt w K mg t) : FnOk P w K mg base CX0 1 t.a_CarWay_ready t.d_CarWay_ready ["self"] (spv_ready t (t.cw 0)) := by
  refine T.F_CarWay_ready.ok sc_CarWay_ready (fun vs H Q E h => ?_) (fun cdv A outer s H vs Q E hr h => ?_)
  · obtain ⟨p, d, rfl, _⟩ := h; rfl
  obtain ⟨p, d, rfl, W, hC, q⟩ := h
  have hk := (T.cw_inj (by decide) W.1 hC).symm
  refine ⟨_, (pss_one (ps_ret pe_int)), ?_⟩
  rw [show readyW d = 1 by unfold readyW; simp only [hk]] at q
  (walk_at "RD")
  exact q
theorem ok_FootWay_ready (T : Txt w K mg t) : FnOk P w K mg base CX0 1 t.a_FootWay_ready t.d_FootWay_ready ["self"] (spv_ready t (t.cw 1)) := by
  refine T.F_FootWay_ready.ok sc_FootWay_ready (fun vs H Q E h => ?_) (fun cdv A outer s H vs Q E hr h => ?_)
  · obtain ⟨p, d, rfl, _⟩ := h; rfl
  obtain ⟨p, d, rfl, W, hC, q⟩ := h
  have hk := (T.cw_inj (by decide) W.1 hC).symm
  refine ⟨_, (pss_one (ps_ret pe_int)), ?_⟩
  rw [show readyW d = 0 by unfold readyW; simp only [hk]] at q
  (walk_at "RD")
  exact q
theorem ok_TramWay_ready (T : Txt w K mg t) : FnOk P w K mg base CX0 1 t.a_TramWay_ready t.d_TramWay_ready ["self"] (spv_ready t (t.cw 2)) := by
  refine T.F_TramWay_ready.ok sc_TramWay_ready (fun vs H Q E h => ?_) (fun cdv A outer s H vs Q E hr h => ?_)
  · obtain ⟨p, d, rfl, _⟩ := h; rfl
  obtain ⟨p, d, rfl, W, hC, q⟩ := h
  have hk := (T.cw_inj (by decide) W.1 hC).symm
  refine ⟨_, (pss_one (ps_ret pe_int)), ?_⟩
  rw [show readyW d = 2 by unfold readyW; simp only [hk]] at q
  (walk_at "RD")
  exact q
theorem v_ready (T : Txt w K mg t) : Virt P w K mg base CX0 1 (isW t) "ready" ["self"] (spv_ready t) := by
  refine ⟨fun C hC => ?_⟩
  obtain ⟨k, hk, rfl⟩ := hC
  match k, hk with
  | 0, _ => exact ⟨_, _, T.cl_CarWay, T.M_CarWay_ready, ok_CarWay_ready T, T.n_CarWay_ready⟩
  | 1, _ => exact ⟨_, _, T.cl_FootWay, T.M_FootWay_ready, ok_FootWay_ready T, T.n_FootWay_ready⟩
  | 2, _ => exact ⟨_, _, T.cl_TramWay, T.M_TramWay_ready, ok_TramWay_ready T, T.n_TramWay_ready⟩
theorem ok_CarWay_fade (T : Txt w K mg t) : FnOk P w K mg base CX0 1 t.a_CarWay_fade t.d_CarWay_fade ["self"] (spv_fade t (t.cw 0)) := by
  refine T.F_CarWay_fade.ok sc_CarWay_fade (fun vs H Q E h => ?_) (fun cdv A outer s H vs Q E hr h => ?_)
  · obtain ⟨p, d, rfl, _⟩ := h; rfl
  obtain ⟨p, d, rfl, W, hC, q⟩ := h
  have hk := (T.cw_inj (by decide) W.1 hC).symm
  refine ⟨_, (pss_one (ps_ret pe_int)), ?_⟩
  rw [show fadeW d = 2 by unfold fadeW; simp only [hk]] at q
  (walk_at "RD")
  exact q
theorem ok_FootWay_fade (T : Txt w K mg t) : FnOk P w K mg base CX0 1 t.a_FootWay_fade t.d_FootWay_fade ["self"] (spv_fade t (t.cw 1)) := by
  refine T.F_FootWay_fade.ok sc_FootWay_fade (fun vs H Q E h => ?_) (fun cdv A outer s H vs Q E hr h => ?_)
  · obtain ⟨p, d, rfl, _⟩ := h; rfl
  obtain ⟨p, d, rfl, W, hC, q⟩ := h
  have hk := (T.cw_inj (by decide) W.1 hC).symm
  refine ⟨_, (pss_one (ps_ret (pe_fld (pv 0) rfl))), ?_⟩
  rw [show fadeW d = d.off by unfold fadeW; simp only [hk]] at q
  (walk_at "RD")
  exact ⟨_, W.f_off T, q⟩
theorem ok_TramWay_fade (T : Txt w K mg t) : FnOk P w K mg base CX0 1 t.a_TramWay_fade t.d_TramWay_fade ["self"] (spv_fade t (t.cw 2)) := by
  refine T.F_TramWay_fade.ok sc_TramWay_fade (fun vs H Q E h => ?_) (fun cdv A outer s H vs Q E hr h => ?_)
  · obtain ⟨p, d, rfl, _⟩ := h; rfl
  obtain ⟨p, d, rfl, W, hC, q⟩ := h
  have hk := (T.cw_inj (by decide) W.1 hC).symm
  refine ⟨_, (pss_one (ps_ret pe_int)), ?_⟩
  rw [show fadeW d = 1 by unfold fadeW; simp only [hk]] at q
  (walk_at "RD")
  exact q
theorem v_fade (T : Txt w K mg t) : Virt P w K mg base CX0 1 (isW t) "fade" ["self"] (spv_fade t) := by
  refine ⟨fun C hC => ?_⟩
  obtain ⟨k, hk, rfl⟩ := hC
  match k, hk with
  | 0, _ => exact ⟨_, _, T.cl_CarWay, T.M_CarWay_fade, ok_CarWay_fade T, T.n_CarWay_fade⟩
  | 1, _ => exact ⟨_, _, T.cl_FootWay, T.M_FootWay_fade, ok_FootWay_fade T, T.n_FootWay_fade⟩
  | 2, _ => exact ⟨_, _, T.cl_TramWay, T.M_TramWay_fade, ok_TramWay_fade T, T.n_TramWay_fade⟩
end
def isEnd (row : List Nat) (t : Nat) : Bool := decide (t + 1 = row.length) || decide (row.getD (t + 1) 9 ≠ row.getD t 9)
def isStart (row : List Nat) (p : Nat) : Bool := decide (p = 0) || decide (row.getD p 9 ≠ row.getD (p - 1) 9)
def bnd (row : List Nat) (i : Nat) : List Nat := 0 :: ((List.range i).filter (isEnd row)).map (· + 1)
theorem bnd_succ (row : List Nat) (i : Nat) : bnd row (i + 1) = if isEnd row i then bnd row i ++ [i + 1] else bnd row i := by
  unfold bnd
  rw [List.range_succ, List.filter_append]
  by_cases c : isEnd row i = true
  · rw [if_pos c, List.filter_cons, if_pos c]; simp
  · rw [if_neg c, List.filter_cons, if_neg c]; simp
theorem starts_bnd (row : List Nat) : (List.range row.length).filter (isStart row) ++ [row.length] = bnd row row.length := by
  unfold bnd
  cases h : row.length with
  | zero => rfl
  | succ m =>
    have e1 : (List.range (m + 1)).filter (isStart row) = 0 :: ((List.range m).filter fun p => decide (row.getD (p + 1) 9 ≠ row.getD p 9)).map (· + 1) := by
      rw [List.range_succ_eq_map, List.filter_cons, if_pos (by simp [isStart]), List.filter_map]
      congr 2
    have e2 : (List.range (m + 1)).filter (isEnd row) = ((List.range m).filter fun p => decide (row.getD (p + 1) 9 ≠ row.getD p 9)) ++ [m] := by
      rw [List.range_succ, List.filter_append, List.filter_cons, if_pos (by simp [isEnd, h])]
      congr 1
      apply List.filter_congr
      intro p hp
      have := List.mem_range.mp hp
      unfold isEnd
      rw [h, decide_eq_false (by omega : ¬ p + 1 = m + 1), Bool.false_or]
    rw [e1, e2]
    simp
def beg (row : List Nat) : Nat → Nat
  | 0 => 0
  | i + 1 => if isEnd row i then i + 1 else beg row i
theorem beg_last (row : List Nat) : ∀ i, (bnd row i).getLast? = some (beg row i)
  | 0 => rfl
  | i + 1 => by
    rw [bnd_succ]
    unfold beg
    by_cases c : isEnd row i = true
    · rw [if_pos c, if_pos c]; simp
    · rw [if_neg c, if_neg c]; exact beg_last row i
theorem beg_le (row : List Nat) : ∀ i, beg row i ≤ i
  | 0 => Nat.le_refl _
  | i + 1 => by
    unfold beg
    split
    · exact Nat.le_refl _
    · exact Nat.le_succ_of_le (beg_le row i)
theorem beg_same (row : List Nat) : ∀ i, i < row.length → ∀ j, beg row i ≤ j → j ≤ i → row.getD j 9 = row.getD (beg row i) 9
  | 0, _, j, _, h => by have : j = 0 := by omega
                        subst this; rfl
  | i + 1, hi, j, h1, h2 => by
    unfold beg at h1 ⊢
    by_cases c : isEnd row i = true
    · rw [if_pos c] at h1 ⊢
      have : j = i + 1 := by omega
      rw [this]
    · rw [if_neg c] at h1 ⊢
      by_cases hj : j = i + 1
      · subst hj
        have c' : row.getD (i + 1) 9 = row.getD i 9 := by
          unfold isEnd at c
          simp only [Bool.or_eq_true, decide_eq_true_eq, not_or, ne_eq, Decidable.not_not] at c
          exact c.2
        rw [c']
        exact beg_same row i (by omega) i (beg_le row i) (Nat.le_refl _)
      · exact beg_same row i (by omega) j h1 (by omega)
def fnd (row : List Nat) : List Nat → List (Nat × Nat)
  | b :: e :: r => (row.getD b 9, e - b) :: fnd row (e :: r)
  | _ => []
theorem fnd_snoc (row : List Nat) (e : Nat) : ∀ (B : List Nat) (b : Nat), B.getLast? = some b → fnd row (B ++ [e]) = fnd row B ++ [(row.getD b 9, e - b)]
  | [], b, h => by cases h
  | [a], b, h => by simp at h; subst h; rfl
  | a :: a' :: r, b, h => by
    have h' : (a' :: r).getLast? = some b := by simpa using h
    show (row.getD a 9, a' - a) :: fnd row ((a' :: r) ++ [e]) = _
    rw [fnd_snoc row e (a' :: r) b h']
    rfl
theorem fnd_len (row : List Nat) : ∀ B : List Nat, (fnd row B).length = B.length - 1
  | [] => rfl
  | [a] => rfl
  | a :: a' :: r => by
    show (fnd row (a' :: r)).length + 1 = _
    rw [fnd_len row (a' :: r)]; simp
theorem fnd_at (row : List Nat) : ∀ (B : List Nat) (k b e : Nat), B[k]? = some b → B[k + 1]? = some e → (fnd row B)[k]? = some (row.getD b 9, e - b)
  | [], k, b, e, h, _ => by simp at h
  | [a], k, b, e, h, h2 => by simp at h2
  | a :: a' :: r, 0, b, e, h, h2 => by
    simp at h h2
    subst h h2
    rfl
  | a :: a' :: r, k + 1, b, e, h, h2 => by
    show (fnd row (a' :: r))[k]? = _
    exact fnd_at row (a' :: r) k b e (by simpa using h) (by simpa using h2)
/-- neighbours among the bounds -/
theorem bnd_ok (row : List Nat) : ∀ i, i ≤ row.length → ∀ k b e, (bnd row i)[k]? = some b → (bnd row i)[k + 1]? = some e → b < e ∧ e ≤ i ∧ row.getD (e - 1) 9 = row.getD b 9
  | 0, _, k, b, e, _, h2 => by simp [bnd] at h2
  | i + 1, hi, k, b, e, h1, h2 => by
    rw [bnd_succ] at h1 h2
    by_cases c : isEnd row i = true
    · rw [if_pos c] at h1 h2
      by_cases hk : k + 1 < (bnd row i).length
      · rw [List.getElem?_append_left (by omega)] at h1
        rw [List.getElem?_append_left hk] at h2
        obtain ⟨z1, z2, z3⟩ := bnd_ok row i (by omega) k b e h1 h2
        exact ⟨z1, by omega, z3⟩
      · rw [List.getElem?_append_right (by omega)] at h2
        have hk2 : k + 1 - (bnd row i).length = 0 := by
          cases hh : k + 1 - (bnd row i).length with
          | zero => rfl
          | succ n => rw [hh] at h2; simp at h2
        rw [hk2] at h2
        have he : i + 1 = e := by simpa using h2
        subst he
        have hl : k = (bnd row i).length - 1 := by omega
        rw [List.getElem?_append_left (by have : (bnd row i).length ≠ 0 := by simp [bnd]
                                          omega)] at h1
        have hb := beg_last row i
        rw [List.getLast?_eq_getElem?, ← hl, h1] at hb
        have hb' := Option.some.inj hb
        have := beg_le row i
        refine ⟨by omega, Nat.le_refl _, ?_⟩
        rw [hb']
        exact beg_same row i (by omega) i (beg_le row i) (Nat.le_refl _)
    · rw [if_neg c] at h1 h2
      obtain ⟨z1, z2, z3⟩ := bnd_ok row i (by omega) k b e h1 h2
      exact ⟨z1, by omega, z3⟩
def lw (rd fd ls : Int) (c : Nat) (n : Int) (whole : Bool) : Bool :=
  if c = 1 then decide (n = rd) || (decide (n < rd) && !whole) else if c = 3 then decide (n = fd) || (decide (n < fd) && !whole) else if c = 2 then decide (ls ≤ n) || !whole else true
def into (rd : Int) : Nat := if rd = 0 then 2 else 1
def fol (rd fd : Int) (c c' : Nat) : Bool := if c = 0 then decide (c' = into rd) else if c = 1 then decide (c' = 2) else if c = 2 then decide (c' = if fd = 0 then 0 else 3) else decide (c' = 0) || decide (c' = into rd)
def lwK (rd fd ls : Int) (f : List (Nat × Nat)) (k : Nat) : Bool := lw rd fd ls (f.getD k (0, 0)).1 ((f.getD k (0, 0)).2 : Nat) (decide (0 < k) && decide (k + 1 < f.length))
def folK (rd fd : Int) (f : List (Nat × Nat)) (k : Nat) : Bool := fol rd fd (f.getD k (0, 0)).1 (f.getD (k + 1) (0, 0)).1
def inO (rd fd ls : Int) (f : List (Nat × Nat)) : Bool := (List.range f.length).all (lwK rd fd ls f) && (List.range (f.length - 1)).all (folK rd fd f)
def dueC (rd fd ls : Int) (first outer : Bool) (p c : Nat) (n : Int) : Bool :=
  (first || fol rd fd p c) && !(decide (c = 2) && decide (n < ls) && !outer) && !(decide (c = 1 ∨ c = 3) && (decide ((if c = 1 then rd else fd) < n) || (decide (n < (if c = 1 then rd else fd)) && !outer)))
def dueK (rd fd ls : Int) (row B : List Nat) (k : Nat) : Bool := dueC rd fd ls (decide (k = 0)) (decide (k = 0) || decide (k + 2 = B.length)) (row.getD (B.getD k 0 - 1) 9) (row.getD (B.getD k 0) 9) ((B.getD (k + 1) 0 : Nat) - (B.getD k 0 : Nat))
theorem dueC_eq (rd fd ls : Int) (first outer : Bool) (p c : Nat) (n : Int) : dueC rd fd ls first outer p c n = ((first || fol rd fd p c) && lw rd fd ls c n (!outer)) := by
  unfold dueC lw
  rw [Bool.and_assoc]
  congr 1
  by_cases h1 : c = 1
  · subst h1
    rw [if_pos rfl, if_pos rfl, decide_eq_false (by decide), Bool.false_and, Bool.false_and, Bool.not_false, Bool.true_and, decide_eq_true (by decide), Bool.true_and, Bool.not_not]
    cases outer <;> (rw [Bool.eq_iff_iff]; simp; omega)
  · by_cases h3 : c = 3
    · subst h3
      rw [if_neg (by decide), if_neg (by decide), if_pos rfl, decide_eq_false (by decide), Bool.false_and, Bool.false_and, Bool.not_false, Bool.true_and, decide_eq_true (by decide), Bool.true_and, Bool.not_not]
      cases outer <;> (rw [Bool.eq_iff_iff]; simp; omega)
    · by_cases h2 : c = 2
      · subst h2
        rw [if_neg h1, if_neg h1, if_neg h3, if_pos rfl, decide_eq_true rfl, Bool.true_and, Bool.not_not, decide_eq_false (show ¬ (2 = 1 ∨ 2 = 3) by decide), Bool.false_and, Bool.not_false, Bool.and_true]
        cases outer <;> (rw [Bool.eq_iff_iff]; simp)
      · rw [if_neg h1, if_neg h1, if_neg h3, if_neg h2, decide_eq_false h2, Bool.false_and, Bool.false_and, decide_eq_false (by omega), Bool.false_and]; rfl
theorem order_eq {rd fd ls : Int} {row B : List Nat} {f : List (Nat × Nat)} (hl : f.length = B.length - 1) (hB : B.length ≠ 0)
    (hf : ∀ k, k < f.length → f.getD k (0, 0) = (row.getD (B.getD k 0) 9, B.getD (k + 1) 0 - B.getD k 0) ∧ B.getD k 0 ≤ B.getD (k + 1) 0 ∧ row.getD (B.getD (k + 1) 0 - 1) 9 = row.getD (B.getD k 0) 9) :
    inO rd fd ls f = (List.range (B.length - 1)).all (dueK rd fd ls row B) := by
  have key : ∀ k, k < f.length → dueK rd fd ls row B k = ((decide (k = 0) || folK rd fd f (k - 1)) && lwK rd fd ls f k) := by
    intro k hk
    obtain ⟨e1, e2, e3⟩ := hf k hk
    unfold dueK
    rw [dueC_eq]
    congr 1
    · cases k with
      | zero => rfl
      | succ k =>
        obtain ⟨g1, g2, g3⟩ := hf k (by omega)
        rw [decide_eq_false (by omega), Bool.false_or, Bool.false_or]
        unfold folK
        rw [Nat.add_sub_cancel, e1, g1, g3]
    · unfold lwK
      rw [e1]
      congr 1
      · omega
      · rw [Bool.eq_iff_iff]; simp; omega
  rw [← hl]
  unfold inO
  rw [Bool.eq_iff_iff, Bool.and_eq_true, List.all_eq_true, List.all_eq_true, List.all_eq_true]
  constructor
  · rintro ⟨h1, h2⟩ k hk
    have hk' := List.mem_range.mp hk
    rw [key k hk', Bool.and_eq_true]
    refine ⟨?_, h1 k hk⟩
    cases k with
    | zero => rfl
    | succ k => rw [Bool.or_eq_true]; exact .inr (h2 k (List.mem_range.mpr (by omega)))
  · intro h
    refine ⟨fun k hk => ?_, fun k hk => ?_⟩
    · have := h k hk
      rw [key k (List.mem_range.mp hk), Bool.and_eq_true] at this
      exact this.2
    · have hk' := List.mem_range.mp hk
      have := h (k + 1) (List.mem_range.mpr (by omega))
      rw [key (k + 1) (by omega), Bool.and_eq_true, decide_eq_false (by omega), Bool.false_or, Nat.add_sub_cancel] at this
      exact this.1
/-! ### colours -/
def col : Nat → Str
  | 0 => Str.ofString "stop"
  | 1 => Str.ofString "ready"
  | 2 => Str.ofString "free"
  | _ => Str.ofString "fade"
theorem col_all : ∀ c, c < 4 → ∀ d, d < 4 → decide (col c = col d) = decide (c = d) := by decide +kernel
def colV (row : List Nat) : List V := row.map fun c => V.str (col c)
theorem colV_len (row : List Nat) : (colV row).length = row.length := by unfold colV; rw [List.length_map]
theorem colV_at {row : List Nat} {i : Nat} (h : i < row.length) : (colV row)[i]? = some (.str (col (row.getD i 9))) := by
  unfold colV
  rw [List.getElem?_map, List.getD_eq_getElem?_getD, List.getElem?_eq_getElem h]; rfl
theorem map_at {α β : Type} {f : α → β} {l : List α} {i : Nat} {y : β} (h : (l.map f)[i]? = some y) : ∃ x, l[i]? = some x ∧ y = f x := by
  rw [List.getElem?_map] at h
  cases e : l[i]? with
  | none => rw [e] at h; cases h
  | some x => rw [e] at h; exact ⟨x, rfl, (Option.some.inj h).symm⟩
theorem snoc_at {α : Type} {l : List α} {a x : α} {i : Nat} (h : (l ++ [a])[i]? = some x) : (i < l.length ∧ l[i]? = some x) ∨ (i = l.length ∧ x = a) := by
  by_cases hi : i < l.length
  · rw [List.getElem?_append_left hi] at h
    exact .inl ⟨hi, h⟩
  · rw [List.getElem?_append_right (by omega)] at h
    have h0 : i - l.length = 0 := by
      cases hh : i - l.length with
      | zero => rfl
      | succ m => rw [hh] at h; simp at h
    rw [h0] at h
    exact .inr ⟨by omega, (by simpa using h : a = x).symm⟩
theorem strsV_len (ws : List Str) : (strsV ws).length = ws.length := by unfold strsV; rw [List.length_map]
theorem strsV_flat (ws : List Str) : (strsV ws).all flatV = true := by unfold strsV; simp [flatV]
theorem inV_strs (x : Str) (xs : List Str) : inV (.str x) (strsV xs) = decide (x ∈ xs) := by
  unfold inV strsV
  rw [List.any_map, Bool.eq_iff_iff]
  simp only [List.any_eq_true, Function.comp, eqV, beq_iff_eq, decide_eq_true_eq]
  constructor
  · rintro ⟨y, hy, rfl⟩; exact hy
  · intro h; exact ⟨x, h, rfl⟩
/-- a list of tuples (colour, turns) -/
def FAt (H : Hp) (q : Addr) (f : List (Nat × Nat)) : Prop := ∃ ts : List Addr, H q = some (.lst (ts.map V.ref)) ∧ ts.length = f.length ∧ ∀ (i : Nat) (a : Addr) (x : Nat × Nat), ts[i]? = some a → f[i]? = some x → H a = some (.tup [.str (col x.1), .int (x.2 : Nat)])
theorem FAt.same {H H' : Hp} {q : Addr} {f : List (Nat × Nat)} (h : FAt H q f) (s : Same H H') : FAt H' q f := by
  obtain ⟨ts, e1, e2, al⟩ := h
  exact ⟨ts, s _ _ e1, e2, fun i a x h1 h2 => s _ _ (al i a x h1 h2)⟩
theorem FAt.snoc {H : Hp} {q p : Addr} {f : List (Nat × Nat)} {x : Nat × Nat} {ts : List Addr} (e1 : H q = some (.lst (ts.map V.ref))) (e2 : ts.length = f.length)
    (al : ∀ (i : Nat) (a : Addr) (x : Nat × Nat), ts[i]? = some a → f[i]? = some x → H a = some (.tup [.str (col x.1), .int (x.2 : Nat)])) (hp : H p = none) :
    FAt (upd (upd H p (.tup [.str (col x.1), .int (x.2 : Nat)])) q (.lst (ts.map V.ref ++ [.ref p]))) q (f ++ [x]) := by
  have hpw : p ≠ q := (ne_of_none e1 hp).symm
  refine ⟨ts ++ [p], by rw [upd_same, List.map_append]; rfl, by rw [List.length_append, List.length_append, e2]; rfl, fun i a y h1 h2 => ?_⟩
  rcases snoc_at h1 with ⟨z1, z2⟩ | ⟨z1, rfl⟩
  · rcases snoc_at h2 with ⟨y1, y2⟩ | ⟨y1, _⟩
    · have := al i a y z2 y2
      rw [upd_ne (ne_of this e1 (by intro z; cases z)), upd_ne (ne_of_none this hp)]
      exact this
    · omega
  · rcases snoc_at h2 with ⟨y1, y2⟩ | ⟨y1, rfl⟩
    · omega
    · rw [upd_ne hpw, upd_same]
def sp_str (K : PySem.W.Frag) : Sp := fun vs H Q _ => ∃ p row, vs = [.ref p] ∧ SqL K H p (colV row) ∧ (∀ c ∈ row, c < 4) ∧ row.length ≤ 5000 ∧ NoT H ∧ ∀ q H', Same H H' → NoT H' → FAt H' q (fnd row (bnd row row.length)) → Q (.ref q) H'
section
variable {P : Program} {w : World} {K : PySem.W.Frag} {mg : Str → Option Value} {base : Heap} {t : Adr}
theorem ok_str (T : Txt w K mg t) : FnOk P w K mg base CX0 1 t.a_stretches t.d_stretches ["colours"] (sp_str K) := by
  refine T.F_stretches.ok sc_stretches (fun vs H Q E h => ?_) (fun cdv A outer s H vs Q E hr h => ?_)
  · obtain ⟨p, row, rfl, _⟩ := h; rfl
  obtain ⟨p, row, rfl, hp, h4, hz, nt, q⟩ := h
  refine ⟨_, (pss_cons (ps_set (i := 1) sc_stretches.nd rfl (Or.inl rfl) (pe_lst pa_nil))
      (pss_cons (ps_set (i := 2) sc_stretches.nd rfl (Or.inl rfl) pe_int)
      (pss_cons (ps_for PassesOwn.never rfl (pi_enum rfl T.b_enumerate (pa_cons (pv 0) pa_nil)) (pg_tupK (K := K) (n := 2) rfl rfl (pgs_cons (pg_name (i := 3) sc_stretches.nd rfl (Or.inl rfl) (.inl rfl)) (pgs_cons (pg_name (i := 4) sc_stretches.nd rfl (Or.inl rfl) (.inl rfl)) pgs_nil))) (pss_one (ps_if (PW.pt (pw_or (pt_cmpR op_eq (pe_op op_add (pv 3) pe_int) (pe_callB call_len_seq rfl T.b_len boot_b_len (pa_cons (pv 0) pa_nil)) (nomark _)) (pw_or1 (pt_cmpR op_ne (pe_ix ix_list (pv 0) (pe_op op_add (pv 3) pe_int) (fun _ _ => rfl)) (pv 4) (nomark _))))) (pss_cons (ps_expr (pe_bm PySem.F.plainAttrs_list PySem.F.slot_list_append PySem.F.type_list_append mt_append (pv 1) (pa_cons (pe_tup (pa_cons (pv 4) (pa_cons (pe_op op_sub (pe_op op_add (pv 3) pe_int) (pv 2)) pa_nil))) pa_nil)))
      (pss_one (ps_set (i := 2) sc_stretches.nd rfl (Or.inl rfl) (pe_op op_add (pv 3) pe_int)))) pss_nil)))
      (pss_one (ps_ret (pv 1)))))), ?_⟩
  have hget : ∀ i, i < row.length → row.getD i 9 < 4 := fun i hi => by
    rw [List.getD_eq_getElem?_getD, List.getElem?_eq_getElem hi]
    exact h4 _ (List.getElem_mem hi)
  (walk_at "RD")
  refine ⟨Nat.zero_le _, fun fl hfl => ?_⟩
  have s0 : Same H (upd H fl (.lst [])) := same_new hfl
  refine ⟨⟨_, hp.same s0⟩, ?_⟩
  refine ForW.enum (xs := colV row) (fun i σ H' => Same H H' ∧ NoT H' ∧ FAt H' fl (fnd row (bnd row i)) ∧ ∃ x1 x2, σ = [some (.ref p), some (.ref fl), some (.int (beg row i : Nat)), x1, x2]) ?_ ?_ ?_ ?_
  · exact ⟨s0, nt.upd, ⟨[], upd_same, rfl, fun i a x h => by simp at h⟩, none, none, rfl⟩
  · rintro i σ H' hi ⟨sm, _⟩
    exact hp.same sm
  · rintro i v σ H' p2 hv ⟨sm, nt', ⟨ts, f1, f2, fa⟩, x1, x2, rfl⟩ hp2
    have hi : i < row.length := by
      have := (List.getElem?_eq_some_iff.mp hv).1
      rwa [colV_len] at this
    rw [colV_at hi] at hv
    have ev := (Option.some.inj hv).symm
    subst ev
    have s2 : Same H' (upd H' p2 (.tup [.int i, .str (col (row.getD i 9))])) := same_new hp2
    refine gTup2_new ?_
    (walk_at "RD")
    refine tIfS_by (isEnd row i) (fun Q hQ => ?_) (fun c => ?_) (fun c => ?_)
    · (walk_at "RD")
      refine ⟨_, .inl (hp.same (sm.trans s2)), ?_⟩
      rw [colV_len]
      unfold isEnd at hQ
      by_cases c1 : i + 1 = row.length
      · rw [decide_eq_true (show (i : Int) + 1 = (row.length : Int) by omega)]
        rw [decide_eq_true c1, Bool.true_or] at hQ
        exact hQ
      · rw [decide_eq_false (show ¬ (i : Int) + 1 = (row.length : Int) by omega)]
        rw [decide_eq_false c1, Bool.false_or] at hQ
        have hat : atI (colV row) ((i : Int) + 1) = some (.str (col (row.getD (i + 1) 9))) := atI_nat (j := i + 1) (colV_at (by omega))
        rw [if_neg (by decide)]
        refine ⟨_, hp.same (sm.trans s2), _, hat, rfl, ?_⟩
        (walk_at "RD")
        rw [col_all _ (hget _ (by omega)) _ (hget _ hi)]
        rw [decide_not] at hQ
        exact hQ
    · (walk_at "RD")
      have hle := beg_le row i
      have e1 : (i : Int) + 1 - (beg row i : Nat) = ((i + 1 - beg row i : Nat) : Int) := by omega
      rw [e1]
      have ec : row.getD i 9 = row.getD (beg row i) 9 := beg_same row i hi i hle (Nat.le_refl _)
      have eb : bnd row (i + 1) = bnd row i ++ [i + 1] := by rw [bnd_succ, if_pos c]
      have eg : beg row (i + 1) = i + 1 := by unfold beg; rw [if_pos c]
      have ef : fnd row (bnd row (i + 1)) = fnd row (bnd row i) ++ [(row.getD i 9, i + 1 - beg row i)] := by rw [eb, fnd_snoc row _ _ _ (beg_last row i), ec]
      have hfl2 : fl ≠ p2 := ne_of_none f1 hp2
      refine ⟨.inl ⟨_, SqL.of (s2 _ _ f1)⟩, by decide, fun p3 hp3 => ⟨_, (same_new hp3) _ _ (s2 _ _ f1), ?_, ?_, ((nt'.upd).upd).upd, ?_, by rw [eg]; omega, _, rfl⟩⟩
      · have := fnd_len row (bnd row i)
        have hb : (bnd row i).length ≤ i + 1 := by
          unfold bnd
          rw [List.length_cons, List.length_map]
          have := List.length_filter_le (isEnd row) (List.range i)
          rw [List.length_range] at this; omega
        rw [List.length_map]
        exact Nat.lt_of_le_of_lt (show ts.length ≤ 5000 by omega) (by decide)
      · exact ((sm.trans s2).trans (same_new hp3)).updN hfl
      · rw [ef]
        exact FAt.snoc (x := (row.getD i 9, i + 1 - beg row i)) (s2 _ _ f1) f2 (fun j a x h1 h2 => s2 _ _ (fa j a x h1 h2)) hp3
    · (walk_at "RD")
      have eb : bnd row (i + 1) = bnd row i := by rw [bnd_succ, if_neg (by rw [c]; decide)]
      have eg : beg row (i + 1) = beg row i := by show (if isEnd row i = true then i + 1 else beg row i) = _; rw [if_neg (by rw [c]; decide)]
      rw [eb, eg]
      exact ⟨sm.trans s2, nt'.upd, FAt.same ⟨ts, f1, f2, fa⟩ s2, rfl, _, rfl⟩
  · rintro σ H' ⟨sm, nt', F, x1, x2, rfl⟩
    (walk_at "RD")
    rw [colV_len] at F
    exact q fl H' sm nt' F
end
end My
namespace My
open PySem L2
def mf (d : WD) (c : Nat) : List Str := if c = 0 then [col (into (readyW d))] else if c = 1 then [col 2] else if c = 2 then [col (if fadeW d = 0 then 0 else 3)] else [col 0, col (into (readyW d))]
def sp_may (t : Adr) : Sp := fun vs H Q _ => ∃ a d c, vs = [.ref a, .str (col c)] ∧ c < 4 ∧ WayAt t H a d ∧ NoT H ∧ ∀ p, H p = none → ∀ H', Same H H' → NoT H' → H' p = some (.lst (strsV (mf d c))) → Q (.ref p) H'
def sp_last (t : Adr) : Sp := fun vs H Q _ => ∃ a d c n b, vs = [.ref a, .str (col c), .int n, .bl b] ∧ c < 4 ∧ WayAt t H a d ∧ Q (.bl (lw (readyW d) (fadeW d) d.least c n b)) H
section
variable {P : Program} {w : World} {K : PySem.W.Frag} {mg : Str → Option Value} {base : Heap} {t : Adr}
theorem ok_may (T : Txt w K mg t) : FnOk P w K mg base CX0 2 t.a_may_follow t.d_may_follow ["way", "colour"] (sp_may t) := by
  have V_Way_ready : Virt P w K mg base CX0 1 (isW t) "ready" ["self"] (spv_ready t) := v_ready T
  have V_Way_fade : Virt P w K mg base CX0 1 (isW t) "fade" ["self"] (spv_fade t) := v_fade T
  refine T.F_may_follow.ok sc_may_follow (fun vs H Q E h => ?_) (fun cdv A outer s H vs Q E hr h => ?_)
  · obtain ⟨a, d, c, rfl, _⟩ := h; rfl
  obtain ⟨a, d, c, rfl, hc, W, nt, q⟩ := h
  refine ⟨_, (pss_cons (ps_set (i := 2) sc_may_follow.nd rfl (Or.inl rfl) (pe_ifExp (pt_cmpR op_eq (pe_methV0 (pv 0) V_Way_ready hr pass0) pe_int (nomark _)) pe_str pe_str))
      (pss_cons (ps_if (pt_cmpR op_eq (pv 1) pe_str (nomark _)) (pss_one (ps_ret (pe_lst (pa_cons (pv 2) pa_nil)))) pss_nil)
      (pss_cons (ps_if (pt_cmpR op_eq (pv 1) pe_str (nomark _)) (pss_one (ps_ret (pe_lst (pa_cons pe_str pa_nil)))) pss_nil)
      (pss_cons (ps_if (pt_cmpR op_eq (pv 1) pe_str (nomark _)) (pss_one (ps_ret (pe_lst (pa_cons (pe_ifExp (pt_cmpR op_eq (pe_methV0 (pv 0) V_Way_fade hr pass0) pe_int (nomark _)) pe_str pe_str) pa_nil)))) pss_nil)
      (pss_one (ps_ret (pe_lst (pa_cons pe_str (pa_cons (pv 2) pa_nil))))))))), ?_⟩
  obtain ⟨hk, dx, e⟩ := id W
  have nm : ∀ {f : Str}, wKeys.contains f = false → (wFlds d).lookup f = none := fun h => lookup_no wKeys (wFlds_keys _) h
  have dec : ∀ k, k < 4 → decide (col c = col k) = decide (c = k) := fun k h => col_all c hc k h
  refine tAsg_by (V.str (col (into (readyW d)))) (fun Q hQ => ?_) ?_
  · (walk_at "RD")
    refine ⟨_, dx, _, e, ⟨d.k, hk, rfl⟩, nm (by decide +kernel), ⟨a, d, rfl, W, rfl, rfl, ?_⟩⟩
    (walk_at "RD")
    unfold into at hQ
    by_cases c0 : readyW d = 0
    · rw [if_pos (decide_eq_true c0)]
      rw [if_pos c0] at hQ
      exact hQ
    · rw [if_neg (by simpa using c0)]
      rw [if_neg c0] at hQ
      exact hQ
  generalize hin : col (into (readyW d)) = io
  have fin : ∀ l : List Str, mf d c = l → ∀ p, H p = none → Q (.ref p) (upd H p (.lst (strsV l))) := fun l hl p hp => by
    refine q p hp _ (same_new hp) nt.upd ?_
    rw [upd_same, hl]
  (walk_at "RD")
  refine tIfS_by (decide (c = 0)) (fun Q hQ => ?_) (fun c0 => ?_) (fun c0 => ?_)
  · (walk_at "RD")
    rw [show Str.ofString "stop" = col 0 from rfl, dec 0 (by decide)]
    exact hQ
  · (walk_at "RD")
    exact ⟨by decide, fin [io] (by unfold mf; rw [if_pos (of_decide_eq_true c0), hin])⟩
  · have c0' := of_decide_eq_false c0
    (walk_at "RD")
    refine tIfS_by (decide (c = 1)) (fun Q hQ => ?_) (fun c1 => ?_) (fun c1 => ?_)
    · (walk_at "RD")
      rw [show Str.ofString "ready" = col 1 from rfl, dec 1 (by decide)]
      exact hQ
    · (walk_at "RD")
      exact ⟨by decide, fin [col 2] (by unfold mf; rw [if_neg c0', if_pos (of_decide_eq_true c1)])⟩
    · have c1' := of_decide_eq_false c1
      (walk_at "RD")
      refine tIfS_by (decide (c = 2)) (fun Q hQ => ?_) (fun c2 => ?_) (fun c2 => ?_)
      · (walk_at "RD")
        rw [show Str.ofString "free" = col 2 from rfl, dec 2 (by decide)]
        exact hQ
      · (walk_at "RD")
        refine ⟨_, dx, _, e, ⟨d.k, hk, rfl⟩, nm (by decide +kernel), ⟨a, d, rfl, W, rfl, rfl, ?_⟩⟩
        (walk_at "RD")
        by_cases f0 : fadeW d = 0
        · rw [if_pos (decide_eq_true f0)]
          exact ⟨by decide, fin [col 0] (by unfold mf; rw [if_neg c0', if_neg c1', if_pos (of_decide_eq_true c2), if_pos f0])⟩
        · rw [if_neg (by simpa using f0)]
          exact ⟨by decide, fin [col 3] (by unfold mf; rw [if_neg c0', if_neg c1', if_pos (of_decide_eq_true c2), if_neg f0])⟩
      · have c2' := of_decide_eq_false c2
        (walk_at "RD")
        exact ⟨by decide, fin [col 0, io] (by unfold mf; rw [if_neg c0', if_neg c1', if_neg c2', hin])⟩
theorem ok_last (T : Txt w K mg t) : FnOk P w K mg base CX0 2 t.a_last_well t.d_last_well ["way", "colour", "turns", "is_whole"] (sp_last t) := by
  have V_Way_ready : Virt P w K mg base CX0 1 (isW t) "ready" ["self"] (spv_ready t) := v_ready T
  have V_Way_fade : Virt P w K mg base CX0 1 (isW t) "fade" ["self"] (spv_fade t) := v_fade T
  refine T.F_last_well.ok sc_last_well (fun vs H Q E h => ?_) (fun cdv A outer s H vs Q E hr h => ?_)
  · obtain ⟨a, d, c, n, b, rfl, _⟩ := h; rfl
  obtain ⟨a, d, c, n, b, rfl, hc, W, q⟩ := h
  refine ⟨_, (pss_cons (ps_if (pt_cmpR op_eq (pv 1) pe_str (nomark _)) (pss_one (ps_ret (pe_or (pe_cmpR op_eq (pv 2) (pe_methV0 (pv 0) V_Way_ready hr pass0) (nomark _)) (pe_one (pe_and (pe_cmpR op_lt (pv 2) (pe_methV0 (pv 0) V_Way_ready hr pass0) (nomark _)) (pe_one (pe_not (pv 3)))))))) pss_nil)
      (pss_cons (ps_if (pt_cmpR op_eq (pv 1) pe_str (nomark _)) (pss_one (ps_ret (pe_or (pe_cmpR op_eq (pv 2) (pe_methV0 (pv 0) V_Way_fade hr pass0) (nomark _)) (pe_one (pe_and (pe_cmpR op_lt (pv 2) (pe_methV0 (pv 0) V_Way_fade hr pass0) (nomark _)) (pe_one (pe_not (pv 3)))))))) pss_nil)
      (pss_cons (ps_if (pt_cmpR op_eq (pv 1) pe_str (nomark _)) (pss_one (ps_ret (pe_or (pe_cmpR op_ge (pv 2) (pe_fld (pv 0) rfl) (nomark _)) (pe_one (pe_not (pv 3)))))) pss_nil)
      (pss_one (ps_ret pe_bl))))), ?_⟩
  obtain ⟨hk, dx, e⟩ := id W
  have nm : ∀ {f : Str}, wKeys.contains f = false → (wFlds d).lookup f = none := fun h => lookup_no wKeys (wFlds_keys _) h
  have dec : ∀ k, k < 4 → decide (col c = col k) = decide (c = k) := fun k h => col_all c hc k h
  (walk_at "RD")
  refine tIfS_by (decide (c = 1)) (fun Q hQ => ?_) (fun c1 => ?_) (fun c1 => ?_)
  · (walk_at "RD")
    rw [show Str.ofString "ready" = col 1 from rfl, dec 1 (by decide)]
    exact hQ
  · (walk_at "RD")
    unfold lw at q
    rw [if_pos (of_decide_eq_true c1)] at q
    refine ⟨_, dx, _, e, ⟨d.k, hk, rfl⟩, nm (by decide +kernel), ⟨a, d, rfl, W, rfl, rfl, ?_⟩⟩
    (walk_at "RD")
    by_cases n1 : n = readyW d
    · rw [if_pos (decide_eq_true n1)]
      rw [decide_eq_true n1, Bool.true_or] at q
      exact q
    · rw [if_neg (by simpa using n1)]
      rw [decide_eq_false n1, Bool.false_or] at q
      refine ⟨_, dx, _, e, ⟨d.k, hk, rfl⟩, nm (by decide +kernel), ⟨a, d, rfl, W, rfl, _, rfl, ?_⟩⟩
      by_cases n2 : n < readyW d
      · rw [if_pos (decide_eq_true n2)]
        rw [decide_eq_true n2, Bool.true_and] at q
        exact q
      · rw [if_neg (by simpa using n2)]
        rw [decide_eq_false n2, Bool.false_and] at q
        exact q
  · have c1' := of_decide_eq_false c1
    (walk_at "RD")
    refine tIfS_by (decide (c = 3)) (fun Q hQ => ?_) (fun c3 => ?_) (fun c3 => ?_)
    · (walk_at "RD")
      rw [show Str.ofString "fade" = col 3 from rfl, dec 3 (by decide)]
      exact hQ
    · (walk_at "RD")
      unfold lw at q
      rw [if_neg c1', if_pos (of_decide_eq_true c3)] at q
      refine ⟨_, dx, _, e, ⟨d.k, hk, rfl⟩, nm (by decide +kernel), ⟨a, d, rfl, W, rfl, rfl, ?_⟩⟩
      (walk_at "RD")
      by_cases n1 : n = fadeW d
      · rw [if_pos (decide_eq_true n1)]
        rw [decide_eq_true n1, Bool.true_or] at q
        exact q
      · rw [if_neg (by simpa using n1)]
        rw [decide_eq_false n1, Bool.false_or] at q
        refine ⟨_, dx, _, e, ⟨d.k, hk, rfl⟩, nm (by decide +kernel), ⟨a, d, rfl, W, rfl, _, rfl, ?_⟩⟩
        by_cases n2 : n < fadeW d
        · rw [if_pos (decide_eq_true n2)]
          rw [decide_eq_true n2, Bool.true_and] at q
          exact q
        · rw [if_neg (by simpa using n2)]
          rw [decide_eq_false n2, Bool.false_and] at q
          exact q
    · have c3' := of_decide_eq_false c3
      (walk_at "RD")
      refine tIfS_by (decide (c = 2)) (fun Q hQ => ?_) (fun c2 => ?_) (fun c2 => ?_)
      · (walk_at "RD")
        rw [show Str.ofString "free" = col 2 from rfl, dec 2 (by decide)]
        exact hQ
      · (walk_at "RD")
        unfold lw at q
        rw [if_neg c1', if_neg c3', if_pos (of_decide_eq_true c2)] at q
        refine ⟨_, W.f_least T, _, rfl, ?_⟩
        by_cases n1 : d.least ≤ n
        · rw [if_pos (decide_eq_true n1)]
          rw [decide_eq_true n1, Bool.true_or] at q
          exact q
        · rw [if_neg (by simpa using n1)]
          rw [decide_eq_false n1, Bool.false_or] at q
          exact q
      · (walk_at "RD")
        unfold lw at q
        rw [if_neg c1', if_neg c3', if_neg (of_decide_eq_false c2)] at q
        exact q
end
end My
namespace My
open PySem L2
theorem mf_fol {d : WD} {c c' : Nat} (hc : c < 4) (hc' : c' < 4) : decide (col c' ∈ mf d c) = fol (readyW d) (fadeW d) c c' := by
  have hi : into (readyW d) < 4 := by unfold into; split <;> decide
  have one : ∀ k, k < 4 → decide (col c' ∈ [col k]) = decide (c' = k) := fun k h => by
    rw [← col_all c' hc' k h, Bool.eq_iff_iff, decide_eq_true_eq, decide_eq_true_eq, List.mem_singleton]
  unfold mf fol
  by_cases h0 : c = 0
  · rw [if_pos h0, if_pos h0, one _ hi]
  · rw [if_neg h0, if_neg h0]
    by_cases h1 : c = 1
    · rw [if_pos h1, if_pos h1, one 2 (by decide)]
    · rw [if_neg h1, if_neg h1]
      by_cases h2 : c = 2
      · rw [if_pos h2, if_pos h2, one _ (by split <;> decide)]
      · rw [if_neg h2, if_neg h2, ← one 0 (by decide), ← one _ hi, Bool.eq_iff_iff, Bool.or_eq_true, decide_eq_true_eq, decide_eq_true_eq, decide_eq_true_eq, List.mem_cons, List.mem_singleton, List.mem_singleton]
def folI (d : WD) (f : List (Nat × Nat)) (i : Nat) : Bool := (List.range i).all (folK (readyW d) (fadeW d) f)
theorem allR_false {n i : Nat} {e : Nat → Bool} (hi : i < n) (h : e i = false) : (List.range n).all e = false := by
  cases z : (List.range n).all e with
  | false => rfl
  | true =>
    have := List.all_eq_true.mp z i (List.mem_range.mpr hi)
    rw [h] at this; cases this
theorem allR_succ (i : Nat) (e : Nat → Bool) : (List.range (i + 1)).all e = ((List.range i).all e && e i) := by
  rw [List.range_succ, List.all_append]; simp
def sp_fw (K : PySem.W.Frag) (t : Adr) : Sp := fun vs H Q _ => ∃ a d q f, vs = [.ref a, .ref q] ∧ WayAt t H a d ∧ FAt H q f ∧ (∀ x ∈ f, x.1 < 4) ∧ f.length ≤ 5000 ∧ NoT H ∧ Q (.bl ((List.range (f.length - 1)).all (folK (readyW d) (fadeW d) f))) H
def sp_fw' (K : PySem.W.Frag) (t : Adr) : Sp := fun vs H Q _ => ∃ a d q f, vs = [.ref a, .ref q] ∧ WayAt t H a d ∧ FAt H q f ∧ (∀ x ∈ f, x.1 < 4) ∧ f.length ≤ 5000 ∧ NoT H ∧ ∀ H', Same H H' → Q (.bl ((List.range (f.length - 1)).all (folK (readyW d) (fadeW d) f))) H'
def sp_ord (K : PySem.W.Frag) (t : Adr) : Sp := fun vs H Q _ => ∃ a d p row, vs = [.ref a, .ref p] ∧ WayAt t H a d ∧ SqL K H p (colV row) ∧ (∀ c ∈ row, c < 4) ∧ row.length ≤ 4000 ∧ NoT H ∧ Q (.bl (inO (readyW d) (fadeW d) d.least (fnd row (bnd row row.length)))) H
def sp_ord' (K : PySem.W.Frag) (t : Adr) : Sp := fun vs H Q _ => ∃ a d p row, vs = [.ref a, .ref p] ∧ WayAt t H a d ∧ SqL K H p (colV row) ∧ (∀ c ∈ row, c < 4) ∧ row.length ≤ 4000 ∧ NoT H ∧ ∀ H', Same H H' → Q (.bl (inO (readyW d) (fadeW d) d.least (fnd row (bnd row row.length)))) H'
theorem f_at {H : Hp} {f : List (Nat × Nat)} {ts : List Addr} {i : Nat} {a : Addr} (f2 : ts.length = f.length) (al : ∀ (i : Nat) (a : Addr) (x : Nat × Nat), ts[i]? = some a → f[i]? = some x → H a = some (.tup [.str (col x.1), .int (x.2 : Nat)])) (h : ts[i]? = some a) :
    i < f.length ∧ H a = some (.tup [.str (col (f.getD i (0, 0)).1), .int ((f.getD i (0, 0)).2 : Nat)]) := by
  have hi : i < f.length := by rw [← f2]; exact (List.getElem?_eq_some_iff.mp h).1
  refine ⟨hi, ?_⟩
  rw [List.getD_eq_getElem?_getD, List.getElem?_eq_getElem hi]
  exact al i a _ h (List.getElem?_eq_getElem hi)
section
variable {P : Program} {w : World} {K : PySem.W.Frag} {mg : Str → Option Value} {base : Heap} {t : Adr}
theorem ok_fw (T : Txt w K mg t) : FnOk P w K mg base CX0 3 t.a_follow_well t.d_follow_well ["way", "found"] (sp_fw K t) := by
  refine FnOk.forget (sp := sp_fw' K t) ?_ fun vs H Q E h => ?_
  · have G_may_follow : FnOk P w K mg base CX0 2 t.a_may_follow t.d_may_follow ["way", "colour"] (sp_may t) := ok_may T
    refine T.F_follow_well.ok sc_follow_well (fun vs H Q E h => ?_) (fun cdv A outer s H vs Q E hr h => ?_)
    · obtain ⟨a, d, q, f, rfl, _⟩ := h; rfl
    obtain ⟨a, d, q, f, rfl, W, ⟨ts, f1, f2, al⟩, h4, hz, nt, qq⟩ := h
    refine ⟨_, (pss_cons (ps_for PassesOwn.never rfl (pi_zip rfl T.b_zip (pa_cons (pv 1) (pa_cons (pe_slice sl_list (pv 1) (po_some pe_int) po_none) pa_nil))) (pg_tupK (K := K) (n := 2) rfl rfl (pgs_cons (pg_name (i := 2) sc_follow_well.nd rfl (Or.inl rfl) (.inl rfl)) (pgs_cons (pg_name (i := 3) sc_follow_well.nd rfl (Or.inl rfl) (.inl rfl)) pgs_nil))) (pss_one (ps_if (pt_cmpR op_notIn_seq (pe_ix ix_tup (pv 3) pe_int (fun _ _ => rfl)) (pe_call G_may_follow hr rfl T.m_may_follow T.k_may_follow T.n_may_follow .nil pass0 (pa_cons (pv 0) (pa_cons (pe_ix ix_tup (pv 2) pe_int (fun _ _ => rfl)) pa_nil))) (by with_unfolding_all rfl)) (pss_one (ps_ret pe_bl)) pss_nil)))
      (pss_one (ps_ret pe_bl))), ?_⟩
    have hg4 : ∀ i, i < f.length → (f.getD i (0, 0)).1 < 4 := fun i hi => by
      rw [List.getD_eq_getElem?_getD, List.getElem?_eq_getElem hi]
      exact h4 _ (List.getElem_mem hi)
    have hcut : cutV (ts.map V.ref) (some 1) none = (ts.drop 1).map V.ref := by
      unfold cutV
      cases ts with
      | nil => rfl
      | cons x r =>
        simp [HT.sIx]
        exact List.take_of_length_le (by rw [List.length_map]; exact Nat.le_refl _)
    (walk_at "RD")
    refine ⟨_, SqL.of f1, fun p hp => ?_⟩
    rw [hcut]
    have s0 : Same H (upd H p (.lst ((ts.drop 1).map V.ref))) := same_new hp
    refine ⟨⟨_, SqL.of (s0 _ _ f1)⟩, ⟨_, SqL.of upd_same⟩, ?_⟩
    refine ForW.zip (xs := ts.map V.ref) (ys := (ts.drop 1).map V.ref) (fun i σ H' => Same H H' ∧ NoT H' ∧ H' p = some (.lst ((ts.drop 1).map V.ref)) ∧ folI d f i = true ∧ ∃ x1 x2, σ = [some (.ref a), some (.ref q), x1, x2]) ?_ ?_ (f.length - 1) ?_ ?_ ?_
    · exact ⟨s0, nt.upd, upd_same, rfl, none, none, rfl⟩
    · rintro i σ H' hi ⟨sm, _, hp', _⟩
      exact ⟨SqL.of (sm _ _ f1), SqL.of hp'⟩
    · rw [List.length_map, List.length_map, List.length_drop, f2]; omega
    · rintro i x y σ H' p2 hx hy ⟨sm, nt', hp', hf, x1, x2, rfl⟩ hp2
      obtain ⟨b, hb, rfl⟩ := map_at hx
      obtain ⟨c, hc, rfl⟩ := map_at hy
      rw [List.getElem?_drop] at hc
      rw [Nat.add_comm] at hc
      obtain ⟨hi1, eb⟩ := f_at f2 al hb
      obtain ⟨hi2, ec⟩ := f_at f2 al hc
      have s2 : Same H' (upd H' p2 (.tup [.ref b, .ref c])) := same_new hp2
      have sm2 := sm.trans s2
      refine gTup2_new ?_
      (walk_at "RD")
      refine tIfS_any (fun b H3 => Same H H3 ∧ NoT H3 ∧ H3 p = some (.lst ((ts.drop 1).map V.ref)) ∧ b = !folK (readyW d) (fadeW d) f i) (fun Q hQ => ?_) (fun H3 ⟨sm3, nt3, hp3, hb3⟩ => ?_) (fun H3 ⟨sm3, nt3, hp3, hb3⟩ => ?_)
      · (walk_at "RD")
        have at0 : ∀ (x : Str) (n : Int), atI [V.str x, .int n] 0 = some (.str x) := fun x n => atI_nat (j := 0) rfl
        refine ⟨_, SqT.of (sm2 _ _ ec), _, at0 _ _, _, SqT.of (sm2 _ _ eb), _, at0 _ _, ⟨a, d, _, rfl, hg4 i hi1, W.same sm2, nt'.upd, fun p4 hp4 H4 s4 nt4 e4 => ?_⟩⟩
        refine ⟨p4, rfl, _, .inl (SqL.of e4), rfl, strsV_flat _, ?_⟩
        rw [inV_strs, mf_fol (hg4 i hi1) (hg4 (i + 1) hi2)]
        exact hQ _ _ ⟨sm2.trans s4, nt4, s4 _ _ (s2 _ _ hp'), rfl⟩
      · (walk_at "RD")
        have hb4 : folK (readyW d) (fadeW d) f i = false := by simpa using hb3.symm
        have := qq H3 sm3
        rw [allR_false (show i < f.length - 1 by omega) hb4] at this
        exact this
      · (walk_at "RD")
        have hb4 : folK (readyW d) (fadeW d) f i = true := by simpa using hb3.symm
        exact ⟨sm3, nt3, hp3, by unfold folI at hf ⊢; rw [allR_succ, hf, hb4]; rfl, by repeat (first | exact ⟨_, rfl⟩ | refine ⟨⟨_, rfl⟩, ?_⟩)⟩
    · rintro σ H' ⟨sm, nt', hp', hf, x1, x2, rfl⟩
      (walk_at "RD")
      have := qq H' sm
      unfold folI at hf
      rw [hf] at this
      exact this
  · obtain ⟨a, d, q, f, h1, h2, h3, h4, h5, nt, qq⟩ := h
    exact ⟨nt, a, d, q, f, h1, h2, h3, h4, h5, nt, fun H' sm => ⟨sm, qq⟩⟩
theorem ok_ord (T : Txt w K mg t) : FnOk P w K mg base CX0 4 t.a_in_order t.d_in_order ["way", "colours"] (sp_ord K t) := by
  refine FnOk.forget (sp := sp_ord' K t) ?_ fun vs H Q E h => ?_
  · have G_stretches : FnOk P w K mg base CX0 3 t.a_stretches t.d_stretches ["colours"] (sp_str K) := (ok_str T).mono (by decide)
    have G_last_well : FnOk P w K mg base CX0 3 t.a_last_well t.d_last_well ["way", "colour", "turns", "is_whole"] (sp_last t) := (ok_last T).mono (by decide)
    have G_follow_well : FnOk P w K mg base CX0 3 t.a_follow_well t.d_follow_well ["way", "found"] (sp_fw K t) := ok_fw T
    refine T.F_in_order.ok sc_in_order (fun vs H Q E h => ?_) (fun cdv A outer s H vs Q E hr h => ?_)
    · obtain ⟨a, d, p, row, rfl, _⟩ := h; rfl
    obtain ⟨a, d, p, row, rfl, W, hp, h4, hz, nt, qq⟩ := h
    refine ⟨_, (pss_cons (ps_set (i := 2) sc_in_order.nd rfl (Or.inl rfl) (pe_call G_stretches hr rfl T.m_stretches T.k_stretches T.n_stretches .nil pass0 (pa_cons (pv 1) pa_nil)))
      (pss_cons (ps_for PassesOwn.never rfl (pi_enum rfl T.b_enumerate (pa_cons (pv 2) pa_nil)) (pg_tupK (K := K) (n := 2) rfl rfl (pgs_cons (pg_name (i := 3) sc_in_order.nd rfl (Or.inl rfl) (.inl rfl)) (pgs_cons (pg_name (i := 4) sc_in_order.nd rfl (Or.inl rfl) (.inl rfl)) pgs_nil))) (pss_cons (ps_set (i := 5) sc_in_order.nd rfl (Or.inl rfl) (pe_and (pe_cmpR op_lt pe_int (pv 3) (nomark _)) (pe_one (pe_cmpR op_lt (pv 3) (pe_op op_sub (pe_callB call_len_seq rfl T.b_len boot_b_len (pa_cons (pv 2) pa_nil)) pe_int) (nomark _)))))
      (pss_one (ps_if (pt_not (pt_val (pe_call G_last_well hr rfl T.m_last_well T.k_last_well T.n_last_well .nil pass0 (pa_cons (pv 0) (pa_cons (pe_ix ix_tup (pv 4) pe_int (fun _ _ => rfl)) (pa_cons (pe_ix ix_tup (pv 4) pe_int (fun _ _ => rfl)) (pa_cons (pv 5) pa_nil))))))) (pss_one (ps_ret pe_bl)) pss_nil))))
      (pss_one (ps_ret (pe_call G_follow_well hr rfl T.m_follow_well T.k_follow_well T.n_follow_well .nil pass0 (pa_cons (pv 0) (pa_cons (pv 2) pa_nil))))))), ?_⟩
    (walk_at "RD")
    refine ⟨p, row, rfl, hp, h4, by omega, nt, fun q H1 s1 nt1 ⟨ts, f1, f2, al⟩ => ?_⟩
    generalize hf : fnd row (bnd row row.length) = f at f2 al qq
    have hfl : f.length ≤ 4000 := by
      rw [← hf, fnd_len]
      have hb : (bnd row row.length).length ≤ row.length + 1 := by
        unfold bnd
        rw [List.length_cons, List.length_map]
        have := List.length_filter_le (isEnd row) (List.range row.length)
        rw [List.length_range] at this; omega
      omega
    have hf4 : ∀ x ∈ f, x.1 < 4 := fun x hx => by
      rw [← hf] at hx
      obtain ⟨k, hk, rfl⟩ := List.getElem_of_mem hx
      rw [fnd_len] at hk
      have hb := fnd_at row (bnd row row.length) k _ _ (List.getElem?_eq_getElem (show k < (bnd row row.length).length by omega)) (List.getElem?_eq_getElem (show k + 1 < (bnd row row.length).length by omega))
      obtain ⟨z1, z2, _⟩ := bnd_ok row row.length (Nat.le_refl _) k _ _ (List.getElem?_eq_getElem (show k < (bnd row row.length).length by omega)) (List.getElem?_eq_getElem (show k + 1 < (bnd row row.length).length by omega))
      rw [List.getElem?_eq_getElem (by rw [fnd_len]; exact hk)] at hb
      rw [Option.some.inj hb]
      show row.getD _ 9 < 4
      rw [List.getD_eq_getElem?_getD, List.getElem?_eq_getElem (by omega)]
      exact h4 _ (List.getElem_mem _)
    have hg4 : ∀ i, i < f.length → (f.getD i (0, 0)).1 < 4 := fun i hi => by
      rw [List.getD_eq_getElem?_getD, List.getElem?_eq_getElem hi]
      exact hf4 _ (List.getElem_mem hi)
    (walk_at "RD")
    refine ⟨⟨_, SqL.of f1⟩, ?_⟩
    refine ForW.enum (xs := ts.map V.ref) (fun i σ H' => Same H1 H' ∧ NoT H' ∧ (List.range i).all (lwK (readyW d) (fadeW d) d.least f) = true ∧ ∃ x1 x2 x3, σ = [some (.ref a), some (.ref p), some (.ref q), x1, x2, x3]) ?_ ?_ ?_ ?_
    · exact ⟨Same.refl _, nt1, rfl, none, none, none, rfl⟩
    · rintro i σ H' hi ⟨sm, _⟩
      exact SqL.of (sm _ _ f1)
    · rintro i v σ H' p2 hv ⟨sm, nt', hl, x1, x2, x3, rfl⟩ hp2
      obtain ⟨b, hb, rfl⟩ := map_at hv
      obtain ⟨hi1, eb⟩ := f_at f2 al hb
      have s2 : Same H' (upd H' p2 (.tup [.int i, .ref b])) := same_new hp2
      have sm2 := sm.trans s2
      refine gTup2_new ?_
      refine tAsg_by (V.bl (decide (0 < i) && decide (i + 1 < f.length))) (fun Q hQ => ?_) ?_
      · (walk_at "RD")
        by_cases i0 : 0 < i
        · rw [decide_eq_true (show (0 : Int) < (i : Int) by omega)]
          refine ⟨_, .inl (SqL.of (sm2 _ _ f1)), ?_⟩
          rw [List.length_map, f2]
          rw [decide_eq_true i0, Bool.true_and] at hQ
          rw [show decide ((i : Int) < (f.length : Int) - 1) = decide (i + 1 < f.length) by rw [Bool.eq_iff_iff, decide_eq_true_eq, decide_eq_true_eq]; omega]
          exact hQ
        · rw [decide_eq_false (show ¬ (0 : Int) < (i : Int) by omega)]
          rw [decide_eq_false i0, Bool.false_and] at hQ
          exact hQ
      have at0 : ∀ (x : Str) (n : Int), atI [V.str x, .int n] 0 = some (.str x) := fun x n => atI_nat (j := 0) rfl
      have at1 : ∀ (x : Str) (n : Int), atI [V.str x, .int n] 1 = some (.int n) := fun x n => atI_nat (j := 1) rfl
      (walk_at "RD")
      refine tIfS_by (!lwK (readyW d) (fadeW d) d.least f i) (fun Q hQ => ?_) (fun c => ?_) (fun c => ?_)
      · (walk_at "RD")
        refine ⟨_, SqT.of (sm2 _ _ eb), _, at0 _ _, _, SqT.of (sm2 _ _ eb), _, at1 _ _, ⟨a, d, _, _, _, rfl, hg4 i hi1, W.same (s1.trans sm2), ?_⟩⟩
        exact ⟨_, rfl, hQ⟩
      · (walk_at "RD")
        have c' : lwK (readyW d) (fadeW d) d.least f i = false := by simpa using c
        have := qq _ (s1.trans sm2)
        unfold inO at this
        rw [allR_false hi1 c', Bool.false_and] at this
        exact this
      · (walk_at "RD")
        have c' : lwK (readyW d) (fadeW d) d.least f i = true := by simpa using c
        exact ⟨sm2, nt'.upd, by rw [allR_succ, hl, c']; rfl, by repeat (first | exact ⟨_, rfl⟩ | refine ⟨⟨_, rfl⟩, ?_⟩)⟩
    · rintro σ H' ⟨sm, nt', hl, x1, x2, x3, rfl⟩
      (walk_at "RD")
      rw [List.length_map, f2] at hl
      refine ⟨a, d, q, f, rfl, W.same (s1.trans sm), ⟨ts, sm _ _ f1, f2, fun i b x h1 h2 => sm _ _ (al i b x h1 h2)⟩, hf4, by omega, nt', ?_⟩
      have := qq H' (s1.trans sm)
      unfold inO at this
      rw [hl, Bool.true_and] at this
      exact this
  · obtain ⟨a, d, p, row, h1, h2, h3, h4, h5, nt, qq⟩ := h
    exact ⟨nt, a, d, p, row, h1, h2, h3, h4, h5, nt, fun H' sm => ⟨sm, qq⟩⟩
end
end My
namespace My
open PySem L2
def natV (l : List Nat) : List V := l.map fun (x : Nat) => V.int x
theorem natV_len (l : List Nat) : (natV l).length = l.length := by unfold natV; rw [List.length_map]
theorem natV_get {l : List Nat} {i : Nat} (h : i < l.length) : atI (natV l) (i : Nat) = some (.int (l.getD i 0 : Nat)) := atI_nat (by unfold natV; rw [List.getElem?_map, List.getD_eq_getElem?_getD, List.getElem?_eq_getElem h]; rfl)
def sp_lfol : Sp := fun vs H Q _ => ∃ p c rd fd, vs = [.str (col p), .str (col c), .int rd, .int fd] ∧ p < 4 ∧ c < 4 ∧ 0 ≤ rd ∧ 0 ≤ fd ∧ NoT H ∧ Q (.bl (fol rd fd p c)) H
def sp_lfol' : Sp := fun vs H Q _ => ∃ p c rd fd, vs = [.str (col p), .str (col c), .int rd, .int fd] ∧ p < 4 ∧ c < 4 ∧ 0 ≤ rd ∧ 0 ≤ fd ∧ ∀ H', Same H H' → Q (.bl (fol rd fd p c)) H'
def sp_lst (K : PySem.W.Frag) : Sp := fun vs H Q _ => ∃ p row, vs = [.ref p] ∧ SqL K H p (colV row) ∧ (∀ c ∈ row, c < 4) ∧ row.length ≤ 4000 ∧ ∀ q, H q = none → Q (.ref q) (upd H q (.lst (natV ((List.range row.length).filter (isStart row)))))
def sp_ldue (K : PySem.W.Frag) : Sp := fun vs H Q _ => ∃ p row rd fd ls, vs = [.ref p, .int rd, .int fd, .int ls] ∧ SqL K H p (colV row) ∧ (∀ c ∈ row, c < 4) ∧ row.length ≤ 4000 ∧ 0 ≤ rd ∧ 0 ≤ fd ∧ NoT H ∧ Q (.bl ((List.range ((bnd row row.length).length - 1)).all (dueK rd fd ls row (bnd row row.length)))) H
def sp_ldue' (K : PySem.W.Frag) : Sp := fun vs H Q _ => ∃ p row rd fd ls, vs = [.ref p, .int rd, .int fd, .int ls] ∧ SqL K H p (colV row) ∧ (∀ c ∈ row, c < 4) ∧ row.length ≤ 4000 ∧ 0 ≤ rd ∧ 0 ≤ fd ∧ NoT H ∧ ∀ H', Same H H' → Q (.bl ((List.range ((bnd row row.length).length - 1)).all (dueK rd fd ls row (bnd row row.length)))) H'
section
variable {P : Program} {w : World} {K : PySem.W.Frag} {mg : Str → Option Value} {base : Heap} {t : Adr}
theorem ok_lfol (T : Txt w K mg t) : FnOk P w K mg base CX0 1 t.a__law_follows t.d__law_follows ["_law_one", "_law_shade", "_law_ready", "_law_fade"] sp_lfol := by
  refine FnOk.forget (sp := sp_lfol') ?_ fun vs H Q E h => ?_
  · refine T.F__law_follows.ok sc__law_follows (fun vs H Q E h => ?_) (fun cdv A outer s H vs Q E hr h => ?_)
    · obtain ⟨p, c, rd, fd, rfl, _⟩ := h; rfl
    obtain ⟨p, c, rd, fd, rfl, hp, hc, hrd, hfd, q⟩ := h
    refine ⟨_, (pss_cons (ps_set (i := 4) sc__law_follows.nd rfl (Or.inl rfl) (pe_ifExp (pt_cmpR op_gt (pv 2) pe_int (nomark _)) pe_str pe_str))
      (pss_cons (ps_if (pt_cmpR op_eq (pv 0) pe_str (nomark _)) (pss_one (ps_ret (pe_cmpR op_eq (pv 1) (pv 4) (nomark _)))) pss_nil)
      (pss_cons (ps_if (pt_cmpR op_eq (pv 0) pe_str (nomark _)) (pss_one (ps_ret (pe_cmpR op_eq (pv 1) pe_str (nomark _)))) pss_nil)
      (pss_cons (ps_if (pt_cmpR op_eq (pv 0) pe_str (nomark _)) (pss_one (ps_ret (pe_cmpR op_eq (pv 1) (pe_ifExp (pt_cmpR op_gt (pv 3) pe_int (nomark _)) pe_str pe_str) (nomark _)))) pss_nil)
      (pss_one (ps_ret (pe_cmpR op_in_seq (pv 1) (pe_tup (pa_cons pe_str (pa_cons (pv 4) pa_nil))) (by with_unfolding_all rfl)))))))), ?_⟩
    have dec : ∀ k, k < 4 → decide (col p = col k) = decide (p = k) := fun k h => col_all p hp k h
    have dc : ∀ k, k < 4 → decide (col c = col k) = decide (c = k) := fun k h => col_all c hc k h
    have hi : into rd < 4 := by unfold into; split <;> decide
    have q0 := q H (Same.refl H)
    refine tAsg_by (V.str (col (into rd))) (fun Q hQ => ?_) ?_
    · (walk_at "RD")
      unfold into at hQ
      by_cases c0 : rd = 0
      · rw [if_neg (by simp; omega)]
        rw [if_pos c0] at hQ
        exact hQ
      · rw [if_pos (by simp; omega)]
        rw [if_neg c0] at hQ
        exact hQ
    generalize hin : col (into rd) = io
    (walk_at "RD")
    refine tIfS_by (decide (p = 0)) (fun Q hQ => ?_) (fun c0 => ?_) (fun c0 => ?_)
    · (walk_at "RD")
      rw [show Str.ofString "stop" = col 0 from rfl, dec 0 (by decide)]
      exact hQ
    · (walk_at "RD")
      unfold fol at q0
      rw [if_pos (of_decide_eq_true c0), ← dc _ hi, hin] at q0
      exact q0
    · have c0' := of_decide_eq_false c0
      (walk_at "RD")
      refine tIfS_by (decide (p = 1)) (fun Q hQ => ?_) (fun c1 => ?_) (fun c1 => ?_)
      · (walk_at "RD")
        rw [show Str.ofString "ready" = col 1 from rfl, dec 1 (by decide)]
        exact hQ
      · (walk_at "RD")
        unfold fol at q0
        rw [if_neg c0', if_pos (of_decide_eq_true c1), ← dc 2 (by decide)] at q0
        exact q0
      · have c1' := of_decide_eq_false c1
        (walk_at "RD")
        refine tIfS_by (decide (p = 2)) (fun Q hQ => ?_) (fun c2 => ?_) (fun c2 => ?_)
        · (walk_at "RD")
          rw [show Str.ofString "free" = col 2 from rfl, dec 2 (by decide)]
          exact hQ
        · (walk_at "RD")
          unfold fol at q0
          rw [if_neg c0', if_neg c1', if_pos (of_decide_eq_true c2)] at q0
          by_cases f0 : fd = 0
          · rw [if_neg (by simp; omega)]
            rw [if_pos f0, ← dc 0 (by decide)] at q0
            exact q0
          · rw [if_pos (by simp; omega)]
            rw [if_neg f0, ← dc 3 (by decide)] at q0
            exact q0
        · have c2' := of_decide_eq_false c2
          (walk_at "RD")
          refine ⟨by decide, fun p2 hp2 => ⟨_, .inr (SqT.of upd_same), rfl, rfl, ?_⟩⟩
          have := q _ (same_new (o := .tup [V.str (Str.ofString "stop"), V.str io]) hp2)
          unfold fol at this
          rw [if_neg c0', if_neg c1', if_neg c2', ← dc 0 (by decide), ← dc _ hi, hin] at this
          have e : inV (.str (col c)) [V.str (Str.ofString "stop"), V.str io] = (decide (col c = col 0) || decide (col c = io)) := by
            have := inV_strs (col c) [Str.ofString "stop", io]
            unfold strsV at this
            rw [show [V.str (Str.ofString "stop"), V.str io] = List.map V.str [Str.ofString "stop", io] from rfl, this, Bool.eq_iff_iff, Bool.or_eq_true, decide_eq_true_eq, decide_eq_true_eq, decide_eq_true_eq, List.mem_cons, List.mem_singleton]
            rfl
          rw [e]
          exact this
  · obtain ⟨p, c, rd, fd, h1, h2, h3, h4, h5, nt, q⟩ := h
    exact ⟨nt, p, c, rd, fd, h1, h2, h3, h4, h5, fun H' sm => ⟨sm, q⟩⟩
theorem ok_lst (T : Txt w K mg t) : FnOk P w K mg base CX0 1 t.a__law_starts t.d__law_starts ["_law_row_here"] (sp_lst K) := by
  refine T.F__law_starts.ok sc__law_starts (fun vs H Q E h => ?_) (fun cdv A outer s H vs Q E hr h => ?_)
  · obtain ⟨p, row, rfl, _⟩ := h; rfl
  obtain ⟨p, row, rfl, hp, h4, hz, q⟩ := h
  refine ⟨_, (pss_one (ps_ret (pe_comp rfl (pi_range1 rfl T.b_range (pa_cons (pe_callB call_len_seq rfl T.b_len boot_b_len (pa_cons (pv 0) pa_nil)) pa_nil)) (cscope_of (sc := defScope s__law_starts) rfl (by decide +kernel)) (N := ["_law_at", "_law_row_here"]) (sel := [none, some 0]) (selOk_of (M := ["_law_row_here"]) (by decide +kernel)) (Blk.of (fun _ _ _ _ => (pg_name (i := 0) (nd_of (N := ["_law_at", "_law_row_here"]) (by decide +kernel) rfl) rfl (Or.inl rfl))) (fun _ _ _ _ => ⟨_, (pts_one (PW.pt (pw_or (pt_cmpR op_eq (pv 0) pe_int (nomark _)) (pw_or1 (pt_cmpR op_ne (pe_ix ix_list (pv 1) (pv 0) (fun _ _ => rfl)) (pe_ix ix_list (pv 1) (pe_op op_sub (pv 0) pe_int) (fun _ _ => rfl)) (nomark _)))))), by first | rfl | (dsimp only [Cx.block]; done) | (dsimp only [Cx.block]; exact rfl)⟩) (fun _ _ _ _ => ⟨_, (pv 0), by first | rfl | (dsimp only [Cx.block]; done) | (dsimp only [Cx.block]; exact rfl)⟩))))), ?_⟩
  have hget : ∀ i, i < row.length → row.getD i 9 < 4 := fun i hi => by
    rw [List.getD_eq_getElem?_getD, List.getElem?_eq_getElem hi]
    exact h4 _ (List.getElem_mem hi)
  (walk_at "RD")
  refine ⟨_, .inl hp, ?_⟩
  rw [colV_len]
  refine ⟨by omega, by omega, ?_⟩
  rw [Int.toNat_natCast]
  refine CompR.range_sel (ss := (List.range row.length).map fun i => if isStart row i then some (V.int (i : Nat)) else none) (Nat.le_trans hz (by decide)) (by rw [List.length_map, List.length_range]) (fun i o ys N hi ho hN => ?_) (fun p4 hp4 => ?_)
  · obtain ⟨s', hs', rfl⟩ := map_at ho
    have hs2 : s' = i := by
      rw [List.getElem?_range hi] at hs'
      exact (Option.some.inj hs').symm
    subst hs2
    (walk_at "RD")
    refine ⟨Sub.name, ?_⟩
    unfold isStart at hN
    by_cases c0 : s' = 0
    · rw [if_pos (by simp; omega)]
      rw [decide_eq_true c0, Bool.true_or, if_pos rfl] at hN
      exact hN
    · rw [if_neg (by simp; omega)]
      rw [decide_eq_false c0, Bool.false_or] at hN
      have a1 : atI (colV row) (s' : Nat) = some (.str (col (row.getD s' 9))) := atI_nat (colV_at hi)
      have a2 : atI (colV row) ((s' : Int) - 1) = some (.str (col (row.getD (s' - 1) 9))) := by
        have := atI_nat (j := s' - 1) (colV_at (row := row) (i := s' - 1) (by omega))
        rwa [show ((s' - 1 : Nat) : Int) = (s' : Int) - 1 by omega] at this
      refine ⟨_, hp, _, a1, _, hp, _, a2, rfl, ?_⟩
      (walk_at "RD")
      rw [col_all _ (hget _ hi) _ (hget _ (by omega))]
      rw [decide_not] at hN
      by_cases c1 : row.getD s' 9 = row.getD (s' - 1) 9
      · rw [decide_eq_true c1] at hN ⊢
        simpa using hN
      · rw [decide_eq_false c1] at hN ⊢
        exact hN
  · have := q p4 hp4
    have e : ((List.range row.length).map fun i => if isStart row i then some (V.int (i : Nat)) else none).flatMap Option.toList = natV ((List.range row.length).filter (isStart row)) := by
      unfold natV
      rw [List.flatMap_map]
      generalize List.range row.length = l
      induction l with
      | nil => rfl
      | cons a r ih =>
        rw [List.flatMap_cons, List.filter_cons]
        by_cases cg : isStart row a = true
        · rw [if_pos cg, if_pos cg, List.map_cons, ← ih]; rfl
        · rw [if_neg cg, if_neg cg, ← ih]; rfl
    rw [e]
    exact this
theorem ok_ldue (T : Txt w K mg t) : FnOk P w K mg base CX0 2 t.a__law_due t.d__law_due ["_law_row_here", "_law_ready", "_law_fade", "_law_least"] (sp_ldue K) := by
  refine FnOk.forget (sp := sp_ldue' K) ?_ fun vs H Q E h => ?_
  · have G__law_starts : FnOk P w K mg base CX0 1 t.a__law_starts t.d__law_starts ["_law_row_here"] (sp_lst K) := ok_lst T
    have G__law_follows : FnOk P w K mg base CX0 1 t.a__law_follows t.d__law_follows ["_law_one", "_law_shade", "_law_ready", "_law_fade"] sp_lfol := ok_lfol T
    refine T.F__law_due.ok sc__law_due (fun vs H Q E h => ?_) (fun cdv A outer s H vs Q E hr h => ?_)
    · obtain ⟨p, row, rd, fd, ls, rfl, _⟩ := h; rfl
    obtain ⟨p, row, rd, fd, ls, rfl, hp, h4, hz, hrd, hfd, nt, q⟩ := h
    refine ⟨_, (pss_cons (ps_set (i := 4) sc__law_due.nd rfl (Or.inl rfl) (pe_op op_cat (pe_call G__law_starts hr rfl T.m__law_starts T.k__law_starts T.n__law_starts .nil pass0 (pa_cons (pv 0) pa_nil)) (pe_lst (pa_cons (pe_callB call_len_seq rfl T.b_len boot_b_len (pa_cons (pv 0) pa_nil)) pa_nil))))
      (pss_cons (ps_for PassesOwn.never rfl (pi_range1 rfl T.b_range (pa_cons (pe_op op_sub (pe_callB call_len_seq rfl T.b_len boot_b_len (pa_cons (pv 4) pa_nil)) pe_int) pa_nil)) (pg_name (i := 5) sc__law_due.nd rfl (Or.inl rfl)) (pss_cons (ps_set (i := 6) sc__law_due.nd rfl (Or.inl rfl) (pe_ix ix_list (pv 0) (pe_ix ix_list (pv 4) (pv 5) (fun _ _ => rfl)) (fun _ _ => rfl)))
      (pss_cons (ps_set (i := 7) sc__law_due.nd rfl (Or.inl rfl) (pe_op op_sub (pe_ix ix_list (pv 4) (pe_op op_add (pv 5) pe_int) (fun _ _ => rfl)) (pe_ix ix_list (pv 4) (pv 5) (fun _ _ => rfl))))
      (pss_cons (ps_set (i := 8) sc__law_due.nd rfl (Or.inl rfl) (pe_or (pe_cmpR op_eq (pv 5) pe_int (nomark _)) (pe_one (pe_cmpR op_eq (pv 5) (pe_op op_sub (pe_callB call_len_seq rfl T.b_len boot_b_len (pa_cons (pv 4) pa_nil)) pe_int) (nomark _)))))
      (pss_cons (ps_if (PW.pt (pw_and (pt_cmpR op_gt (pv 5) pe_int (nomark _)) (pw_and1 (pt_not (pt_val (pe_call G__law_follows hr rfl T.m__law_follows T.k__law_follows T.n__law_follows .nil pass0 (pa_cons (pe_ix ix_list (pv 0) (pe_op op_sub (pe_ix ix_list (pv 4) (pv 5) (fun _ _ => rfl)) pe_int) (fun _ _ => rfl)) (pa_cons (pv 6) (pa_cons (pv 1) (pa_cons (pv 2) pa_nil)))))))))) (pss_one (ps_ret pe_bl)) pss_nil)
      (pss_cons (ps_if (PW.pt (pw_and (pt_cmpR op_eq (pv 6) pe_str (nomark _)) (pw_and (pt_cmpR op_lt (pv 7) (pv 3) (nomark _)) (pw_and1 (pt_not (pt_val (pv 8))))))) (pss_one (ps_ret pe_bl)) pss_nil)
      (pss_one (ps_if (pt_cmpR op_in_seq (pv 6) (pe_tup (pa_cons pe_str (pa_cons pe_str pa_nil))) (by with_unfolding_all rfl)) (pss_cons (ps_set (i := 9) sc__law_due.nd rfl (Or.inl rfl) (pe_ifExp (pt_cmpR op_eq (pv 6) pe_str (nomark _)) (pv 1) (pv 2)))
      (pss_one (ps_if (PW.pt (pw_or (pt_cmpR op_gt (pv 7) (pv 9) (nomark _)) (pw_or1 (PW.pt (pw_and (pt_cmpR op_lt (pv 7) (pv 9) (nomark _)) (pw_and1 (pt_not (pt_val (pv 8))))))))) (pss_one (ps_ret pe_bl)) pss_nil))) pss_nil))))))))
      (pss_one (ps_ret pe_bl)))), ?_⟩
    have hget : ∀ i, i < row.length → row.getD i 9 < 4 := fun i hi => by
      rw [List.getD_eq_getElem?_getD, List.getElem?_eq_getElem hi]
      exact h4 _ (List.getElem_mem hi)
    have hB : natV ((List.range row.length).filter (isStart row)) ++ [V.int (row.length : Nat)] = natV (bnd row row.length) := by
      rw [← starts_bnd]
      unfold natV
      rw [List.map_append]; rfl
    have hbl : (bnd row row.length).length ≤ row.length + 1 := by
      unfold bnd
      rw [List.length_cons, List.length_map]
      have := List.length_filter_le (isEnd row) (List.range row.length)
      rw [List.length_range] at this; omega
    have hb1 : 1 ≤ (bnd row row.length).length := by unfold bnd; rw [List.length_cons]; omega
    (walk_at "RD")
    refine ⟨p, row, rfl, hp, h4, hz, fun q1 hq1 => ?_⟩
    have s1 : Same H (upd H q1 (.lst (natV ((List.range row.length).filter (isStart row))))) := same_new hq1
    (walk_at "RD")
    refine ⟨_, .inl (hp.same s1), by decide, fun q2 hq2 => ?_⟩
    rw [colV_len]
    refine ⟨_, (same_new hq2) _ _ upd_same, _, upd_same, ?_, fun sl hsl => ?_⟩
    · have := List.length_filter_le (isStart row) (List.range row.length)
      rw [List.length_range] at this
      rw [natV_len]
      exact Nat.le_trans (show _ + 1 ≤ 5000 by omega) (by decide)
    rw [hB]
    have s3 := (s1.trans (same_new (o := .lst [V.int (row.length : Nat)]) hq2)).trans (same_new (o := .lst (natV (bnd row row.length))) hsl)
    have nt3 : NoT (upd (upd (upd H q1 (.lst (natV ((List.range row.length).filter (isStart row))))) q2 (.lst [V.int (row.length : Nat)])) sl (.lst (natV (bnd row row.length)))) := ((nt.upd).upd).upd
    have e3 : (upd (upd (upd H q1 (.lst (natV ((List.range row.length).filter (isStart row))))) q2 (.lst [V.int (row.length : Nat)])) sl (.lst (natV (bnd row row.length)))) sl = some (.lst (natV (bnd row row.length))) := upd_same
    generalize upd (upd (upd H q1 (.lst (natV ((List.range row.length).filter (isStart row))))) q2 (.lst [V.int (row.length : Nat)])) sl (.lst (natV (bnd row row.length))) = H3 at s3 nt3 e3 ⊢
    refine ⟨_, .inl (SqL.of e3), ?_⟩
    rw [natV_len]
    refine ⟨by omega, by omega, ?_⟩
    rw [show (((bnd row row.length).length : Int) - 1).toNat = (bnd row row.length).length - 1 by omega]
    have hok := bnd_ok row row.length (Nat.le_refl _)
    generalize bnd row row.length = B at hok hbl hb1 e3 q ⊢
    refine ForW.range (fun i σ H' => Same H3 H' ∧ NoT H' ∧ (List.range i).all (dueK rd fd ls row B) = true ∧ ∃ x1 x2 x3 x4 x5, σ = [some (.ref p), some (.int rd), some (.int fd), some (.int ls), some (.ref sl), x1, x2, x3, x4, x5]) ?_ ?_ ?_
    · exact ⟨Same.refl _, nt3, rfl, none, none, none, none, none, rfl⟩
    · rintro k σ H' hk ⟨sm, nt', hl, x1, x2, x3, x4, x5, rfl⟩
      have gk : ∀ j, j < B.length → B[j]? = some (B.getD j 0) := fun j hj => by rw [List.getD_eq_getElem?_getD, List.getElem?_eq_getElem hj]; rfl
      obtain ⟨o1, o2, _⟩ := hok k _ _ (gk k (by omega)) (gk (k + 1) (by omega))
      have hprev : k ≠ 0 → 1 ≤ B.getD k 0 := fun z => by
        obtain ⟨o3, _, _⟩ := hok (k - 1) _ _ (gk (k - 1) (by omega)) (by rw [show k - 1 + 1 = k by omega]; exact gk k (by omega))
        omega
      have n1 := natV_get (l := B) (i := k) (by omega)
      have n2 := natV_get (l := B) (i := k + 1) (by omega)
      have hdue : dueK rd fd ls row B k = dueC rd fd ls (decide (k = 0)) (decide (k = 0) || decide (k + 2 = B.length)) (row.getD (B.getD k 0 - 1) 9) (row.getD (B.getD k 0) 9) ((B.getD (k + 1) 0 : Nat) - (B.getD k 0 : Nat)) := rfl
      generalize B.getD k 0 = b at n1 o1 hprev hdue
      generalize B.getD (k + 1) 0 = e at n2 o1 o2 hdue
      have hc4 := hget b (by omega)
      have ac : atI (colV row) (b : Nat) = some (.str (col (row.getD b 9))) := atI_nat (colV_at (by omega))
      have hS : SqL K H' sl (natV B) := SqL.of (sm _ _ e3)
      have hR : SqL K H' p (colV row) := hp.same (s3.trans sm)
      have n2' : atI (natV B) ((k : Int) + 1) = some (.int (e : Nat)) := by rw [show (k : Int) + 1 = ((k + 1 : Nat) : Int) by omega]; exact n2
      have dec : ∀ k, k < 4 → decide (col (row.getD b 9) = col k) = decide (row.getD b 9 = k) := fun k h => col_all _ hc4 k h
      have fails : dueK rd fd ls row B k = false → Q (.bl false) H' := fun z => by
        have := q H' (s3.trans sm)
        rw [allR_false hk z] at this
        exact this
      have falls : ∀ H2, Same H' H2 → dueK rd fd ls row B k = false → Q (.bl false) H2 := fun H2 s2 z => by
        have := q H2 ((s3.trans sm).trans s2)
        rw [allR_false hk z] at this
        exact this
      simp only [gName_ap, Int.zero_add, List.set_cons_zero, List.set_cons_succ]
      refine tAsg_by (V.str (col (row.getD b 9))) (fun Q hQ => ?_) ?_
      · (walk_at "RD")
        exact ⟨_, hS, _, n1, _, _, rfl, hR, _, ac, hQ⟩
      simp only [gName_ap, List.set_cons_zero, List.set_cons_succ]
      refine tAsg_by (V.int ((e : Nat) - (b : Nat))) (fun Q hQ => ?_) ?_
      · (walk_at "RD")
        exact ⟨_, hS, _, n2', _, hS, _, n1, _, rfl, _, rfl, hQ⟩
      simp only [gName_ap, List.set_cons_zero, List.set_cons_succ]
      refine tAsg_by (V.bl (decide (k = 0) || decide (k + 2 = B.length))) (fun Q hQ => ?_) ?_
      · (walk_at "RD")
        by_cases k0 : k = 0
        · rw [if_pos (by simp; omega)]
          rw [decide_eq_true k0, Bool.true_or] at hQ
          exact hQ
        · rw [if_neg (by simp; omega)]
          rw [decide_eq_false k0, Bool.false_or] at hQ
          refine ⟨_, .inl hS, ?_⟩
          rw [natV_len, show decide ((k : Int) = (B.length : Int) - 2) = decide (k + 2 = B.length) by rw [Bool.eq_iff_iff, decide_eq_true_eq, decide_eq_true_eq]; omega]
          exact hQ
      simp only [gName_ap, List.set_cons_zero, List.set_cons_succ]
      unfold dueC at hdue
      generalize (decide (k = 0) || decide (k + 2 = B.length)) = outer at hdue ⊢
      generalize hcc : row.getD b 9 = c at hc4 ac dec hdue ⊢
      generalize hnn : ((e : Nat) : Int) - ((b : Nat) : Int) = n at hdue ⊢
      refine tIfS_by (!(decide (k = 0) || fol rd fd (row.getD (b - 1) 9) c)) (fun Q hQ => ?_) (fun t1 => ?_) (fun t1 => ?_)
      · (walk_at "RD")
        by_cases k0 : k = 0
        · rw [if_neg (by simp; omega)]
          rw [decide_eq_true k0, Bool.true_or] at hQ
          exact hQ
        · rw [if_pos (by simp; omega)]
          rw [decide_eq_false k0, Bool.false_or] at hQ
          have := hprev k0
          have ap : atI (colV row) ((b : Int) - 1) = some (.str (col (row.getD (b - 1) 9))) := by
            have := atI_nat (j := b - 1) (colV_at (row := row) (i := b - 1) (by omega))
            rwa [show ((b - 1 : Nat) : Int) = (b : Int) - 1 by omega] at this
          exact ⟨_, hS, _, n1, _, rfl, _, hR, _, ap, ⟨_, c, rd, fd, rfl, hget _ (by omega), hc4, hrd, hfd, nt', ⟨_, rfl, hQ⟩⟩⟩
      · (walk_at "RD")
        have t1' : (decide (k = 0) || fol rd fd (row.getD (b - 1) 9) c) = false := by rwa [Bool.not_eq_true'] at t1
        exact fails (by rw [hdue, t1', Bool.false_and, Bool.false_and])
      · have t1' : (decide (k = 0) || fol rd fd (row.getD (b - 1) 9) c) = true := by rwa [Bool.not_eq_false'] at t1
        rw [t1', Bool.true_and] at hdue
        (walk_at "RD")
        refine tIfS_by (decide (c = 2) && decide (n < ls) && !outer) (fun Q hQ => ?_) (fun t2 => ?_) (fun t2 => ?_)
        · (walk_at "RD")
          rw [show Str.ofString "free" = col 2 from rfl, dec 2 (by decide)]
          by_cases y1 : c = 2
          · rw [if_pos (decide_eq_true y1)]
            rw [decide_eq_true y1, Bool.true_and] at hQ
            by_cases y2 : n < ls
            · rw [if_pos (decide_eq_true y2)]
              rw [decide_eq_true y2, Bool.true_and] at hQ
              exact hQ
            · rw [if_neg (by simpa using y2)]
              rw [decide_eq_false y2, Bool.false_and] at hQ
              exact hQ
          · rw [if_neg (by simpa using y1)]
            rw [decide_eq_false y1, Bool.false_and, Bool.false_and] at hQ
            exact hQ
        · (walk_at "RD")
          exact fails (by rw [hdue, t2]; rfl)
        · rw [t2, Bool.not_false, Bool.true_and] at hdue
          (walk_at "RD")
          refine tIfS_any (fun b H2 => Same H' H2 ∧ NoT H2 ∧ b = decide (c = 1 ∨ c = 3)) (fun Q hQ => ?_) (fun H2 ⟨s2, nt2, hb2⟩ => ?_) (fun H2 ⟨s2, nt2, hb2⟩ => ?_)
          · (walk_at "RD")
            refine ⟨by decide, fun p2 hp2 => ⟨_, .inr (SqT.of upd_same), rfl, rfl, ?_⟩⟩
            refine hQ _ _ ⟨same_new hp2, nt'.upd, ?_⟩
            have := inV_strs (col c) [Str.ofString "ready", Str.ofString "fade"]
            unfold strsV at this
            rw [show [V.str (Str.ofString "ready"), V.str (Str.ofString "fade")] = List.map V.str [Str.ofString "ready", Str.ofString "fade"] from rfl, this]
            have d1 := dec 1 (by decide)
            have d3 := dec 3 (by decide)
            rw [Bool.eq_iff_iff, decide_eq_true_eq, decide_eq_true_eq] at d1 d3
            rw [Bool.eq_iff_iff, decide_eq_true_eq, decide_eq_true_eq, List.mem_cons, List.mem_singleton, ← d1, ← d3]
            rfl
          · have hb3 := of_decide_eq_true hb2.symm
            rw [decide_eq_true hb3, Bool.true_and] at hdue
            refine tAsg_by (V.int (if c = 1 then rd else fd)) (fun Q hQ => ?_) ?_
            · (walk_at "RD")
              rw [show Str.ofString "ready" = col 1 from rfl, dec 1 (by decide)]
              by_cases y1 : c = 1
              · rw [if_pos (decide_eq_true y1)]
                rw [if_pos y1] at hQ
                exact hQ
              · rw [if_neg (by simpa using y1)]
                rw [if_neg y1] at hQ
                exact hQ
            simp only [gName_ap, List.set_cons_zero, List.set_cons_succ]
            generalize (if c = 1 then rd else fd) = wh at hdue ⊢
            refine tIfS_by (decide (wh < n) || decide (n < wh) && !outer) (fun Q hQ => ?_) (fun t3 => ?_) (fun t3 => ?_)
            · (walk_at "RD")
              by_cases y1 : wh < n
              · rw [if_pos (decide_eq_true y1)]
                rw [decide_eq_true y1, Bool.true_or] at hQ
                exact hQ
              · rw [if_neg (by simpa using y1)]
                rw [decide_eq_false y1, Bool.false_or] at hQ
                by_cases y2 : n < wh
                · rw [if_pos (decide_eq_true y2)]
                  rw [decide_eq_true y2, Bool.true_and] at hQ
                  exact hQ
                · rw [if_neg (by simpa using y2)]
                  rw [decide_eq_false y2, Bool.false_and] at hQ
                  exact hQ
            · (walk_at "RD")
              exact falls H2 s2 (by rw [hdue, t3]; rfl)
            · (walk_at "RD")
              exact ⟨sm.trans s2, nt2, by rw [allR_succ, hl, hdue, t3]; rfl, by repeat (first | exact ⟨_, rfl⟩ | refine ⟨⟨_, rfl⟩, ?_⟩)⟩
          · have hb3 := of_decide_eq_false hb2.symm
            rw [decide_eq_false hb3, Bool.false_and] at hdue
            (walk_at "RD")
            exact ⟨sm.trans s2, nt2, by rw [allR_succ, hl, hdue]; rfl, by repeat (first | exact ⟨_, rfl⟩ | refine ⟨⟨_, rfl⟩, ?_⟩)⟩
    · rintro σ H' ⟨sm, nt', hl, x1, x2, x3, x4, x5, rfl⟩
      (walk_at "RD")
      have := q H' (s3.trans sm)
      rw [hl] at this
      exact this
  · obtain ⟨p, row, rd, fd, ls, h1, h2, h3, h4, h5, h6, nt, q⟩ := h
    exact ⟨nt, p, row, rd, fd, ls, h1, h2, h3, h4, h5, h6, nt, fun H' sm => ⟨sm, q⟩⟩
end
end My
namespace My
open PySem L2
/-! ### parts: a list of lists [colour, turns] -/
def PAt (H : Hp) (p : Addr) (f : List (Nat × Nat)) : Prop := ∃ qs : List Addr, H p = some (.lst (qs.map V.ref)) ∧ qs.length = f.length ∧ qs.Nodup ∧ ∀ (i : Nat) (q : Addr) (x : Nat × Nat), qs[i]? = some q → f[i]? = some x → H q = some (.lst [.str (col x.1), .int (x.2 : Nat)])
theorem PAt.same {H H' : Hp} {p : Addr} {f : List (Nat × Nat)} (h : PAt H p f) (s : Same H H') : PAt H' p f := by
  obtain ⟨qs, e1, e2, e3, al⟩ := h
  exact ⟨qs, s _ _ e1, e2, e3, fun i q x h1 h2 => s _ _ (al i q x h1 h2)⟩
/-- the list itself is none of its items -/
theorem part_ne {H : Hp} {p : Addr} {qs : List Addr} {q : Addr} {x : Nat × Nat} (e1 : H p = some (.lst (qs.map V.ref))) (e2 : H q = some (.lst [.str (col x.1), .int (x.2 : Nat)])) : q ≠ p := by
  refine ne_of e2 e1 fun z => ?_
  injection z with z
  cases qs with
  | nil => cases z
  | cons a r => injection z with z1 _; cases z1
def fOk (f : List (Nat × Nat)) (lo : Nat) : Prop := ∀ x ∈ f, x.1 < 4 ∧ lo ≤ x.2 ∧ x.2 ≤ 40
theorem fOk.at {f : List (Nat × Nat)} {lo i : Nat} {x : Nat × Nat} (h : fOk f lo) (e : f[i]? = some x) : x.1 < 4 ∧ lo ≤ x.2 ∧ x.2 ≤ 40 := h x (List.mem_of_getElem? e)
def rowOf (f : List (Nat × Nat)) : List Nat := f.flatMap fun x => List.replicate x.2 x.1
def fO1 (f : List (Nat × Nat)) : Prop := ∀ x ∈ f, x.1 < 4 ∧ x.2 ≤ 41
theorem fO1.at {f : List (Nat × Nat)} {i : Nat} {x : Nat × Nat} (h : fO1 f) (e : f[i]? = some x) : x.1 < 4 ∧ x.2 ≤ 41 := h x (List.mem_of_getElem? e)
def sp_lrow (K : PySem.W.Frag) : Sp := fun vs H Q _ => ∃ p f, vs = [.ref p] ∧ PAt H p f ∧ fO1 f ∧ f.length ≤ 30 ∧ NoT H ∧ ∀ q H', Same H H' → NoT H' → H' q = some (.lst (colV (rowOf f))) → Q (.ref q) H'
theorem rowOf_len : ∀ {f : List (Nat × Nat)}, fO1 f → (rowOf f).length ≤ f.length * 41
  | [], _ => by simp [rowOf]
  | x :: r, h => by
    have h1 := (h x (by simp)).2
    have h2 := rowOf_len (f := r) fun y hy => h y (List.mem_cons_of_mem _ hy)
    unfold rowOf at h2 ⊢
    rw [List.flatMap_cons, List.length_append, List.length_replicate, List.length_cons, Nat.succ_mul]
    omega
theorem rowOf_ok {f : List (Nat × Nat)} (h : fO1 f) : ∀ c ∈ rowOf f, c < 4 := fun c hc => by
  obtain ⟨x, hx, hm⟩ := List.mem_flatMap.mp hc
  rw [List.eq_of_mem_replicate hm]
  exact (h x hx).1
theorem colV_app (a b : List Nat) : colV (a ++ b) = colV a ++ colV b := by unfold colV; rw [List.map_append]
section
variable {P : Program} {w : World} {K : PySem.W.Frag} {mg : Str → Option Value} {base : Heap} {t : Adr}
theorem ok_lrow (T : Txt w K mg t) : FnOk P w K mg base CX0 1 t.a__law_row t.d__law_row ["_law_parts_here"] (sp_lrow K) := by
  refine T.F__law_row.ok sc__law_row (fun vs H Q E h => ?_) (fun cdv A outer s H vs Q E hr h => ?_)
  · obtain ⟨p, f, rfl, _⟩ := h; rfl
  obtain ⟨p, f, rfl, ⟨qs, e1, e2, e3, al⟩, hf, hz, nt, q⟩ := h
  refine ⟨_, (pss_cons (ps_set (i := 1) sc__law_row.nd rfl (Or.inl rfl) (pe_lst pa_nil))
      (pss_cons (ps_for PassesOwn.never rfl (pi_list (pv 0)) (pg_name (i := 2) sc__law_row.nd rfl (Or.inl rfl)) (pss_one (ps_set (i := 1) sc__law_row.nd rfl (Or.inl rfl) (pe_op op_cat (pv 1) (pe_op op_rep (pe_lst (pa_cons (pe_ix ix_list (pv 2) pe_int (fun _ _ => rfl)) pa_nil)) (pe_ix ix_list (pv 2) pe_int (fun _ _ => rfl)))))))
      (pss_one (ps_ret (pv 1))))), ?_⟩
  (walk_at "RD")
  refine ⟨Nat.zero_le _, fun r0 hr0 => ?_⟩
  have s0 : Same H (upd H r0 (.lst [])) := same_new hr0
  refine ⟨⟨_, SqL.of (s0 _ _ e1)⟩, ?_⟩
  refine ForW.list (xs := qs.map V.ref) (fun i σ H' => Same H H' ∧ NoT H' ∧ ∃ r x, H' r = some (.lst (colV (rowOf (f.take i)))) ∧ σ = [some (.ref p), some (.ref r), x]) ?_ ?_ ?_ ?_
  · exact ⟨s0, nt.upd, r0, none, upd_same, rfl⟩
  · rintro i σ H' hi ⟨sm, _⟩
    exact SqL.of (sm _ _ e1)
  · rintro i v σ H' hv ⟨sm, nt', r, x, hr1, rfl⟩
    obtain ⟨a, ha, rfl⟩ := map_at hv
    have hif : i < f.length := by rw [← e2]; exact (List.getElem?_eq_some_iff.mp ha).1
    have hfi : f[i]? = some f[i] := List.getElem?_eq_getElem hif
    have ea := al i a _ ha hfi
    obtain ⟨g1, g3⟩ := hf.at hfi
    have at0 : ∀ (x : Str) (n : Int), atI [V.str x, .int n] 0 = some (.str x) := fun x n => atI_nat (j := 0) rfl
    have at1 : ∀ (x : Str) (n : Int), atI [V.str x, .int n] 1 = some (.int n) := fun x n => atI_nat (j := 1) rfl
    have hst : colV (rowOf (f.take (i + 1))) = colV (rowOf (f.take i)) ++ (List.replicate ((f[i].2 : Nat) : Int).toNat [V.str (col f[i].1)]).flatten := by
      have e : rowOf (f.take (i + 1)) = rowOf (f.take i) ++ List.replicate f[i].2 f[i].1 := by
        unfold rowOf
        rw [List.take_add_one, hfi, List.flatMap_append]
        simp
      rw [e, colV_app, Int.toNat_natCast]
      congr 1
      unfold colV
      rw [List.map_replicate]
      generalize f[i].2 = m
      induction m with
      | zero => rfl
      | succ m ih => rw [List.replicate_succ, List.replicate_succ, List.flatten_cons, ← ih]; rfl
    have hlen1 : (colV (rowOf (f.take i))).length ≤ 1230 := by
      rw [colV_len]
      have := rowOf_len (f := f.take i) fun y hy => hf y (List.mem_of_mem_take hy)
      rw [List.length_take] at this
      have : min i f.length ≤ 30 := by omega
      omega
    (walk_at "RD")
    refine ⟨_, SqL.of (sm _ _ ea), _, at0 _ _, by decide, fun p1 hp1 => ?_⟩
    have s1 : Same H' (upd H' p1 (.lst [V.str (col f[i].1)])) := same_new hp1
    refine ⟨_, SqL.of (s1 _ _ (sm _ _ ea)), _, at1 _ _, _, rfl, _, upd_same, by omega, by omega, ?_, fun p2 hp2 => ?_⟩
    · rw [Int.toNat_natCast]
      exact Nat.le_trans (show 1 * f[i].2 ≤ 41 by omega) (by decide)
    have s2 := s1.trans (same_new (o := .lst (List.replicate ((f[i].2 : Nat) : Int).toNat [V.str (col f[i].1)]).flatten) hp2)
    refine ⟨_, s2 _ _ hr1, _, upd_same, ?_, fun p3 hp3 => ?_⟩
    · have : (List.replicate ((f[i].2 : Nat) : Int).toNat [V.str (col f[i].1)]).flatten.length ≤ 41 := by
        rw [Int.toNat_natCast]
        have hl : ∀ (m : Nat) (v : V), (List.replicate m [v]).flatten.length = m := fun m v => by
          induction m with
          | zero => rfl
          | succ m ih => rw [List.replicate_succ, List.flatten_cons, List.length_append, ih]; show 1 + m = _; omega
        rw [hl]; omega
      exact Nat.le_trans (show _ ≤ 1300 by omega) (by decide)
    rw [← hst]
    exact ⟨(sm.trans s2).trans (same_new hp3), ((nt'.upd).upd).upd, by repeat (first | exact ⟨_, upd_same, _, rfl⟩ | exact ⟨p3, upd_same, rfl, _, rfl⟩)⟩
  · rintro σ H' ⟨sm, nt', r, x, hr1, rfl⟩
    (walk_at "RD")
    rw [List.length_map, e2, List.take_length] at hr1
    exact q r H' sm nt' hr1
end
end My
namespace My
open PySem L2
/-- parts made since H0 -/
def PN (H0 H : Hp) (p : Addr) (f : List (Nat × Nat)) : Prop := ∃ qs : List Addr, H p = some (.lst (qs.map V.ref)) ∧ qs.length = f.length ∧ qs.Nodup ∧ (∀ (i : Nat) (q : Addr) (x : Nat × Nat), qs[i]? = some q → f[i]? = some x → H q = some (.lst [.str (col x.1), .int (x.2 : Nat)])) ∧ (∀ q ∈ qs, H0 q = none) ∧ H0 p = none
theorem PN.pat {H0 H : Hp} {p : Addr} {f : List (Nat × Nat)} (h : PN H0 H p f) : PAt H p f := by
  obtain ⟨qs, e1, e2, e3, al, _⟩ := h
  exact ⟨qs, e1, e2, e3, al⟩
theorem PN.same {H0 H H' : Hp} {p : Addr} {f : List (Nat × Nat)} (h : PN H0 H p f) (s : Same H H') : PN H0 H' p f := by
  obtain ⟨qs, e1, e2, e3, al, n1, n2⟩ := h
  exact ⟨qs, s _ _ e1, e2, e3, fun i q x h1 h2 => s _ _ (al i q x h1 h2), n1, n2⟩
theorem nodup_snoc {qs : List Addr} {a : Addr} (h : qs.Nodup) (n : a ∉ qs) : (qs ++ [a]).Nodup := by
  refine List.nodup_append.mpr ⟨h, by simp, fun x hx y hy z => ?_⟩
  rw [List.mem_singleton] at hy
  subst hy; subst z
  exact n hx
theorem PN.snoc {H0 H : Hp} {p a : Addr} {f : List (Nat × Nat)} {x : Nat × Nat} {qs : List Addr} (e1 : H p = some (.lst (qs.map V.ref))) (e2 : qs.length = f.length) (e3 : qs.Nodup)
    (al : ∀ (i : Nat) (q : Addr) (x : Nat × Nat), qs[i]? = some q → f[i]? = some x → H q = some (.lst [.str (col x.1), .int (x.2 : Nat)])) (n1 : ∀ q ∈ qs, H0 q = none) (n2 : H0 p = none) (ha : H a = none) (ha0 : H0 a = none) :
    PN H0 (upd (upd H a (.lst [.str (col x.1), .int (x.2 : Nat)])) p (.lst (qs.map V.ref ++ [.ref a]))) p (f ++ [x]) := by
  have hap : a ≠ p := (ne_of_none e1 ha).symm
  have hm : a ∉ qs := fun z => by
    obtain ⟨j, hj, e⟩ := List.getElem_of_mem z
    have := al j a _ (by rw [List.getElem?_eq_getElem hj, e]) (List.getElem?_eq_getElem (show j < f.length by omega))
    rw [ha] at this; cases this
  refine ⟨qs ++ [a], by rw [upd_same, List.map_append]; rfl, by rw [List.length_append, List.length_append, e2]; rfl, nodup_snoc e3 hm, fun i q y h1 h2 => ?_, fun q hq => ?_, n2⟩
  · rcases snoc_at h1 with ⟨z1, z2⟩ | ⟨z1, rfl⟩
    · rcases snoc_at h2 with ⟨y1, y2⟩ | ⟨y1, _⟩
      · have := al i q y z2 y2
        rw [upd_ne (part_ne e1 this), upd_ne (ne_of_none this ha)]
        exact this
      · omega
    · rcases snoc_at h2 with ⟨y1, y2⟩ | ⟨y1, rfl⟩
      · omega
      · rw [upd_ne hap, upd_same]
  · rcases List.mem_append.mp hq with z | z
    · exact n1 q z
    · rw [List.mem_singleton] at z; subst z; exact ha0
theorem PN.set {H0 H : Hp} {p q : Addr} {f : List (Nat × Nat)} {qs : List Addr} {i : Nat} {x y : Nat × Nat} (e1 : H p = some (.lst (qs.map V.ref))) (e2 : qs.length = f.length) (e3 : qs.Nodup)
    (al : ∀ (i : Nat) (q : Addr) (x : Nat × Nat), qs[i]? = some q → f[i]? = some x → H q = some (.lst [.str (col x.1), .int (x.2 : Nat)])) (n1 : ∀ q ∈ qs, H0 q = none) (n2 : H0 p = none) (hq : qs[i]? = some q) (hx : f[i]? = some x) :
    PN H0 (upd H q (.lst [.str (col y.1), .int (y.2 : Nat)])) p (f.set i y) := by
  have hqp : q ≠ p := part_ne e1 (al i q x hq hx)
  refine ⟨qs, by rw [upd_ne (Ne.symm hqp)]; exact e1, by rw [List.length_set]; exact e2, e3, fun j r z h1 h2 => ?_, n1, n2⟩
  by_cases hij : i = j
  · subst hij
    rw [hq] at h1
    cases h1
    rw [List.getElem?_set_self (List.getElem?_eq_some_iff.mp hx).1] at h2
    cases h2
    exact upd_same
  · rw [List.getElem?_set_ne hij] at h2
    have hne : r ≠ q := fun z => by
      subst z
      obtain ⟨l1, g1⟩ := List.getElem?_eq_some_iff.mp hq
      obtain ⟨l2, g2⟩ := List.getElem?_eq_some_iff.mp h1
      exact hij ((List.getElem_inj e3).mp (by rw [g1, g2]))
    rw [upd_ne hne]
    exact al j r z h1 h2
theorem fOk.set {f : List (Nat × Nat)} {lo i : Nat} {y : Nat × Nat} (h : fOk f lo) (hy : y.1 < 4 ∧ lo ≤ y.2 ∧ y.2 ≤ 40) : fOk (f.set i y) lo := fun x hx => by
  rcases List.mem_or_eq_of_mem_set hx with z | z
  · exact h x z
  · subst z; exact hy
theorem fOk.snoc {f : List (Nat × Nat)} {lo : Nat} {y : Nat × Nat} (h : fOk f lo) (hy : y.1 < 4 ∧ lo ≤ y.2 ∧ y.2 ≤ 40) : fOk (f ++ [y]) lo := fun x hx => by
  rcases List.mem_append.mp hx with z | z
  · exact h x z
  · rw [List.mem_singleton] at z; subst z; exact hy
theorem atI_neg1 {α : Type} {xs : List α} {v : α} (hl : 0 < xs.length) (h : xs[xs.length - 1]? = some v) : atI xs (-1) = some v := by
  unfold atI ixN
  rw [if_neg (by decide), if_pos (by omega)]
  show xs[(-1 + (xs.length : Int)).toNat]? = some v
  rw [show (-1 + (xs.length : Int)).toNat = xs.length - 1 by omega]; exact h
def sp_lnext (K : PySem.W.Frag) (a : Addr) (ns : List Int) : Sp := fun vs H Q _ => ∃ k c rd fd, vs = [.ref a, .int k, .str (col c), .int rd, .int fd] ∧ Sc K a ns H ∧ (0 ≤ k ∧ k < 1000) ∧ c < 4 ∧ ∀ c' H', c' < 4 → (c' = 1 → 0 < rd) → (c' = 3 → 0 < fd) → Same H H' → Sc K a ns H' → Q (.str (col c')) H'
section
variable {P : Program} {w : World} {K : PySem.W.Frag} {mg : Str → Option Value} {base : Heap} {t : Adr}
theorem ok_lnext (T : Txt w K mg t) (a : Addr) (ns : List Int) (h63 : ns.length ≤ 63) : FnOk P w K mg base CX0 2 t.a__law_next t.d__law_next ["_law_script", "_law_k", "_law_last", "_law_ready", "_law_fade"] (sp_lnext K a ns) := by
  have G__law_draw : FnOk P w K mg base CX0 1 t.a__law_draw t.d__law_draw ["_law_script", "_law_k", "_law_many"] (sp_draw K a ns) := ok_draw T a ns h63
  refine T.F__law_next.ok sc__law_next (fun vs H Q E h => ?_) (fun cdv A outer s H vs Q E hr h => ?_)
  · obtain ⟨k, c, rd, fd, rfl, _⟩ := h; rfl
  obtain ⟨k, c, rd, fd, rfl, S, hk, hc, q⟩ := h
  refine ⟨_, (pss_cons (ps_set (i := 5) sc__law_next.nd rfl (Or.inl rfl) (pe_ifExp (pt_cmpR op_gt (pv 3) pe_int (nomark _)) pe_str pe_str))
      (pss_cons (ps_if (pt_cmpR op_eq (pv 2) pe_str (nomark _)) (pss_one (ps_ret (pv 5))) pss_nil)
      (pss_cons (ps_if (pt_cmpR op_eq (pv 2) pe_str (nomark _)) (pss_one (ps_ret pe_str)) pss_nil)
      (pss_cons (ps_if (pt_cmpR op_eq (pv 2) pe_str (nomark _)) (pss_one (ps_ret (pe_ifExp (pt_cmpR op_gt (pv 4) pe_int (nomark _)) pe_str pe_str))) pss_nil)
      (pss_one (ps_ret (pe_ix ix_list (pe_lst (pa_cons pe_str (pa_cons (pv 5) pa_nil))) (pe_call G__law_draw hr rfl T.m__law_draw T.k__law_draw T.n__law_draw .nil pass0 (pa_cons (pv 0) (pa_cons (pe_op op_add pe_int (pv 1)) (pa_cons pe_int pa_nil)))) (fun _ _ => rfl)))))))), ?_⟩
  have dec : ∀ k, k < 4 → decide (col c = col k) = decide (c = k) := fun k h => col_all c hc k h
  have q0 : ∀ c', c' < 4 → (c' = 1 → 0 < rd) → (c' = 3 → 0 < fd) → Q (.str (col c')) H := fun c' h1 h2 h3 => q c' H h1 h2 h3 (Same.refl H) S
  refine tAsg_by (V.str (col (if 0 < rd then 1 else 2))) (fun Q hQ => ?_) ?_
  · (walk_at "RD")
    by_cases c0 : 0 < rd
    · rw [if_pos (by simpa using c0)]
      rw [if_pos c0] at hQ
      exact hQ
    · rw [if_neg (by simpa using c0)]
      rw [if_neg c0] at hQ
      exact hQ
  have hio : (if 0 < rd then 1 else 2) < 4 ∧ ((if 0 < rd then 1 else 2) = 1 → 0 < rd) ∧ ((if 0 < rd then 1 else 2) = 3 → 0 < fd) := by
    by_cases c0 : 0 < rd
    · rw [if_pos c0]; exact ⟨by decide, fun _ => c0, fun z => by omega⟩
    · rw [if_neg c0]; exact ⟨by decide, fun z => by omega, fun z => by omega⟩
  generalize (if 0 < rd then 1 else 2) = io at hio ⊢
  (walk_at "RD")
  refine tIfS_by (decide (c = 0)) (fun Q hQ => ?_) (fun c0 => ?_) (fun c0 => ?_)
  · (walk_at "RD")
    rw [show Str.ofString "stop" = col 0 from rfl, dec 0 (by decide)]
    exact hQ
  · (walk_at "RD")
    exact q0 io hio.1 hio.2.1 hio.2.2
  · (walk_at "RD")
    refine tIfS_by (decide (c = 1)) (fun Q hQ => ?_) (fun c1 => ?_) (fun c1 => ?_)
    · (walk_at "RD")
      rw [show Str.ofString "ready" = col 1 from rfl, dec 1 (by decide)]
      exact hQ
    · (walk_at "RD")
      exact q0 2 (by decide) (fun z => by omega) (fun z => by omega)
    · (walk_at "RD")
      refine tIfS_by (decide (c = 2)) (fun Q hQ => ?_) (fun c2 => ?_) (fun c2 => ?_)
      · (walk_at "RD")
        rw [show Str.ofString "free" = col 2 from rfl, dec 2 (by decide)]
        exact hQ
      · (walk_at "RD")
        by_cases f0 : 0 < fd
        · rw [if_pos (by simpa using f0)]
          exact q0 3 (by decide) (fun z => by omega) (fun _ => f0)
        · rw [if_neg (by simpa using f0)]
          exact q0 0 (by decide) (fun z => by omega) (fun z => by omega)
      · (walk_at "RD"; repeat (simp only [sp_draw]; walk_at "RD"))
        refine ⟨by decide, fun p hp => ⟨S.new hp, by omega, by omega, by decide, _, SqL.of upd_same, ?_⟩⟩
        have g1 := draw_lo ns (200 + k) (m := 2) (by decide)
        have g2 := draw_hi ns (200 + k) (m := 2) (by decide)
        have : draw ns (200 + k) 2 = 0 ∨ draw ns (200 + k) 2 = 1 := by omega
        rcases this with z | z
        · rw [z]
          exact ⟨_, atI_nat (j := 0) rfl, q 0 _ (by decide) (fun z => by omega) (fun z => by omega) (same_new hp) (S.new hp)⟩
        · rw [z]
          exact ⟨_, atI_nat (j := 1) rfl, q io _ hio.1 hio.2.1 hio.2.2 (same_new hp) (S.new hp)⟩
def sp_lparts (K : PySem.W.Frag) (a : Addr) (ns : List Int) : Sp := fun vs H Q _ => ∃ rd fd ls, vs = [.ref a, .int rd, .int fd, .int ls] ∧ Sc K a ns H ∧ (0 ≤ rd ∧ rd ≤ 30) ∧ (0 ≤ fd ∧ fd ≤ 30) ∧ (1 ≤ ls ∧ ls ≤ 5) ∧ ∀ p f H', Same H H' → Sc K a ns H' → PN H H' p f → fOk f 1 → f.length ≤ 24 → Q (.ref p) H'
theorem ok_lparts (T : Txt w K mg t) (a : Addr) (ns : List Int) (h63 : ns.length ≤ 63) : FnOk P w K mg base CX0 3 t.a__law_parts t.d__law_parts ["_law_script", "_law_ready", "_law_fade", "_law_least"] (sp_lparts K a ns) := by
  have G__law_draw : FnOk P w K mg base CX0 2 t.a__law_draw t.d__law_draw ["_law_script", "_law_k", "_law_many"] (sp_draw K a ns) := (ok_draw T a ns h63).mono (by decide)
  have G__law_next : FnOk P w K mg base CX0 2 t.a__law_next t.d__law_next ["_law_script", "_law_k", "_law_last", "_law_ready", "_law_fade"] (sp_lnext K a ns) := ok_lnext T a ns h63
  refine T.F__law_parts.ok sc__law_parts (fun vs H Q E h => ?_) (fun cdv A outer s H vs Q E hr h => ?_)
  · obtain ⟨rd, fd, ls, rfl, _⟩ := h; rfl
  obtain ⟨rd, fd, ls, rfl, S, hrd, hfd, hls, q⟩ := h
  refine ⟨_, (pss_cons (ps_set (i := 4) sc__law_parts.nd rfl (Or.inl rfl) (pe_lst pa_nil))
      (pss_cons (ps_set (i := 5) sc__law_parts.nd rfl (Or.inl rfl) (pe_ix ix_list (pe_lst (pa_cons pe_str (pa_cons pe_str (pa_cons pe_str pa_nil)))) (pe_call G__law_draw hr rfl T.m__law_draw T.k__law_draw T.n__law_draw .nil pass0 (pa_cons (pv 0) (pa_cons pe_int (pa_cons pe_int pa_nil)))) (fun _ _ => rfl)))
      (pss_cons (ps_for PassesOwn.never rfl (pi_range1 rfl T.b_range (pa_cons (pe_call G__law_draw hr rfl T.m__law_draw T.k__law_draw T.n__law_draw .nil pass0 (pa_cons (pv 0) (pa_cons pe_int (pa_cons pe_int pa_nil)))) pa_nil)) (pg_name (i := 6) sc__law_parts.nd rfl (Or.inl rfl)) (pss_cons (ps_set (i := 5) sc__law_parts.nd rfl (Or.inl rfl) (pe_call G__law_next hr rfl T.m__law_next T.k__law_next T.n__law_next .nil pass0 (pa_cons (pv 0) (pa_cons (pv 6) (pa_cons (pv 5) (pa_cons (pv 1) (pa_cons (pv 2) pa_nil)))))))
      (pss_cons (ps_set (i := 7) sc__law_parts.nd rfl (Or.inl rfl) (pe_op op_add pe_int (pe_call G__law_draw hr rfl T.m__law_draw T.k__law_draw T.n__law_draw .nil pass0 (pa_cons (pv 0) (pa_cons (pe_op op_add pe_int (pv 6)) (pa_cons pe_int pa_nil))))))
      (pss_cons (ps_if (pt_cmpR op_eq (pv 5) pe_str (nomark _)) (pss_one (ps_set (i := 7) sc__law_parts.nd rfl (Or.inl rfl) (pv 1))) pss_nil)
      (pss_cons (ps_if (pt_cmpR op_eq (pv 5) pe_str (nomark _)) (pss_one (ps_set (i := 7) sc__law_parts.nd rfl (Or.inl rfl) (pv 2))) pss_nil)
      (pss_cons (ps_if (pt_cmpR op_eq (pv 5) pe_str (nomark _)) (pss_one (ps_set (i := 7) sc__law_parts.nd rfl (Or.inl rfl) (pe_op op_add (pv 3) (pe_call G__law_draw hr rfl T.m__law_draw T.k__law_draw T.n__law_draw .nil pass0 (pa_cons (pv 0) (pa_cons (pe_op op_add pe_int (pv 6)) (pa_cons pe_int pa_nil))))))) pss_nil)
      (pss_one (ps_expr (pe_bm PySem.F.plainAttrs_list PySem.F.slot_list_append PySem.F.type_list_append mt_append (pv 4) (pa_cons (pe_lst (pa_cons (pv 5) (pa_cons (pv 7) pa_nil))) pa_nil))))))))))
      (pss_cons (ps_if (PW.pt (pw_and (pt_cmpR op_gt (pe_callB call_len_seq rfl T.b_len boot_b_len (pa_cons (pv 4) pa_nil)) pe_int (nomark _)) (pw_and1 (pt_cmpR op_eq (pe_call G__law_draw hr rfl T.m__law_draw T.k__law_draw T.n__law_draw .nil pass0 (pa_cons (pv 0) (pa_cons pe_int (pa_cons pe_int pa_nil)))) pe_int (nomark _))))) (pss_cons (ps_asg (pe_op op_add pe_int (pe_call G__law_draw hr rfl T.m__law_draw T.k__law_draw T.n__law_draw .nil pass0 (pa_cons (pv 0) (pa_cons pe_int (pa_cons (pe_ix ix_list (pe_ix ix_list (pv 4) pe_int (fun _ _ => rfl)) pe_int (fun _ _ => rfl)) pa_nil))))) (pg_sub (pe_ix ix_list (pv 4) pe_int (fun _ _ => rfl)) pe_int set_list))
      (pss_one (ps_asg (pe_op op_add pe_int (pe_call G__law_draw hr rfl T.m__law_draw T.k__law_draw T.n__law_draw .nil pass0 (pa_cons (pv 0) (pa_cons pe_int (pa_cons (pe_ix ix_list (pe_ix ix_list (pv 4) (pe_un un_neg pe_int) (fun _ _ => rfl)) pe_int (fun _ _ => rfl)) pa_nil))))) (pg_sub (pe_ix ix_list (pv 4) (pe_un un_neg pe_int) (fun _ _ => rfl)) pe_int set_list)))) pss_nil)
      (pss_one (ps_ret (pv 4))))))), ?_⟩
  have d1 := draw_lo ns 3 (m := 3) (by decide)
  have d2 := draw_hi ns 3 (m := 3) (by decide)
  have d3 := draw_lo ns 4 (m := 25) (by decide)
  have d4 := draw_hi ns 4 (m := 25) (by decide)
  (walk_at "RD"; repeat (simp only [sp_draw]; walk_at "RD"))
  refine ⟨Nat.zero_le _, fun pl hpl => ⟨by decide, fun p1 hp1 => ?_⟩⟩
  have s1 := (same_new (o := .lst []) hpl).trans (same_new (o := .lst [V.str (Str.ofString "stop"), V.str (Str.ofString "fade"), V.str (Str.ofString "ready")]) hp1)
  have S1 := (S.new (o := .lst []) hpl).new (o := .lst [V.str (Str.ofString "stop"), V.str (Str.ofString "fade"), V.str (Str.ofString "ready")]) hp1
  have e1 : (upd (upd H pl (.lst [])) p1 (.lst [V.str (Str.ofString "stop"), V.str (Str.ofString "fade"), V.str (Str.ofString "ready")])) p1 = some (.lst [V.str (Str.ofString "stop"), V.str (Str.ofString "fade"), V.str (Str.ofString "ready")]) := upd_same
  have e2 : (upd (upd H pl (.lst [])) p1 (.lst [V.str (Str.ofString "stop"), V.str (Str.ofString "fade"), V.str (Str.ofString "ready")])) pl = some (.lst []) := (same_new hp1) _ _ upd_same
  generalize upd (upd H pl (.lst [])) p1 (.lst [V.str (Str.ofString "stop"), V.str (Str.ofString "fade"), V.str (Str.ofString "ready")]) = H1 at s1 S1 e1 e2 ⊢
  obtain ⟨c0, hc0, ec0⟩ : ∃ c, c < 4 ∧ atI [V.str (Str.ofString "stop"), V.str (Str.ofString "fade"), V.str (Str.ofString "ready")] (draw ns 3 3) = some (.str (col c)) := by
    have : draw ns 3 3 = 0 ∨ draw ns 3 3 = 1 ∨ draw ns 3 3 = 2 := by omega
    rcases this with z | z | z
    · rw [z]; exact ⟨0, by decide, atI_nat (j := 0) rfl⟩
    · rw [z]; exact ⟨3, by decide, atI_nat (j := 1) rfl⟩
    · rw [z]; exact ⟨1, by decide, atI_nat (j := 2) rfl⟩
  refine ⟨S1, by decide, by decide, by decide, _, SqL.of e1, _, ec0, S1, by decide, by decide, by decide, by omega, by omega, ?_⟩
  refine ForW.range (fun i σ H' => Same H H' ∧ Sc K a ns H' ∧ (∃ f, PN H H' pl f ∧ fOk f 1 ∧ f.length = i) ∧ ∃ c x6 x7, c < 4 ∧ σ = [some (.ref a), some (.int rd), some (.int fd), some (.int ls), some (.ref pl), some (.str (col c)), x6, x7]) ?_ ?_ ?_
  · exact ⟨s1, S1, ⟨[], ⟨[], e2, rfl, List.nodup_nil, fun i q x h => by simp at h, fun q h => by simp at h, hpl⟩, fun x h => by simp at h, rfl⟩, c0, none, none, hc0, rfl⟩
  · rintro i σ H' hi ⟨sm, S2, ⟨f, hP, hf, hfl⟩, c, x6, x7, hc, rfl⟩
    have hi25 : i < 25 := by omega
    (walk_at "RD"; repeat (simp only [sp_draw]; walk_at "RD"))
    refine ⟨i, c, rd, fd, rfl, S2, by omega, hc, fun c' H2 hc' hr1 hf1 s2 S3 => ?_⟩
    have g1 := draw_lo ns (20 + (i : Int)) (m := 6) (by decide)
    have g2 := draw_hi ns (20 + (i : Int)) (m := 6) (by decide)
    have g3 := draw_lo ns (20 + (i : Int)) (m := 3) (by decide)
    have g4 := draw_hi ns (20 + (i : Int)) (m := 3) (by decide)
    have dec : ∀ k, k < 4 → decide (col c' = col k) = decide (c' = k) := fun k h => col_all c' hc' k h
    (walk_at "RD"; repeat (simp only [sp_draw]; walk_at "RD"))
    refine ⟨S3, by omega, by omega, by decide, ?_⟩
    have sm2 := sm.trans s2
    have hP2 := hP.same s2
    refine tS_any (fun σ H3 => H3 = H2 ∧ ∃ tn : Int, (1 ≤ tn ∧ tn ≤ 40) ∧ σ = [some (.ref a), some (.int rd), some (.int fd), some (.int ls), some (.ref pl), some (.str (col c')), some (.int i), some (.int tn)]) (fun D hD _ _ _ => ?_) ?_
    · refine tIfS_by (decide (c' = 1)) (fun Q hQ => ?_) (fun t1 => ?_) (fun t1 => ?_)
      · (walk_at "RD")
        rw [show Str.ofString "ready" = col 1 from rfl, dec 1 (by decide)]
        exact hQ
      · (walk_at "RD")
        have := hr1 (of_decide_eq_true t1)
        exact hD _ _ ⟨rfl, rd, by omega, rfl⟩
      · (walk_at "RD")
        exact hD _ _ ⟨rfl, _, by omega, rfl⟩
    · rintro σ H3 ⟨rfl, tn, htn, rfl⟩
      (walk_at "RD")
      refine tS_any (fun σ H4 => H4 = H3 ∧ ∃ tn : Int, (1 ≤ tn ∧ tn ≤ 40) ∧ σ = [some (.ref a), some (.int rd), some (.int fd), some (.int ls), some (.ref pl), some (.str (col c')), some (.int i), some (.int tn)]) (fun D hD _ _ _ => ?_) ?_
      · refine tIfS_by (decide (c' = 3)) (fun Q hQ => ?_) (fun t1 => ?_) (fun t1 => ?_)
        · (walk_at "RD")
          rw [show Str.ofString "fade" = col 3 from rfl, dec 3 (by decide)]
          exact hQ
        · (walk_at "RD")
          have := hf1 (of_decide_eq_true t1)
          exact hD _ _ ⟨rfl, fd, by omega, rfl⟩
        · (walk_at "RD")
          exact hD _ _ ⟨rfl, _, htn, rfl⟩
      · rintro σ H4 ⟨rfl, tn2, htn2, rfl⟩
        (walk_at "RD")
        refine tS_any (fun σ H5 => H5 = H4 ∧ ∃ tn : Int, (1 ≤ tn ∧ tn ≤ 40) ∧ σ = [some (.ref a), some (.int rd), some (.int fd), some (.int ls), some (.ref pl), some (.str (col c')), some (.int i), some (.int tn)]) (fun D hD _ _ _ => ?_) ?_
        · refine tIfS_by (decide (c' = 2)) (fun Q hQ => ?_) (fun t1 => ?_) (fun t1 => ?_)
          · (walk_at "RD")
            rw [show Str.ofString "free" = col 2 from rfl, dec 2 (by decide)]
            exact hQ
          · (walk_at "RD"; repeat (simp only [sp_draw]; walk_at "RD"))
            exact ⟨S3, by omega, by omega, by decide, hD _ _ ⟨rfl, _, by omega, rfl⟩⟩
          · (walk_at "RD")
            exact hD _ _ ⟨rfl, _, htn2, rfl⟩
        · rintro σ H5 ⟨rfl, tn3, htn3, rfl⟩
          obtain ⟨m, hm⟩ : ∃ m : Nat, tn3 = (m : Int) := ⟨tn3.toNat, by omega⟩
          subst hm
          obtain ⟨qs, l1, l2, l3, al, n1, n2⟩ := hP2
          (walk_at "RD")
          refine ⟨.inl ⟨_, SqL.of l1⟩, by decide, fun p2 hp2 => ⟨_, (same_new hp2) _ _ l1, ?_, ?_, ?_, ⟨f ++ [(c', m)], PN.snoc (x := (c', m)) l1 l2 l3 al n1 n2 hp2 (sm2.free hp2), hf.snoc ⟨hc', by omega, by omega⟩, by rw [List.length_append, hfl]; rfl⟩, c', hc', rfl, _, rfl⟩⟩
          · rw [List.length_map]
            exact Nat.lt_of_le_of_lt (show qs.length ≤ 25 by omega) (by decide)
          · exact (sm2.trans (same_new hp2)).updN n2
          · exact (S3.new hp2).set ((same_new hp2) _ _ l1) (fun ob z e => by cases e)
  · rintro σ H' ⟨sm, S2, ⟨f, hP, hf, hfl⟩, c, x6, x7, hc, rfl⟩
    obtain ⟨qs, l1, l2, l3, al, n1, n2⟩ := id hP
    have at1 : ∀ (x : Str) (n : Int), atI [V.str x, .int n] 1 = some (.int n) := fun x n => atI_nat (j := 1) rfl
    have ix1 : ∀ (x y : V), ixN [x, y].length 1 = some 1 := fun x y => rfl
    (walk_at "RD")
    refine tIfS_by (decide (0 < f.length) && decide (draw ns 5 2 = 1)) (fun Q hQ => ?_) (fun t1 => ?_) (fun t1 => ?_)
    · (walk_at "RD"; repeat (simp only [sp_draw]; walk_at "RD"))
      refine ⟨_, .inl (SqL.of l1), ?_⟩
      rw [List.length_map, l2]
      by_cases y1 : 0 < f.length
      · rw [if_pos (by simpa using y1)]
        rw [decide_eq_true y1, Bool.true_and] at hQ
        exact ⟨S2, by decide, by decide, by decide, hQ⟩
      · rw [if_neg (by simpa using y1)]
        rw [decide_eq_false y1, Bool.false_and] at hQ
        exact hQ
    · have hpos : 0 < f.length := by
        rw [Bool.and_eq_true] at t1
        exact of_decide_eq_true t1.1
      have hq0 : qs[0]? = some (qs[0]'(by omega)) := List.getElem?_eq_getElem _
      have hf0 : f[0]? = some (f[0]'(by omega)) := List.getElem?_eq_getElem _
      have a0 : atI (qs.map V.ref) 0 = some (.ref (qs[0]'(by omega))) := atI_nat (j := 0) (by rw [List.getElem?_map, hq0]; rfl)
      have ea := al 0 _ _ hq0 hf0
      obtain ⟨g1, g2, g3⟩ := hf.at hf0
      have w1 := draw_lo ns 6 (m := ((f[0]'(by omega)).2 : Int)) (by omega)
      have w2 := draw_hi ns 6 (m := ((f[0]'(by omega)).2 : Int)) (by omega)
      (walk_at "RD"; repeat (simp only [sp_draw]; walk_at "RD"))
      refine ⟨_, SqL.of l1, _, a0, _, rfl, _, SqL.of ea, _, at1 _ _, _, rfl, S2, by decide, by decide, by omega, _, SqL.of l1, _, a0, _, rfl, _, ea, 1, rfl, ?_⟩
      obtain ⟨m0, hm0⟩ : ∃ m : Nat, (1 : Int) + draw ns 6 ((f[0]'(by omega)).2 : Int) = (m : Int) := ⟨(1 + draw ns 6 ((f[0]'(by omega)).2 : Int)).toNat, by omega⟩
      rw [hm0]
      simp only [List.set_cons_zero, List.set_cons_succ]
      have P2 := PN.set (y := ((f[0]'(by omega)).1, m0)) l1 l2 l3 al n1 n2 hq0 hf0
      have S5 : Sc K a ns (upd H' (qs[0]'(by omega)) (.lst [.str (col (f[0]'(by omega)).1), .int (m0 : Nat)])) := S2.set ea (fun ob z e => by cases e)
      have s5 : Same H (upd H' (qs[0]'(by omega)) (.lst [.str (col (f[0]'(by omega)).1), .int (m0 : Nat)])) := sm.updN (n1 _ (List.mem_of_getElem? hq0))
      have hf5 := hf.set (i := 0) (y := ((f[0]'(by omega)).1, m0)) ⟨g1, by show 1 ≤ m0; omega, by show m0 ≤ 40; omega⟩
      have hl5 : (f.set 0 ((f[0]'(by omega)).1, m0)).length = f.length := List.length_set
      generalize f.set 0 ((f[0]'(by omega)).1, m0) = f5 at P2 hf5 hl5
      generalize upd H' (qs[0]'(by omega)) (.lst [.str (col (f[0]'(by omega)).1), .int (m0 : Nat)]) = H5 at P2 S5 s5 ⊢
      obtain ⟨qs5, r1, r2, r3, al5, u1, u2⟩ := id P2
      have hqz : qs5[qs5.length - 1]? = some (qs5[qs5.length - 1]'(by omega)) := List.getElem?_eq_getElem _
      have hfz : f5[qs5.length - 1]? = some (f5[qs5.length - 1]'(by omega)) := List.getElem?_eq_getElem _
      have az : atI (qs5.map V.ref) (-1) = some (.ref (qs5[qs5.length - 1]'(by omega))) := atI_neg1 (by rw [List.length_map]; omega) (by rw [List.length_map, List.getElem?_map, hqz]; rfl)
      have ez := al5 _ _ _ hqz hfz
      obtain ⟨z1, z2, z3⟩ := hf5.at hfz
      have w3 := draw_lo ns 7 (m := ((f5[qs5.length - 1]'(by omega)).2 : Int)) (by omega)
      have w4 := draw_hi ns 7 (m := ((f5[qs5.length - 1]'(by omega)).2 : Int)) (by omega)
      refine ⟨_, SqL.of r1, _, az, _, rfl, _, SqL.of ez, _, at1 _ _, _, rfl, S5, by decide, by decide, by omega, _, SqL.of r1, _, az, _, rfl, _, ez, 1, rfl, ?_⟩
      obtain ⟨m1, hm1⟩ : ∃ m : Nat, (1 : Int) + draw ns 7 ((f5[qs5.length - 1]'(by omega)).2 : Int) = (m : Int) := ⟨(1 + draw ns 7 ((f5[qs5.length - 1]'(by omega)).2 : Int)).toNat, by omega⟩
      rw [hm1]
      simp only [List.set_cons_zero, List.set_cons_succ]
      exact q pl _ _ (s5.updN (u1 _ (List.mem_of_getElem? hqz))) (S5.set ez (fun ob z e => by cases e)) (PN.set (y := ((f5[qs5.length - 1]'(by omega)).1, m1)) r1 r2 r3 al5 u1 u2 hqz hfz) (hf5.set ⟨z1, by show 1 ≤ m1; omega, by show m1 ≤ 40; omega⟩) (by rw [List.length_set]; omega)
    · (walk_at "RD")
      exact q pl f H' sm S2 hP hf (by omega)
end
end My
namespace My
open PySem L2
def ins {α : Type} (l : List α) (i : Nat) (a : α) : List α := l.take i ++ a :: l.drop i
theorem ins_get {α : Type} {l : List α} {i : Nat} {a : α} (hi : i ≤ l.length) (j : Nat) : (ins l i a)[j]? = if j < i then l[j]? else if j = i then some a else l[j - 1]? := by
  unfold ins
  have ht : (l.take i).length = i := by rw [List.length_take]; omega
  by_cases h1 : j < i
  · rw [if_pos h1, List.getElem?_append_left (by omega), List.getElem?_take_of_lt h1]
  · rw [if_neg h1, List.getElem?_append_right (by omega), ht]
    by_cases h2 : j = i
    · subst h2; rw [if_pos rfl]; simp
    · rw [if_neg h2, show j - i = (j - 1 - i) + 1 by omega, List.getElem?_cons_succ, List.getElem?_drop, show i + (j - 1 - i) = j - 1 by omega]
theorem ins_len {α : Type} {l : List α} {i : Nat} {a : α} (hi : i ≤ l.length) : (ins l i a).length = l.length + 1 := by
  unfold ins
  rw [List.length_append, List.length_cons, List.length_take, List.length_drop]; omega
theorem ins_nodup {α : Type} {l : List α} {i : Nat} {a : α} (h : l.Nodup) (n : a ∉ l) : (ins l i a).Nodup := by
  unfold ins
  rw [(List.perm_middle).nodup_iff, List.nodup_cons, List.take_append_drop]
  exact ⟨n, h⟩
theorem ins_mem {α : Type} {l : List α} {i : Nat} {a x : α} (h : x ∈ ins l i a) : x = a ∨ x ∈ l := by
  unfold ins at h
  rcases List.mem_append.mp h with z | z
  · exact .inr (List.mem_of_mem_take z)
  · rcases List.mem_cons.mp z with z | z
    · exact .inl z
    · exact .inr (List.mem_of_mem_drop z)
theorem ins_map {α β : Type} (f : α → β) (l : List α) (i : Nat) (a : α) : (ins l i a).map f = ins (l.map f) i (f a) := by
  unfold ins
  rw [List.map_append, List.map_cons, List.map_take, List.map_drop]
theorem er_nodup {α : Type} {l : List α} (h : l.Nodup) (r : Nat) : (l.eraseIdx r).Nodup := h.sublist (List.eraseIdx_sublist ..)
theorem er_map {α β : Type} (f : α → β) (l : List α) (r : Nat) : (l.map f).eraseIdx r = (l.eraseIdx r).map f := by
  rw [List.eraseIdx_eq_take_drop_succ, List.eraseIdx_eq_take_drop_succ, List.map_append, List.map_take, List.map_drop]
theorem PN.erase {H0 H : Hp} {p : Addr} {f : List (Nat × Nat)} {qs : List Addr} {r : Nat} (e1 : H p = some (.lst (qs.map V.ref))) (e2 : qs.length = f.length) (e3 : qs.Nodup)
    (al : ∀ (i : Nat) (q : Addr) (x : Nat × Nat), qs[i]? = some q → f[i]? = some x → H q = some (.lst [.str (col x.1), .int (x.2 : Nat)])) (n1 : ∀ q ∈ qs, H0 q = none) (n2 : H0 p = none) (hr : r < f.length) :
    PN H0 (upd H p (.lst ((qs.map V.ref).eraseIdx r))) p (f.eraseIdx r) := by
  refine ⟨qs.eraseIdx r, by rw [upd_same, er_map], by rw [List.length_eraseIdx_of_lt (by omega), List.length_eraseIdx_of_lt hr, e2], er_nodup e3 r, fun j q x h1 h2 => ?_, fun q hq => n1 q (List.mem_of_mem_eraseIdx hq), n2⟩
  rw [List.getElem?_eraseIdx] at h1 h2
  by_cases hj : j < r
  · rw [if_pos hj] at h1 h2
    have := al j q x h1 h2
    rw [upd_ne (part_ne e1 this)]; exact this
  · rw [if_neg hj] at h1 h2
    have := al (j + 1) q x h1 h2
    rw [upd_ne (part_ne e1 this)]; exact this
theorem PN.ins {H0 H : Hp} {p a : Addr} {f : List (Nat × Nat)} {x : Nat × Nat} {qs : List Addr} {r : Nat} (e1 : H p = some (.lst (qs.map V.ref))) (e2 : qs.length = f.length) (e3 : qs.Nodup)
    (al : ∀ (i : Nat) (q : Addr) (x : Nat × Nat), qs[i]? = some q → f[i]? = some x → H q = some (.lst [.str (col x.1), .int (x.2 : Nat)])) (n1 : ∀ q ∈ qs, H0 q = none) (n2 : H0 p = none) (ha : H a = none) (ha0 : H0 a = none) (hr : r ≤ f.length) :
    PN H0 (upd (upd H a (.lst [.str (col x.1), .int (x.2 : Nat)])) p (.lst (My.ins (qs.map V.ref) r (.ref a)))) p (My.ins f r x) := by
  have hap : a ≠ p := (ne_of_none e1 ha).symm
  have hm : a ∉ qs := fun z => by
    obtain ⟨j, hj, e⟩ := List.getElem_of_mem z
    have := al j a _ (by rw [List.getElem?_eq_getElem hj, e]) (List.getElem?_eq_getElem (show j < f.length by omega))
    rw [ha] at this; cases this
  refine ⟨My.ins qs r a, by rw [upd_same, ins_map], by rw [ins_len (by omega), ins_len hr, e2], ins_nodup e3 hm, fun j q y h1 h2 => ?_, fun q hq => ?_, n2⟩
  · rw [ins_get (by omega)] at h1
    rw [ins_get hr] at h2
    by_cases c1 : j < r
    · rw [if_pos c1] at h1 h2
      have := al j q y h1 h2
      rw [upd_ne (part_ne e1 this), upd_ne (ne_of_none this ha)]; exact this
    · rw [if_neg c1] at h1 h2
      by_cases c2 : j = r
      · rw [if_pos c2] at h1 h2
        cases h1
        cases h2
        rw [upd_ne hap, upd_same]
      · rw [if_neg c2] at h1 h2
        have := al (j - 1) q y h1 h2
        rw [upd_ne (part_ne e1 this), upd_ne (ne_of_none this ha)]; exact this
  · rcases ins_mem hq with z | z
    · subst z; exact ha0
    · exact n1 q z
def fB (f : List (Nat × Nat)) : Prop := ∀ x ∈ f, x.1 < 4 ∧ x.2 ≤ 41
def sp_lspoil (K : PySem.W.Frag) (a : Addr) (ns : List Int) : Sp := fun vs H Q _ => ∃ p f, vs = [.ref a, .ref p] ∧ Sc K a ns H ∧ PAt H p f ∧ fOk f 1 ∧ f.length ≤ 24 ∧ ∀ p' f' H', Same H H' → Sc K a ns H' → PAt H' p' f' → (∀ x ∈ f', x.1 < 4 ∧ x.2 ≤ 41) → f'.length ≤ 25 → Q (.ref p') H'
section
variable {P : Program} {w : World} {K : PySem.W.Frag} {mg : Str → Option Value} {base : Heap} {t : Adr}
theorem ok_lspoil (T : Txt w K mg t) (a : Addr) (ns : List Int) (h63 : ns.length ≤ 63) : FnOk P w K mg base CX0 2 t.a__law_spoiled t.d__law_spoiled ["_law_script", "_law_parts_here"] (sp_lspoil K a ns) := by
  have G__law_draw : FnOk P w K mg base CX0 1 t.a__law_draw t.d__law_draw ["_law_script", "_law_k", "_law_many"] (sp_draw K a ns) := ok_draw T a ns h63
  refine T.F__law_spoiled.ok sc__law_spoiled (fun vs H Q E h => ?_) (fun cdv A outer s H vs Q E hr h => ?_)
  · obtain ⟨p, f, rfl, _⟩ := h; rfl
  obtain ⟨p, f, rfl, S, ⟨qs, l1, l2, l3, al⟩, hf, hfl, q⟩ := h
  refine ⟨_, (pss_cons (ps_setComp (i := 2) sc__law_spoiled.nd rfl (Or.inl rfl) rfl (pi_list (pv 1)) (cscope_of (sc := defScope s__law_spoiled) rfl (by decide +kernel)) (N := ["_law_part"]) (sel := [none]) (selOk_of (M := ["_law_script", "_law_parts_here", "_law_spoiled_here", "_law_at", "_law_way", "_law_other"]) (by decide +kernel)) (Blk.of (fun _ _ _ _ => (pg_name (i := 0) (nd_of (N := ["_law_part"]) (by decide +kernel) rfl) rfl (Or.inl rfl))) (fun _ _ _ _ => ⟨_, pts_nil, by first | rfl | (dsimp only [Cx.block]; done) | (dsimp only [Cx.block]; exact rfl)⟩) (fun _ _ _ _ => ⟨_, (pe_callTy call_list_of rfl T.b_list boot_t_list (pa_cons (pv 0) pa_nil)), by first | rfl | (dsimp only [Cx.block]; done) | (dsimp only [Cx.block]; exact rfl)⟩)) rfl)
      (pss_cons (ps_if (pt_cmpR op_eq (pe_callB call_len_seq rfl T.b_len boot_b_len (pa_cons (pv 2) pa_nil)) pe_int (nomark _)) (pss_one (ps_ret (pe_lst (pa_cons (pe_lst (pa_cons pe_str (pa_cons (pe_op op_add pe_int (pe_call G__law_draw hr rfl T.m__law_draw T.k__law_draw T.n__law_draw .nil pass0 (pa_cons (pv 0) (pa_cons pe_int (pa_cons pe_int pa_nil))))) pa_nil))) pa_nil)))) pss_nil)
      (pss_cons (ps_set (i := 3) sc__law_spoiled.nd rfl (Or.inl rfl) (pe_call G__law_draw hr rfl T.m__law_draw T.k__law_draw T.n__law_draw .nil pass0 (pa_cons (pv 0) (pa_cons pe_int (pa_cons (pe_callB call_len_seq rfl T.b_len boot_b_len (pa_cons (pv 2) pa_nil)) pa_nil)))))
      (pss_cons (ps_set (i := 4) sc__law_spoiled.nd rfl (Or.inl rfl) (pe_call G__law_draw hr rfl T.m__law_draw T.k__law_draw T.n__law_draw .nil pass0 (pa_cons (pv 0) (pa_cons pe_int (pa_cons pe_int pa_nil)))))
      (pss_cons (ps_set (i := 5) sc__law_spoiled.nd rfl (Or.inl rfl) (pe_ix ix_list (pe_lst (pa_cons pe_str (pa_cons pe_str (pa_cons pe_str (pa_cons pe_str pa_nil))))) (pe_call G__law_draw hr rfl T.m__law_draw T.k__law_draw T.n__law_draw .nil pass0 (pa_cons (pv 0) (pa_cons pe_int (pa_cons pe_int pa_nil)))) (fun _ _ => rfl)))
      (pss_cons (ps_if (pt_cmpR op_eq (pv 4) pe_int (nomark _)) (pss_one (ps_asg (pe_op op_add (pe_ix ix_list (pe_ix ix_list (pv 2) (pv 3) (fun _ _ => rfl)) pe_int (fun _ _ => rfl)) pe_int) (pg_sub (pe_ix ix_list (pv 2) (pv 3) (fun _ _ => rfl)) pe_int set_list))) pss_nil)
      (pss_cons (ps_if (pt_cmpR op_eq (pv 4) pe_int (nomark _)) (pss_one (ps_asg (pe_op op_sub (pe_ix ix_list (pe_ix ix_list (pv 2) (pv 3) (fun _ _ => rfl)) pe_int (fun _ _ => rfl)) pe_int) (pg_sub (pe_ix ix_list (pv 2) (pv 3) (fun _ _ => rfl)) pe_int set_list))) pss_nil)
      (pss_cons (ps_if (pt_cmpR op_eq (pv 4) pe_int (nomark _)) (pss_one (ps_expr (pe_bm PySem.F.plainAttrs_list PySem.F.slot_list_pop PySem.F.type_list_pop mt_popAt (pv 2) (pa_cons (pv 3) pa_nil)))) pss_nil)
      (pss_cons (ps_if (pt_cmpR op_eq (pv 4) pe_int (nomark _)) (pss_one (ps_expr (pe_bm PySem.F.plainAttrs_list PySem.F.slot_list_insert PySem.F.type_list_insert mt_insert (pv 2) (pa_cons (pv 3) (pa_cons (pe_lst (pa_cons (pv 5) (pa_cons pe_int pa_nil))) pa_nil))))) pss_nil)
      (pss_cons (ps_if (pt_cmpR op_eq (pv 4) pe_int (nomark _)) (pss_one (ps_asg (pv 5) (pg_sub (pe_ix ix_list (pv 2) (pv 3) (fun _ _ => rfl)) pe_int set_list))) pss_nil)
      (pss_one (ps_ret (pv 2))))))))))))), ?_⟩
  (walk_at "RD")
  refine ⟨⟨_, SqL.of l1⟩, ?_⟩
  refine CompR.list (xs := qs.map V.ref) (fun i ys H' => Same H H' ∧ Sc K a ns H' ∧ ∃ rs : List Addr, ys = rs.map V.ref ∧ rs.length = i ∧ rs.Nodup ∧ (∀ (j : Nat) (r : Addr) (x : Nat × Nat), rs[j]? = some r → f[j]? = some x → H' r = some (.lst [.str (col x.1), .int (x.2 : Nat)])) ∧ ∀ r ∈ rs, H r = none)
    (by rw [List.length_map]; exact Nat.le_trans (show qs.length ≤ 30 by omega) (by decide)) ⟨Same.refl H, S, [], rfl, rfl, List.nodup_nil, fun j r x h => by simp at h, fun r h => by simp at h⟩ ?_ ?_ ?_
  · rintro i ys H' hi ⟨sm, S', rs, rfl, hrl, _⟩
    exact ⟨SqL.of (sm _ _ l1), by rw [List.length_map]; omega⟩
  · rintro i v ys H' hv ⟨sm, S', rs, rfl, hrl, hnd, hra, hrn⟩ N hN
    obtain ⟨b, hb, rfl⟩ := map_at hv
    have hif : i < f.length := by rw [← l2]; exact (List.getElem?_eq_some_iff.mp hb).1
    have hfi : f[i]? = some f[i] := List.getElem?_eq_getElem hif
    have eb := al i b _ hb hfi
    (walk_at "RD")
    refine ⟨Sub.name, _, .inl (SqL.of (sm _ _ eb)), fun r hr => hN _ _ ⟨sm.trans (same_new hr), S'.new hr, rs ++ [r], by rw [List.map_append]; rfl, by rw [List.length_append, hrl]; rfl, ?_, fun j r' x h1 h2 => ?_, fun r' hr' => ?_⟩⟩
    · refine nodup_snoc hnd fun z => ?_
      obtain ⟨j, hj, e⟩ := List.getElem_of_mem z
      have := hra j r _ (by rw [List.getElem?_eq_getElem hj, e]) (List.getElem?_eq_getElem (show j < f.length by omega))
      rw [hr] at this; cases this
    · rcases snoc_at h1 with ⟨z1, z2⟩ | ⟨z1, rfl⟩
      · exact (same_new hr) _ _ (hra j r' x z2 h2)
      · rw [hrl] at z1
        subst z1
        rw [hfi] at h2
        cases h2
        exact upd_same
    · rcases List.mem_append.mp hr' with z | z
      · exact hrn r' z
      · rw [List.mem_singleton] at z; subst z; exact sm.free hr
  · rintro ys H' ⟨sm, S', rs, rfl, hrl, hnd, hra, hrn⟩ sp hsp
    rw [List.length_map, l2] at hrl
    have s1 : Same H (upd H' sp (.lst (rs.map V.ref))) := sm.trans (same_new hsp)
    have S1 : Sc K a ns (upd H' sp (.lst (rs.map V.ref))) := S'.new hsp
    have P1 : PN H (upd H' sp (.lst (rs.map V.ref))) sp f := ⟨rs, upd_same, hrl, hnd, fun j r x h1 h2 => (same_new hsp) _ _ (hra j r x h1 h2), hrn, sm.free hsp⟩
    generalize upd H' sp (.lst (rs.map V.ref)) = H1 at s1 S1 P1 ⊢
    obtain ⟨rs, r1, r2, r3, ra, u1, u2⟩ := id P1
    (walk_at "RD")
    refine tIfS_by (decide (f.length = 0)) (fun Q hQ => ?_) (fun t1 => ?_) (fun t1 => ?_)
    · (walk_at "RD")
      refine ⟨_, .inl (SqL.of r1), ?_⟩
      rw [List.length_map, r2, show decide ((f.length : Int) = 0) = decide (f.length = 0) by rw [Bool.eq_iff_iff, decide_eq_true_eq, decide_eq_true_eq]; omega]
      exact hQ
    · have w1 := draw_lo ns 8 (m := 3) (by decide)
      have w2 := draw_hi ns 8 (m := 3) (by decide)
      (walk_at "RD"; repeat (simp only [sp_draw]; walk_at "RD"))
      refine ⟨S1, by decide, by decide, by decide, by decide, fun b1 hb1 => ⟨by decide, fun b2 hb2 => ?_⟩⟩
      obtain ⟨m, hm⟩ : ∃ m : Nat, (1 : Int) + draw ns 8 3 = (m : Int) := ⟨((1 : Int) + draw ns 8 3).toNat, by omega⟩
      rw [hm] at hb2 ⊢
      refine q b2 [(1, m)] _ ((s1.trans (same_new hb1)).trans (same_new hb2)) ((S1.new hb1).new hb2) ⟨[b1], upd_same, rfl, by simp, fun i r x h1 h2 => ?_⟩ (fun x hx => ?_) (show (1 : Nat) ≤ 25 by decide)
      · have hi0 : i = 0 := by
          cases i with
          | zero => rfl
          | succ i => simp at h1
        subst hi0
        cases h1
        cases h2
        rw [upd_ne (ne_of_none upd_same hb2), upd_same]; rfl
      · rw [List.mem_singleton] at hx
        subst hx
        exact ⟨show 1 < 4 by decide, show m ≤ 41 by omega⟩
    · have hf0 : 0 < f.length := by have := of_decide_eq_false t1; omega
      have w1 := draw_lo ns 8 (m := (f.length : Int)) (by omega)
      have w2 := draw_hi ns 8 (m := (f.length : Int)) (by omega)
      have w3 := draw_lo ns 9 (m := 5) (by decide)
      have w4 := draw_hi ns 9 (m := 5) (by decide)
      have w5 := draw_lo ns 10 (m := 4) (by decide)
      have w6 := draw_hi ns 10 (m := 4) (by decide)
      (walk_at "RD"; repeat (simp only [sp_draw]; walk_at "RD"))
      refine ⟨_, .inl (SqL.of r1), ?_⟩
      rw [List.length_map, r2]
      refine ⟨S1, by decide, by decide, by omega, S1, by decide, by decide, by decide, by decide, fun b1 hb1 => ?_⟩
      have S3 : Sc K a ns (upd H1 b1 (.lst [V.str (Str.ofString "stop"), V.str (Str.ofString "ready"), V.str (Str.ofString "free"), V.str (Str.ofString "fade")])) := S1.new hb1
      have s3 : Same H (upd H1 b1 (.lst [V.str (Str.ofString "stop"), V.str (Str.ofString "ready"), V.str (Str.ofString "free"), V.str (Str.ofString "fade")])) := s1.trans (same_new hb1)
      have P3 := P1.same (same_new (o := .lst [V.str (Str.ofString "stop"), V.str (Str.ofString "ready"), V.str (Str.ofString "free"), V.str (Str.ofString "fade")]) hb1)
      have e3 : (upd H1 b1 (.lst [V.str (Str.ofString "stop"), V.str (Str.ofString "ready"), V.str (Str.ofString "free"), V.str (Str.ofString "fade")])) b1 = some (.lst [V.str (Str.ofString "stop"), V.str (Str.ofString "ready"), V.str (Str.ofString "free"), V.str (Str.ofString "fade")]) := upd_same
      generalize upd H1 b1 (.lst [V.str (Str.ofString "stop"), V.str (Str.ofString "ready"), V.str (Str.ofString "free"), V.str (Str.ofString "fade")]) = H3 at S3 s3 P3 e3 ⊢
      obtain ⟨oc, hoc, eoc⟩ : ∃ c, c < 4 ∧ atI [V.str (Str.ofString "stop"), V.str (Str.ofString "ready"), V.str (Str.ofString "free"), V.str (Str.ofString "fade")] (draw ns 10 4) = some (.str (col c)) := by
        have : draw ns 10 4 = 0 ∨ draw ns 10 4 = 1 ∨ draw ns 10 4 = 2 ∨ draw ns 10 4 = 3 := by omega
        rcases this with z | z | z | z
        · rw [z]; exact ⟨0, by decide, atI_nat (j := 0) rfl⟩
        · rw [z]; exact ⟨1, by decide, atI_nat (j := 1) rfl⟩
        · rw [z]; exact ⟨2, by decide, atI_nat (j := 2) rfl⟩
        · rw [z]; exact ⟨3, by decide, atI_nat (j := 3) rfl⟩
      refine ⟨S3, by decide, by decide, by decide, _, SqL.of e3, _, eoc, ?_⟩
      obtain ⟨r, hr⟩ : ∃ r : Nat, draw ns 8 (f.length : Int) = (r : Int) := ⟨(draw ns 8 (f.length : Int)).toNat, by omega⟩
      have hrl : r < f.length := by omega
      rw [hr]
      generalize draw ns 9 5 = W at w3 w4 ⊢
      have hfr : f[r]? = some f[r] := List.getElem?_eq_getElem hrl
      obtain ⟨v1, v2, v3⟩ := hf.at hfr
      have at1 : ∀ (x : Str) (n : Int), atI [V.str x, .int n] 1 = some (.int n) := fun x n => atI_nat (j := 1) rfl
      have fB0 : fB f := fun x hx => ⟨(hf x hx).1, by have := (hf x hx).2.2; omega⟩
      have fBset : ∀ y : Nat × Nat, y.1 < 4 → y.2 ≤ 41 → fB (f.set r y) := fun y h1 h2 x hx => by
        rcases List.mem_or_eq_of_mem_set hx with z | z
        · exact fB0 x z
        · subst z; exact ⟨h1, h2⟩
      have X0 : Same H H3 ∧ Sc K a ns H3 ∧ (∃ f', PN H H3 sp f' ∧ fB f' ∧ f'.length ≤ 25 ∧ ((0 : Int) ≤ W → f' = f)) := ⟨s3, S3, f, P3, fB0, by omega, fun _ => rfl⟩
      refine tS_any (fun σ H' => Same H H' ∧ Sc K a ns H' ∧ (∃ f', PN H H' sp f' ∧ fB f' ∧ f'.length ≤ 25 ∧ (1 ≤ W → f' = f)) ∧ σ = [some (.ref a), some (.ref p), some (.ref sp), some (.int (r : Nat)), some (.int W), some (.str (col oc))]) (fun D hD _ _ _ => ?_) ?_
      · obtain ⟨sm, Sx, f', Pf, hB, hL, hE⟩ := X0
        refine tIfS_by (decide (W = 0)) (fun Q hQ => ?_) (fun t => ?_) (fun t => ?_)
        · (walk_at "RD")
          exact hQ
        · have hW := of_decide_eq_true t
          have hE' := hE (by omega)
          rw [hE'] at Pf
          obtain ⟨gs, g1, g2, g3, ga, n1, n2⟩ := Pf
          obtain ⟨rr, hqr⟩ : ∃ rr, gs[r]? = some rr := ⟨gs[r]'(by omega), List.getElem?_eq_getElem _⟩
          have ea := ga r rr _ hqr hfr
          have ar : atI (gs.map V.ref) (r : Nat) = some (.ref rr) := atI_nat (by rw [List.getElem?_map, hqr]; rfl)
          (walk_at "RD")
          have e9 : ((f[r].2 : Nat) : Int) + 1 = ((f[r].2 + 1 : Nat) : Int) := by omega
          refine ⟨_, SqL.of g1, _, ar, _, rfl, _, SqL.of ea, _, at1 _ _, _, rfl, _, SqL.of g1, _, ar, _, rfl, _, ea, 1, rfl, ?_⟩
          rw [e9]
          exact hD _ _ ⟨sm.updN (n1 _ (List.mem_of_getElem? hqr)), Sx.set ea (fun ob z e => by cases e), ⟨_, PN.set (y := (f[r].1, f[r].2 + 1)) g1 g2 g3 ga n1 n2 hqr hfr, fBset _ v1 (by show f[r].2 + 1 ≤ 41; omega), by rw [List.length_set]; omega, fun z => by omega⟩, rfl⟩
        · have hW := of_decide_eq_false t
          (walk_at "RD")
          exact hD _ _ ⟨sm, Sx, ⟨f', Pf, hB, hL, fun z => hE (by omega)⟩, rfl⟩
      rintro σ Hx0 ⟨sm0, Sx0, X1', rfl⟩
      have X1 := And.intro sm0 (And.intro Sx0 X1')
      (walk_at "RD")
      refine tS_any (fun σ H' => Same H H' ∧ Sc K a ns H' ∧ (∃ f', PN H H' sp f' ∧ fB f' ∧ f'.length ≤ 25 ∧ (2 ≤ W → f' = f)) ∧ σ = [some (.ref a), some (.ref p), some (.ref sp), some (.int (r : Nat)), some (.int W), some (.str (col oc))]) (fun D hD _ _ _ => ?_) ?_
      · obtain ⟨sm, Sx, f', Pf, hB, hL, hE⟩ := X1
        refine tIfS_by (decide (W = 1)) (fun Q hQ => ?_) (fun t => ?_) (fun t => ?_)
        · (walk_at "RD")
          exact hQ
        · have hW := of_decide_eq_true t
          have hE' := hE (by omega)
          rw [hE'] at Pf
          obtain ⟨gs, g1, g2, g3, ga, n1, n2⟩ := Pf
          obtain ⟨rr, hqr⟩ : ∃ rr, gs[r]? = some rr := ⟨gs[r]'(by omega), List.getElem?_eq_getElem _⟩
          have ea := ga r rr _ hqr hfr
          have ar : atI (gs.map V.ref) (r : Nat) = some (.ref rr) := atI_nat (by rw [List.getElem?_map, hqr]; rfl)
          (walk_at "RD")
          have e9 : ((f[r].2 : Nat) : Int) - 1 = ((f[r].2 - 1 : Nat) : Int) := by omega
          refine ⟨_, SqL.of g1, _, ar, _, rfl, _, SqL.of ea, _, at1 _ _, _, rfl, _, SqL.of g1, _, ar, _, rfl, _, ea, 1, rfl, ?_⟩
          rw [e9]
          exact hD _ _ ⟨sm.updN (n1 _ (List.mem_of_getElem? hqr)), Sx.set ea (fun ob z e => by cases e), ⟨_, PN.set (y := (f[r].1, f[r].2 - 1)) g1 g2 g3 ga n1 n2 hqr hfr, fBset _ v1 (by show f[r].2 - 1 ≤ 41; omega), by rw [List.length_set]; omega, fun z => by omega⟩, rfl⟩
        · have hW := of_decide_eq_false t
          (walk_at "RD")
          exact hD _ _ ⟨sm, Sx, ⟨f', Pf, hB, hL, fun z => hE (by omega)⟩, rfl⟩
      rintro σ Hx1 ⟨sm1, Sx1, X2', rfl⟩
      have X2 := And.intro sm1 (And.intro Sx1 X2')
      (walk_at "RD")
      refine tS_any (fun σ H' => Same H H' ∧ Sc K a ns H' ∧ (∃ f', PN H H' sp f' ∧ fB f' ∧ f'.length ≤ 25 ∧ (3 ≤ W → f' = f)) ∧ σ = [some (.ref a), some (.ref p), some (.ref sp), some (.int (r : Nat)), some (.int W), some (.str (col oc))]) (fun D hD _ _ _ => ?_) ?_
      · obtain ⟨sm, Sx, f', Pf, hB, hL, hE⟩ := X2
        refine tIfS_by (decide (W = 2)) (fun Q hQ => ?_) (fun t => ?_) (fun t => ?_)
        · (walk_at "RD")
          exact hQ
        · have hW := of_decide_eq_true t
          have hE' := hE (by omega)
          rw [hE'] at Pf
          obtain ⟨gs, g1, g2, g3, ga, n1, n2⟩ := Pf
          obtain ⟨rr, hqr⟩ : ∃ rr, gs[r]? = some rr := ⟨gs[r]'(by omega), List.getElem?_eq_getElem _⟩
          have ea := ga r rr _ hqr hfr
          have ar : atI (gs.map V.ref) (r : Nat) = some (.ref rr) := atI_nat (by rw [List.getElem?_map, hqr]; rfl)
          (walk_at "RD")
          refine ⟨.inl ⟨_, SqL.of g1⟩, _, g1, by omega, by omega, r, ?_, .ref rr, by rw [List.getElem?_map, hqr]; rfl, ?_⟩
          · unfold seqIndex?
            simp only
            rw [if_neg (show ¬ (r : Int) < 0 by omega), if_pos (by simp; omega), Int.toNat_natCast]
          · exact hD _ _ ⟨sm.updN n2, Sx.set g1 (fun ob z e => by cases e), ⟨_, PN.erase g1 g2 g3 ga n1 n2 hrl, fun x hx => fB0 x (List.mem_of_mem_eraseIdx hx), by rw [List.length_eraseIdx_of_lt hrl]; omega, fun z => by omega⟩, rfl⟩
        · have hW := of_decide_eq_false t
          (walk_at "RD")
          exact hD _ _ ⟨sm, Sx, ⟨f', Pf, hB, hL, fun z => hE (by omega)⟩, rfl⟩
      rintro σ Hx2 ⟨sm2, Sx2, X3', rfl⟩
      have X3 := And.intro sm2 (And.intro Sx2 X3')
      (walk_at "RD")
      refine tS_any (fun σ H' => Same H H' ∧ Sc K a ns H' ∧ (∃ f', PN H H' sp f' ∧ fB f' ∧ f'.length ≤ 25 ∧ (4 ≤ W → f' = f)) ∧ σ = [some (.ref a), some (.ref p), some (.ref sp), some (.int (r : Nat)), some (.int W), some (.str (col oc))]) (fun D hD _ _ _ => ?_) ?_
      · obtain ⟨sm, Sx, f', Pf, hB, hL, hE⟩ := X3
        refine tIfS_by (decide (W = 3)) (fun Q hQ => ?_) (fun t => ?_) (fun t => ?_)
        · (walk_at "RD")
          exact hQ
        · have hW := of_decide_eq_true t
          have hE' := hE (by omega)
          rw [hE'] at Pf
          obtain ⟨gs, g1, g2, g3, ga, n1, n2⟩ := Pf
          obtain ⟨rr, hqr⟩ : ∃ rr, gs[r]? = some rr := ⟨gs[r]'(by omega), List.getElem?_eq_getElem _⟩
          have ea := ga r rr _ hqr hfr
          have ar : atI (gs.map V.ref) (r : Nat) = some (.ref rr) := atI_nat (by rw [List.getElem?_map, hqr]; rfl)
          (walk_at "RD")
          refine ⟨.inl ⟨_, SqL.of g1⟩, by decide, fun b2 hb2 => ⟨_, (same_new hb2) _ _ g1, by omega, by omega, by rw [List.length_map]; omega, ?_, ?_⟩⟩
          · rw [List.length_map]
            exact Nat.lt_of_le_of_lt (show gs.length ≤ 25 by omega) (by decide)
          · rw [Int.toNat_natCast]
            exact hD _ _ ⟨(sm.trans (same_new hb2)).updN n2, (Sx.new hb2).set ((same_new hb2) _ _ g1) (fun ob z e => by cases e), ⟨_, PN.ins (x := (oc, 1)) g1 g2 g3 ga n1 n2 hb2 (sm.free hb2) (Nat.le_of_lt hrl), fun x hx => (ins_mem hx).elim (fun z => by subst z; exact ⟨hoc, show 1 ≤ 41 by decide⟩) (fB0 x), by rw [ins_len (Nat.le_of_lt hrl)]; omega, fun z => by omega⟩, rfl⟩
        · have hW := of_decide_eq_false t
          (walk_at "RD")
          exact hD _ _ ⟨sm, Sx, ⟨f', Pf, hB, hL, fun z => hE (by omega)⟩, rfl⟩
      rintro σ Hx3 ⟨sm3, Sx3, X4', rfl⟩
      have X4 := And.intro sm3 (And.intro Sx3 X4')
      (walk_at "RD")
      refine tS_any (fun σ H' => Same H H' ∧ Sc K a ns H' ∧ (∃ f', PN H H' sp f' ∧ fB f' ∧ f'.length ≤ 25 ∧ (5 ≤ W → f' = f)) ∧ σ = [some (.ref a), some (.ref p), some (.ref sp), some (.int (r : Nat)), some (.int W), some (.str (col oc))]) (fun D hD _ _ _ => ?_) ?_
      · obtain ⟨sm, Sx, f', Pf, hB, hL, hE⟩ := X4
        refine tIfS_by (decide (W = 4)) (fun Q hQ => ?_) (fun t => ?_) (fun t => ?_)
        · (walk_at "RD")
          exact hQ
        · have hW := of_decide_eq_true t
          have hE' := hE (by omega)
          rw [hE'] at Pf
          obtain ⟨gs, g1, g2, g3, ga, n1, n2⟩ := Pf
          obtain ⟨rr, hqr⟩ : ∃ rr, gs[r]? = some rr := ⟨gs[r]'(by omega), List.getElem?_eq_getElem _⟩
          have ea := ga r rr _ hqr hfr
          have ar : atI (gs.map V.ref) (r : Nat) = some (.ref rr) := atI_nat (by rw [List.getElem?_map, hqr]; rfl)
          (walk_at "RD")
          exact ⟨_, SqL.of g1, _, ar, _, rfl, _, ea, 0, rfl, hD _ _ ⟨sm.updN (n1 _ (List.mem_of_getElem? hqr)), Sx.set ea (fun ob z e => by cases e), ⟨_, PN.set (y := (oc, f[r].2)) g1 g2 g3 ga n1 n2 hqr hfr, fBset _ hoc (by show f[r].2 ≤ 41; omega), by rw [List.length_set]; omega, fun z => by omega⟩, rfl⟩⟩
        · have hW := of_decide_eq_false t
          (walk_at "RD")
          exact hD _ _ ⟨sm, Sx, ⟨f', Pf, hB, hL, fun z => hE (by omega)⟩, rfl⟩
      rintro σ Hx4 ⟨sm4, Sx4, X5', rfl⟩
      have X5 := And.intro sm4 (And.intro Sx4 X5')
      (walk_at "RD")
      obtain ⟨sm, Sx, f', Pf, hB, hL, _⟩ := X5
      exact q sp f' _ sm Sx Pf.pat hB hL
end
end My
namespace My
open PySem L2
theorem due_eq (rd fd ls : Int) (row : List Nat) : inO rd fd ls (fnd row (bnd row row.length)) = (List.range ((bnd row row.length).length - 1)).all (dueK rd fd ls row (bnd row row.length)) := by
  have hb1 : (bnd row row.length).length ≠ 0 := by unfold bnd; rw [List.length_cons]; omega
  refine order_eq (fnd_len _ _) hb1 fun k hk => ?_
  rw [fnd_len] at hk
  have e1 := List.getElem?_eq_getElem (show k < (bnd row row.length).length by omega)
  have e2 := List.getElem?_eq_getElem (show k + 1 < (bnd row row.length).length by omega)
  have z := fnd_at row (bnd row row.length) k _ _ e1 e2
  obtain ⟨z1, z2, z3⟩ := bnd_ok row row.length (Nat.le_refl _) k _ _ e1 e2
  rw [List.getD_eq_getElem?_getD, z, List.getD_eq_getElem?_getD (l := bnd row row.length) (i := k), e1, List.getD_eq_getElem?_getD (l := bnd row row.length) (i := k + 1), e2]
  exact ⟨rfl, Nat.le_of_lt z1, z3⟩
def sp_lgood (K : PySem.W.Frag) (t : Adr) : Sp := fun vs H Q _ => ∃ a d p f, vs = [.ref a, .ref p, .int (readyW d), .int (fadeW d), .int d.least] ∧ WayAt t H a d ∧ 0 ≤ fadeW d ∧ PAt H p f ∧ fB f ∧ f.length ≤ 25 ∧ NoT H ∧ Q (.bl true) H
def sp_lgood' (K : PySem.W.Frag) (t : Adr) : Sp := fun vs H Q _ => ∃ a d p f, vs = [.ref a, .ref p, .int (readyW d), .int (fadeW d), .int d.least] ∧ WayAt t H a d ∧ 0 ≤ fadeW d ∧ PAt H p f ∧ fB f ∧ f.length ≤ 25 ∧ NoT H ∧ ∀ H', Same H H' → Q (.bl true) H'
section
variable {P : Program} {w : World} {K : PySem.W.Frag} {mg : Str → Option Value} {base : Heap} {t : Adr}
theorem ok_lgood (T : Txt w K mg t) : FnOk P w K mg base CX0 5 t.a__law_good t.d__law_good ["_law_way", "_law_parts_here", "_law_ready", "_law_fade", "_law_least"] (sp_lgood K t) := by
  refine FnOk.forget (sp := sp_lgood' K t) ?_ fun vs H Q E h => ?_
  · have G__law_row : FnOk P w K mg base CX0 4 t.a__law_row t.d__law_row ["_law_parts_here"] (sp_lrow K) := (ok_lrow T).mono (by decide)
    have G_in_order : FnOk P w K mg base CX0 4 t.a_in_order t.d_in_order ["way", "colours"] (sp_ord K t) := ok_ord T
    have G__law_due : FnOk P w K mg base CX0 4 t.a__law_due t.d__law_due ["_law_row_here", "_law_ready", "_law_fade", "_law_least"] (sp_ldue K) := (ok_ldue T).mono (by decide)
    refine T.F__law_good.ok sc__law_good (fun vs H Q E h => ?_) (fun cdv A outer s H vs Q E hr h => ?_)
    · obtain ⟨a, d, p, f, rfl, _⟩ := h; rfl
    obtain ⟨a, d, p, f, rfl, W, hfd, hp, hB, hz, nt, q⟩ := h
    have hU := hr.units
    have hrd : 0 ≤ readyW d := by unfold readyW; split <;> decide
    refine ⟨_, (pss_cons (ps_set (i := 5) sc__law_good.nd rfl (Or.inl rfl) (pe_call G__law_row hr rfl T.m__law_row T.k__law_row T.n__law_row .nil pass0 (pa_cons (pv 1) pa_nil)))
      (pss_cons (ps_set (i := 6) sc__law_good.nd rfl (Or.inl rfl) (pe_callTy call_list_of rfl T.b_list boot_t_list (pa_cons (pv 5) pa_nil)))
      (pss_cons (ps_set (i := 7) sc__law_good.nd rfl (Or.inl rfl) (pe_call G_in_order hr rfl T.m_in_order T.k_in_order T.n_in_order .nil pass0 (pa_cons (pv 0) (pa_cons (pv 6) pa_nil))))
      (pss_one (ps_ret (pe_and (pe_callB call_isi rfl T.b_isinstance boot_b_isinstance (pa_cons (pv 7) (pa_cons (pe_bltn (v := .ty "bool") rfl T.b_bool boot_t_bool rfl) pa_nil))) (pe_and (pe_cmpR op_eq (pv 7) (pe_call G__law_due hr rfl T.m__law_due T.k__law_due T.n__law_due .nil pass0 (pa_cons (pv 5) (pa_cons (pv 2) (pa_cons (pv 3) (pa_cons (pv 4) pa_nil))))) (nomark _)) (pe_one (pe_cmpR (op_eqL hU) (pv 6) (pv 5) (nomark _)))))))))), ?_⟩
    (walk_at "RD")
    refine ⟨p, f, rfl, hp, hB, by omega, nt, fun q1 H1 s1 nt1 e1 => ?_⟩
    have h4 := rowOf_ok hB
    have hlen : (rowOf f).length ≤ 2000 := by have := rowOf_len hB; omega
    generalize rowOf f = row at e1 h4 hlen
    (walk_at "RD")
    refine ⟨_, .inl (SqL.of e1), fun l hl => ?_⟩
    have s2 : Same H1 (upd H1 l (.lst (colV row))) := same_new hl
    refine ⟨a, d, l, row, rfl, W.same (s1.trans s2), SqL.of upd_same, h4, by omega, nt1.upd, ?_⟩
    refine ⟨_, .bl _, _, kit_eq, ?_⟩
    rw [if_pos rfl]
    refine ⟨q1, row, _, _, _, rfl, SqL.of (s2 _ _ e1), h4, by omega, hrd, hfd, nt1.upd, ?_⟩
    rw [due_eq]
    refine ⟨rfl, ?_⟩
    rw [if_pos (decide_eq_true rfl)]
    refine ⟨_, EqH.flats (SqL.of upd_same) (SqL.of (s2 _ _ e1)) (fun x hx y hy => ?_), ?_⟩
    · obtain ⟨c, _, rfl⟩ := List.mem_map.mp hx
      obtain ⟨c', _, rfl⟩ := List.mem_map.mp hy
      rfl
    · rw [decide_eq_true rfl]
      exact q _ (s1.trans s2)
  · obtain ⟨a, d, p, f, h1, h2, h3, h4, h5, h6, nt, q⟩ := h
    exact ⟨nt, a, d, p, f, h1, h2, h3, h4, h5, h6, nt, fun H' sm => ⟨sm, q⟩⟩
end
end My
namespace My
open PySem L2
section
variable {P : Program} {w : World} {K : PySem.W.Frag} {mg : Str → Option Value} {base : Heap} {t : Adr}
theorem made_end {t : Adr} {H : Hp} {x dx : Addr} {d : WD} (hx : H x = none) (hd : H dx = none) (hk : d.k < 3) :
    Same H (upd (upd (upd H dx (.own x)) x (.ins (t.cw d.k) dx [])) x (.ins (t.cw d.k) dx (wFlds d))) ∧ (NoT H → NoT (upd (upd (upd H dx (.own x)) x (.ins (t.cw d.k) dx [])) x (.ins (t.cw d.k) dx (wFlds d)))) ∧
      WayAt t (upd (upd (upd H dx (.own x)) x (.ins (t.cw d.k) dx [])) x (.ins (t.cw d.k) dx (wFlds d))) x d :=
  ⟨(((Same.refl H).updN hd).updN hx).updN hx, fun n => ((n.upd).upd).upd, hk, dx, upd_same⟩
theorem ok_law (T : Txt w K mg t) : FnOk P w K mg base CX0 6 t.a_law t.d_law ["_law_script"] (spLaw K) := by
  refine T.F_law.ok sc_law (fun vs H Q E h => ?_) (fun cdv A outer s H vs Q E hr h => ?_)
  · obtain ⟨a, ns, rfl, _⟩ := h; rfl
  obtain ⟨a, ns, rfl, S, h63, q⟩ := h
  have G__law_draw : FnOk P w K mg base CX0 5 t.a__law_draw t.d__law_draw ["_law_script", "_law_k", "_law_many"] (sp_draw K a ns) := (ok_draw T a ns h63).mono (by decide)
  have G__law_parts : FnOk P w K mg base CX0 5 t.a__law_parts t.d__law_parts ["_law_script", "_law_ready", "_law_fade", "_law_least"] (sp_lparts K a ns) := (ok_lparts T a ns h63).mono (by decide)
  have G__law_spoiled : FnOk P w K mg base CX0 5 t.a__law_spoiled t.d__law_spoiled ["_law_script", "_law_parts_here"] (sp_lspoil K a ns) := (ok_lspoil T a ns h63).mono (by decide)
  have G__law_good : FnOk P w K mg base CX0 5 t.a__law_good t.d__law_good ["_law_way", "_law_parts_here", "_law_ready", "_law_fade", "_law_least"] (sp_lgood K t) := ok_lgood T
  have G_CarWay_init : FnOk P w K mg base CX0 4 t.a_CarWay_init t.d_CarWay_init ["self", "name", "start", "end", "off", "near", "least"] (sp_sortI t 0) := (ok_carI T).mono (by decide)
  have G_FootWay_init : FnOk P w K mg base CX0 4 t.a_FootWay_init t.d_FootWay_init ["self", "name", "start", "end", "off", "near", "least"] (sp_sortI t 1) := (ok_footI T).mono (by decide)
  have G_TramWay_init : FnOk P w K mg base CX0 4 t.a_TramWay_init t.d_TramWay_init ["self", "name", "start", "end", "off", "near", "least"] (sp_sortI t 2) := (ok_tramI T).mono (by decide)
  refine ⟨_, (pss_cons (ps_set (i := 1) sc_law.nd rfl (Or.inl rfl) (pe_call G__law_draw hr rfl T.m__law_draw T.k__law_draw T.n__law_draw .nil pass0 (pa_cons (pv 0) (pa_cons pe_int (pa_cons pe_int pa_nil)))))
      (pss_cons (ps_set (i := 2) sc_law.nd rfl (Or.inl rfl) (pe_call G__law_draw hr rfl T.m__law_draw T.k__law_draw T.n__law_draw .nil pass0 (pa_cons (pv 0) (pa_cons pe_int (pa_cons pe_int pa_nil)))))
      (pss_cons (ps_if (pt_cmpR op_eq (pe_call G__law_draw hr rfl T.m__law_draw T.k__law_draw T.n__law_draw .nil pass0 (pa_cons (pv 0) (pa_cons pe_int (pa_cons pe_int pa_nil)))) pe_int (nomark _)) (pss_one (ps_set (i := 2) sc_law.nd rfl (Or.inl rfl) (pe_call G__law_draw hr rfl T.m__law_draw T.k__law_draw T.n__law_draw .nil pass0 (pa_cons (pv 0) (pa_cons pe_int (pa_cons pe_int pa_nil)))))) pss_nil)
      (pss_cons (ps_set (i := 3) sc_law.nd rfl (Or.inl rfl) (pe_op op_add pe_int (pe_call G__law_draw hr rfl T.m__law_draw T.k__law_draw T.n__law_draw .nil pass0 (pa_cons (pv 0) (pa_cons pe_int (pa_cons pe_int pa_nil))))))
      (pss_cons (ps_set (i := 4) sc_law.nd rfl (Or.inl rfl) (pe_make T.M_CarWay G_CarWay_init hr rfl T.m_CarWay T.n_CarWay_init .nil pass0 (pa_cons pe_str (pa_cons pe_int (pa_cons pe_int (pa_cons (pv 2) (pa_cons pe_int (pa_cons (pv 3) pa_nil))))))))
      (pss_cons (ps_set (i := 5) sc_law.nd rfl (Or.inl rfl) pe_int)
      (pss_cons (ps_set (i := 6) sc_law.nd rfl (Or.inl rfl) pe_int)
      (pss_cons (ps_if (pt_cmpR op_eq (pv 1) pe_int (nomark _)) (pss_cons (ps_set (i := 4) sc_law.nd rfl (Or.inl rfl) (pe_make T.M_FootWay G_FootWay_init hr rfl T.m_FootWay T.n_FootWay_init .nil pass0 (pa_cons pe_str (pa_cons pe_int (pa_cons pe_int (pa_cons (pv 2) (pa_cons pe_int (pa_cons (pv 3) pa_nil))))))))
      (pss_cons (ps_set (i := 5) sc_law.nd rfl (Or.inl rfl) pe_int)
      (pss_one (ps_set (i := 6) sc_law.nd rfl (Or.inl rfl) (pv 2))))) pss_nil)
      (pss_cons (ps_if (pt_cmpR op_eq (pv 1) pe_int (nomark _)) (pss_cons (ps_set (i := 4) sc_law.nd rfl (Or.inl rfl) (pe_make T.M_TramWay G_TramWay_init hr rfl T.m_TramWay T.n_TramWay_init .nil pass0 (pa_cons pe_str (pa_cons pe_int (pa_cons pe_int (pa_cons (pv 2) (pa_cons pe_int (pa_cons (pv 3) pa_nil))))))))
      (pss_cons (ps_set (i := 5) sc_law.nd rfl (Or.inl rfl) pe_int)
      (pss_one (ps_set (i := 6) sc_law.nd rfl (Or.inl rfl) pe_int)))) pss_nil)
      (pss_cons (ps_set (i := 7) sc_law.nd rfl (Or.inl rfl) (pe_call G__law_parts hr rfl T.m__law_parts T.k__law_parts T.n__law_parts .nil pass0 (pa_cons (pv 0) (pa_cons (pv 5) (pa_cons (pv 6) (pa_cons (pv 3) pa_nil))))))
      (pss_cons (ps_if (pt_not (pt_val (pe_call G__law_good hr rfl T.m__law_good T.k__law_good T.n__law_good .nil pass0 (pa_cons (pv 4) (pa_cons (pv 7) (pa_cons (pv 5) (pa_cons (pv 6) (pa_cons (pv 3) pa_nil)))))))) (pss_one (ps_ret pe_bl)) pss_nil)
      (pss_one (ps_ret (pe_call G__law_good hr rfl T.m__law_good T.k__law_good T.n__law_good .nil pass0 (pa_cons (pv 4) (pa_cons (pe_call G__law_spoiled hr rfl T.m__law_spoiled T.k__law_spoiled T.n__law_spoiled .nil pass0 (pa_cons (pv 0) (pa_cons (pv 7) pa_nil))) (pa_cons (pv 5) (pa_cons (pv 6) (pa_cons (pv 3) pa_nil))))))))))))))))))), ?_⟩
  have w1 := draw_lo ns 0 (m := 3) (by decide)
  have w2 := draw_hi ns 0 (m := 3) (by decide)
  have w3 := draw_lo ns 1 (m := 7) (by decide)
  have w4 := draw_hi ns 1 (m := 7) (by decide)
  have w5 := draw_lo ns 12 (m := 31) (by decide)
  have w6 := draw_hi ns 12 (m := 31) (by decide)
  have w7 := draw_lo ns 2 (m := 5) (by decide)
  have w8 := draw_hi ns 2 (m := 5) (by decide)
  (walk_at "RD"; repeat (simp only [sp_draw]; walk_at "RD"))
  refine ⟨S, by decide, by decide, by decide, S, by decide, by decide, by decide, ?_⟩
  generalize draw ns 0 3 = sort at w1 w2 ⊢
  refine tS_any (fun σ' H' => H' = H ∧ ∃ m, (0 ≤ m ∧ m ≤ 30) ∧ σ' = [some (.ref a), some (.int sort), some (.int m), none, none, none, none, none]) (fun D hD _ _ _ => ?_) ?_
  · refine tIfS_by (decide (draw ns 11 6 = 1)) (fun Q hQ => ?_) (fun _ => ?_) (fun _ => ?_)
    · (walk_at "RD"; repeat (simp only [sp_draw]; walk_at "RD"))
      exact ⟨S, by omega, by omega, by decide, hQ⟩
    · (walk_at "RD"; repeat (simp only [sp_draw]; walk_at "RD"))
      exact ⟨S, by omega, by omega, by decide, hD _ _ ⟨rfl, _, by omega, rfl⟩⟩
    · (walk_at "RD")
      exact hD _ _ ⟨rfl, _, by omega, rfl⟩
  · rintro σ' H' ⟨rfl, m, hm, rfl⟩
    (walk_at "RD"; repeat (simp only [sp_draw]; walk_at "RD"))
    refine ⟨S, by decide, by decide, by decide, fun x0 dx0 hx0 hdx0 hne0 => ?_⟩
    generalize hls : (1 : Int) + draw ns 2 5 = ls
    have fin : ∀ (k : Nat) (nm : Str) (x dx : Addr) (Hy : Hp), k < 3 → Hy x = none → Hy dx = none → Same H' Hy → NoT Hy → (∃ d : WD, d.least = ls ∧ readyW d = (match k with | 0 => 1 | 1 => 0 | _ => 2) ∧ fadeW d = (match k with | 0 => 2 | 1 => m | _ => 1) ∧
        (∃ Hz, Hz = upd (upd (upd Hy dx (.own x)) x (.ins (t.cw k) dx [])) x (.ins (t.cw k) dx (wFlds (WD.mk k nm 0 1 m 0 ls))) ∧ WayAt t Hz x d ∧ Same H' Hz ∧ NoT Hz)) := fun k nm x dx Hy hk hx hd sm nt => by
      obtain ⟨m1, m2, m3⟩ := made_end (t := t) (d := WD.mk k nm 0 1 m 0 ls) hx hd hk
      exact ⟨WD.mk k nm 0 1 m 0 ls, rfl, rfl, rfl, _, rfl, m3, sm.trans m1, m2 nt⟩
    refine ⟨x0, dx0, WD.mk 0 (Str.ofString "a") 0 1 m 0 ls, rfl, rfl, upd_same, rfl, ?_⟩
    obtain ⟨d0, dl0, dr0, df0, Hz0, hz0, W0, sm0, nt0⟩ := fin 0 (Str.ofString "a") x0 dx0 H' (by decide) hx0 hdx0 (Same.refl _) S.nt
    have hz0' : upd (upd (upd H' dx0 (.own x0)) x0 (.ins t.c_CarWay dx0 [])) x0 (.ins (t.cw 0) dx0 (wFlds (WD.mk 0 (Str.ofString "a") 0 1 m 0 ls))) = Hz0 := hz0.symm
    simp only [] at dr0 df0
    refine tS_any (fun σ H2 => ∃ x d, WayAt t H2 x d ∧ Same H' H2 ∧ NoT H2 ∧ d.least = ls ∧ (0 ≤ fadeW d ∧ fadeW d ≤ 30) ∧ (0 ≤ readyW d ∧ readyW d ≤ 2) ∧ σ = [some (.ref a), some (.int sort), some (.int m), some (.int ls), some (.ref x), some (.int (readyW d)), some (.int (fadeW d)), none]) (fun D hD _ _ _ => ?_) ?_
    · refine tIfS_by (decide (sort = 1)) (fun Q hQ => ?_) (fun _ => ?_) (fun _ => ?_)
      · (walk_at "RD")
        exact hQ
      · (walk_at "RD")
        rw [hz0']
        refine fun x1 dx1 hx1 hdx1 hne1 => ⟨x1, dx1, WD.mk 1 (Str.ofString "b") 0 1 m 0 ls, rfl, rfl, upd_same, rfl, ?_⟩
        obtain ⟨d1, dl1, dr1, df1, Hz1, hz1, W1, sm1, nt1⟩ := fin 1 (Str.ofString "b") x1 dx1 Hz0 (by decide) hx1 hdx1 sm0 nt0
        simp only [] at dr1 df1
        subst hz1
        exact hD _ _ ⟨x1, d1, W1, sm1, nt1, dl1, by omega, by omega, by rw [dr1, df1]⟩
      · (walk_at "RD")
        rw [hz0']
        exact hD _ _ ⟨x0, d0, W0, sm0, nt0, dl0, by omega, by omega, by rw [dr0, df0]⟩
    · rintro σ H2 ⟨x, d, W, sm, nt, dl, hfd, hrd, rfl⟩
      (walk_at "RD")
      refine tS_any (fun σ H2 => ∃ x d, WayAt t H2 x d ∧ Same H' H2 ∧ NoT H2 ∧ d.least = ls ∧ (0 ≤ fadeW d ∧ fadeW d ≤ 30) ∧ (0 ≤ readyW d ∧ readyW d ≤ 2) ∧ σ = [some (.ref a), some (.int sort), some (.int m), some (.int ls), some (.ref x), some (.int (readyW d)), some (.int (fadeW d)), none]) (fun D hD _ _ _ => ?_) ?_
      · refine tIfS_by (decide (sort = 2)) (fun Q hQ => ?_) (fun _ => ?_) (fun _ => ?_)
        · (walk_at "RD")
          exact hQ
        · (walk_at "RD")
          refine fun x1 dx1 hx1 hdx1 hne1 => ⟨x1, dx1, WD.mk 2 (Str.ofString "c") 0 1 m 0 ls, rfl, rfl, upd_same, rfl, ?_⟩
          obtain ⟨d1, dl1, dr1, df1, Hz1, hz1, W1, sm1, nt1⟩ := fin 2 (Str.ofString "c") x1 dx1 H2 (by decide) hx1 hdx1 sm nt
          simp only [] at dr1 df1
          subst hz1
          exact hD _ _ ⟨x1, d1, W1, sm1, nt1, dl1, by omega, by omega, by rw [dr1, df1]⟩
        · (walk_at "RD")
          exact hD _ _ ⟨x, d, W, sm, nt, dl, hfd, hrd, rfl⟩
      · rintro σ H3 ⟨x, d, W, sm, nt, dl, hfd, hrd, rfl⟩
        have S3 := S.same sm nt
        (walk_at "RD")
        refine ⟨_, _, _, rfl, S3, by omega, by omega, by omega, fun p f H4 s4 S4 hp hf hl => ?_⟩
        have fB0 : fB f := fun x hx => ⟨(hf x hx).1, by have := (hf x hx).2.2; omega⟩
        have pa := hp.pat
        (walk_at "RD")
        refine tIfS_by false (fun Q hQ => ?_) (fun hc => nomatch hc) (fun _ => ?_)
        · (walk_at "RD")
          exact ⟨x, d, p, f, by rw [dl], W.same s4, hfd.1, pa, fB0, by omega, S4.nt, ⟨_, rfl, hQ⟩⟩
        · (walk_at "RD")
          refine ⟨p, f, rfl, S4, pa, hf, hl, fun p5 f5 H5 s5 S5 hp5 hf5 hl5 => ?_⟩
          exact ⟨x, d, p5, f5, by rw [dl], W.same (s4.trans s5), hfd.1, hp5, hf5, hl5, S5.nt, q _⟩
end
end My
open PySem PySem.W PyProof.Rows
set_option maxRecDepth 100000 in
set_option maxHeartbeats 0 in
theorem PySem.Challenge.cw_lampway_k11_in_order_holds : PySem.Challenge.rw_lampway_k11_in_order.Holds := by
  w_on; o_law; k_head; (case hw => w_witness2)
  k_fill
  refine L2.walk_ofK (l := PySem.Challenge.rw_lampway_k11_in_order) (n := 63) (k := 6) (x := "_law_script") (CX := L2.CX0) (sp := L2.spLaw) rfl (by decide) rfl ⟨rfl, by decide, by decide⟩ (fun w h Y => PySem.W.kIn_of Y) ?F ?S ?C
  case F =>
    intro w mg fa h KX G hmg
    have T : ∃ t, My.Txt w (L2.KOf KX) mg t := by
      dsimp only [L2.KOf]
      refine' My.txt_mk KX G ?e1_stretches ?e2_stretches ?e3_stretches ?e4_stretches ?e1_may_follow ?e2_may_follow ?e3_may_follow ?e4_may_follow ?e1_follow_well ?e2_follow_well ?e3_follow_well ?e4_follow_well ?e1_last_well ?e2_last_well ?e3_last_well ?e4_last_well ?e1_in_order ?e2_in_order ?e3_in_order ?e4_in_order ?e1__law_draw ?e2__law_draw ?e3__law_draw ?e4__law_draw ?e1__law_next ?e2__law_next ?e3__law_next ?e4__law_next ?e1__law_parts ?e2__law_parts ?e3__law_parts ?e4__law_parts ?e1__law_spoiled ?e2__law_spoiled ?e3__law_spoiled ?e4__law_spoiled ?e1__law_row ?e2__law_row ?e3__law_row ?e4__law_row ?e1__law_starts ?e2__law_starts ?e3__law_starts ?e4__law_starts ?e1__law_follows ?e2__law_follows ?e3__law_follows ?e4__law_follows ?e1__law_due ?e2__law_due ?e3__law_due ?e4__law_due ?e1__law_good ?e2__law_good ?e3__law_good ?e4__law_good ?e1_law ?e2_law ?e3_law ?e4_law ?eC_Way ?e1_Way_init ?e2_Way_init ?e3_Way_init ?e4_Way_init ?i_Way_init ?eC_CarWay ?e1_CarWay_init ?e2_CarWay_init ?e3_CarWay_init ?e4_CarWay_init ?i_CarWay_init ?e1_CarWay_ready ?e2_CarWay_ready ?e3_CarWay_ready ?e4_CarWay_ready ?i_CarWay_ready ?e1_CarWay_fade ?e2_CarWay_fade ?e3_CarWay_fade ?e4_CarWay_fade ?i_CarWay_fade ?eC_FootWay ?e1_FootWay_init ?e2_FootWay_init ?e3_FootWay_init ?e4_FootWay_init ?i_FootWay_init ?e1_FootWay_ready ?e2_FootWay_ready ?e3_FootWay_ready ?e4_FootWay_ready ?i_FootWay_ready ?e1_FootWay_fade ?e2_FootWay_fade ?e3_FootWay_fade ?e4_FootWay_fade ?i_FootWay_fade ?eC_TramWay ?e1_TramWay_init ?e2_TramWay_init ?e3_TramWay_init ?e4_TramWay_init ?i_TramWay_init ?e1_TramWay_ready ?e2_TramWay_ready ?e3_TramWay_ready ?e4_TramWay_ready ?i_TramWay_ready ?e1_TramWay_fade ?e2_TramWay_fade ?e3_TramWay_fade ?e4_TramWay_fade ?i_TramWay_fade ?pg_Way ?hd_Way ?po_Way ?sa_Way ?nA_Way_kind ?nA_Way_name ?nA_Way_start ?nA_Way_end ?nA_Way_off ?nA_Way_near ?nA_Way_least ?pg_CarWay ?hd_CarWay ?po_CarWay ?sa_CarWay ?mk_CarWay ?kc_CarWay ?nA_CarWay_kind ?nA_CarWay_name ?nA_CarWay_start ?nA_CarWay_end ?nA_CarWay_off ?nA_CarWay_near ?nA_CarWay_least ?pg_FootWay ?hd_FootWay ?po_FootWay ?sa_FootWay ?mk_FootWay ?kc_FootWay ?nA_FootWay_kind ?nA_FootWay_name ?nA_FootWay_start ?nA_FootWay_end ?nA_FootWay_off ?nA_FootWay_near ?nA_FootWay_least ?pg_TramWay ?hd_TramWay ?po_TramWay ?sa_TramWay ?mk_TramWay ?kc_TramWay ?nA_TramWay_kind ?nA_TramWay_name ?nA_TramWay_start ?nA_TramWay_end ?nA_TramWay_off ?nA_TramWay_near ?nA_TramWay_least ?dC_Way_CarWay ?dC_Way_FootWay ?dC_Way_TramWay ?dC_CarWay_FootWay ?dC_CarWay_TramWay ?dC_FootWay_TramWay ?cr_Way_init ?cf_Way_init ?cg_Way_init ?b_bool ?b_enumerate ?b_isinstance ?b_len ?b_list ?b_range ?b_zip
      (case e1_stretches => k_is); (case e2_stretches => k_is); (case e3_stretches => k_is); (case e4_stretches => k_is); (case e1_may_follow => k_is); (case e2_may_follow => k_is); (case e3_may_follow => k_is); (case e4_may_follow => k_is); (case e1_follow_well => k_is); (case e2_follow_well => k_is); (case e3_follow_well => k_is); (case e4_follow_well => k_is); (case e1_last_well => k_is); (case e2_last_well => k_is); (case e3_last_well => k_is); (case e4_last_well => k_is); (case e1_in_order => k_is); (case e2_in_order => k_is); (case e3_in_order => k_is); (case e4_in_order => k_is); (case e1__law_draw => k_is); (case e2__law_draw => k_is); (case e3__law_draw => k_is); (case e4__law_draw => k_is); (case e1__law_next => k_is); (case e2__law_next => k_is); (case e3__law_next => k_is); (case e4__law_next => k_is); (case e1__law_parts => k_is); (case e2__law_parts => k_is); (case e3__law_parts => k_is); (case e4__law_parts => k_is); (case e1__law_spoiled => k_is); (case e2__law_spoiled => k_is); (case e3__law_spoiled => k_is); (case e4__law_spoiled => k_is); (case e1__law_row => k_is); (case e2__law_row => k_is); (case e3__law_row => k_is); (case e4__law_row => k_is); (case e1__law_starts => k_is); (case e2__law_starts => k_is); (case e3__law_starts => k_is); (case e4__law_starts => k_is); (case e1__law_follows => k_is); (case e2__law_follows => k_is); (case e3__law_follows => k_is); (case e4__law_follows => k_is); (case e1__law_due => k_is); (case e2__law_due => k_is); (case e3__law_due => k_is); (case e4__law_due => k_is); (case e1__law_good => k_is); (case e2__law_good => k_is); (case e3__law_good => k_is); (case e4__law_good => k_is); (case e1_law => k_is); (case e2_law => k_is); (case e3_law => k_is); (case e4_law => k_is); (case eC_Way => k_is); (case e1_Way_init => k_is); (case e2_Way_init => k_is); (case e3_Way_init => k_is); (case e4_Way_init => k_is); (case i_Way_init => k_is); (case eC_CarWay => k_is); (case e1_CarWay_init => k_is); (case e2_CarWay_init => k_is); (case e3_CarWay_init => k_is); (case e4_CarWay_init => k_is); (case i_CarWay_init => k_is); (case e1_CarWay_ready => k_is); (case e2_CarWay_ready => k_is); (case e3_CarWay_ready => k_is); (case e4_CarWay_ready => k_is); (case i_CarWay_ready => k_is); (case e1_CarWay_fade => k_is); (case e2_CarWay_fade => k_is); (case e3_CarWay_fade => k_is); (case e4_CarWay_fade => k_is); (case i_CarWay_fade => k_is); (case eC_FootWay => k_is); (case e1_FootWay_init => k_is); (case e2_FootWay_init => k_is); (case e3_FootWay_init => k_is); (case e4_FootWay_init => k_is); (case i_FootWay_init => k_is); (case e1_FootWay_ready => k_is); (case e2_FootWay_ready => k_is); (case e3_FootWay_ready => k_is); (case e4_FootWay_ready => k_is); (case i_FootWay_ready => k_is); (case e1_FootWay_fade => k_is); (case e2_FootWay_fade => k_is); (case e3_FootWay_fade => k_is); (case e4_FootWay_fade => k_is); (case i_FootWay_fade => k_is); (case eC_TramWay => k_is); (case e1_TramWay_init => k_is); (case e2_TramWay_init => k_is); (case e3_TramWay_init => k_is); (case e4_TramWay_init => k_is); (case i_TramWay_init => k_is); (case e1_TramWay_ready => k_is); (case e2_TramWay_ready => k_is); (case e3_TramWay_ready => k_is); (case e4_TramWay_ready => k_is); (case i_TramWay_ready => k_is); (case e1_TramWay_fade => k_is); (case e2_TramWay_fade => k_is); (case e3_TramWay_fade => k_is); (case e4_TramWay_fade => k_is); (case i_TramWay_fade => k_is); (case pg_Way => k_is); (case hd_Way => k_is); (case po_Way => k_is); (case sa_Way => k_is); (case nA_Way_kind => k_is); (case nA_Way_name => k_is); (case nA_Way_start => k_is); (case nA_Way_end => k_is); (case nA_Way_off => k_is); (case nA_Way_near => k_is); (case nA_Way_least => k_is); (case pg_CarWay => k_is); (case hd_CarWay => k_is); (case po_CarWay => k_is); (case sa_CarWay => k_is); (case mk_CarWay => k_is); (case kc_CarWay => k_is); (case nA_CarWay_kind => k_is); (case nA_CarWay_name => k_is); (case nA_CarWay_start => k_is); (case nA_CarWay_end => k_is); (case nA_CarWay_off => k_is); (case nA_CarWay_near => k_is); (case nA_CarWay_least => k_is); (case pg_FootWay => k_is); (case hd_FootWay => k_is); (case po_FootWay => k_is); (case sa_FootWay => k_is); (case mk_FootWay => k_is); (case kc_FootWay => k_is); (case nA_FootWay_kind => k_is); (case nA_FootWay_name => k_is); (case nA_FootWay_start => k_is); (case nA_FootWay_end => k_is); (case nA_FootWay_off => k_is); (case nA_FootWay_near => k_is); (case nA_FootWay_least => k_is); (case pg_TramWay => k_is); (case hd_TramWay => k_is); (case po_TramWay => k_is); (case sa_TramWay => k_is); (case mk_TramWay => k_is); (case kc_TramWay => k_is); (case nA_TramWay_kind => k_is); (case nA_TramWay_name => k_is); (case nA_TramWay_start => k_is); (case nA_TramWay_end => k_is); (case nA_TramWay_off => k_is); (case nA_TramWay_near => k_is); (case nA_TramWay_least => k_is); (case dC_Way_CarWay => decide); (case dC_Way_FootWay => decide); (case dC_Way_TramWay => decide); (case dC_CarWay_FootWay => decide); (case dC_CarWay_TramWay => decide); (case dC_FootWay_TramWay => decide); (case cr_Way_init => k_is); (case cf_Way_init => k_is); (case cg_Way_init => k_is); (case b_bool => k_is); (case b_enumerate => k_is); (case b_isinstance => k_is); (case b_len => k_is); (case b_list => k_is); (case b_range => k_is); (case b_zip => k_is)
    obtain ⟨t, T⟩ := T
    have e0 := hmg.symm.trans T.m_law
    cases e0
    exact ⟨t.d_law, T.bl_law, fun base kb nb => My.ok_law T⟩
  case S => exact fun K H a ns hl hO hS => ⟨a, ns, rfl, L2.Sc.of_only hO hS, hl, fun _ => rfl⟩
  case C => exact fun _ _ _ _ z => z
