import PyProof.Rows.All
import Wide.All
import OpenK.AllK
import Wide.FinOn
import Lean
import PyProof.EqAt
import PyProof.EqKinds
import PyProof.TupleCall
import KE.KTryMore
import PyProof.NsDelKeeps
import PySem.Challenge.RW_lampway_k06_a_crossing_refused
set_option Elab.async false
set_option linter.all false
set_option maxRecDepth 100000
namespace L2
open PySem PySem.Spec PyProof.Rows
abbrev Key := Sum Int Str
def keyIs : Key → Value → Bool
  | .inl k, v => Value.isInt k v
  | .inr x, v => Value.isStrOf x v
def keyH (w : World) : Key → Int
  | .inl k => hashInt k
  | .inr x => hashStr w x
theorem keyIs_shape : ∀ {k : Key} {v : Value}, keyIs k v = true → (∃ i t, k = Sum.inl i ∧ v = Value.int i t) ∨ (∃ x t, k = Sum.inr x ∧ v = Value.str x t)
  | .inl i, v, h => by
    obtain ⟨t, e⟩ := Value.isInt_shape (k := i) (v := v) h
    exact .inl ⟨i, t, rfl, e⟩
  | .inr x, v, h => by
    obtain ⟨t, e⟩ := Value.isStrOf_shape (x := x) (v := v) h
    exact .inr ⟨x, t, rfl, e⟩
theorem keyIs_int (i : Int) (t : Tok) : keyIs (.inl i) (.int i t) = true := by simp [keyIs, Value.isInt]
theorem keyIs_str (x : Str) (t : Tok) : keyIs (.inr x) (.str x t) = true := by simp [keyIs, Value.isStrOf]
theorem key_ll (a b : Int) : decide ((Sum.inl a : Key) = Sum.inl b) = (a == b) := by
  by_cases e : a = b
  · subst e; simp
  · have h : ¬ (Sum.inl a : Key) = Sum.inl b := fun q => e (Sum.inl.inj q)
    rw [decide_eq_false h]
    exact (beq_eq_false_iff_ne.mpr e).symm
theorem key_rr (a b : Str) : decide ((Sum.inr a : Key) = Sum.inr b) = decide (a = b) := by
  by_cases e : a = b
  · subst e; simp
  · have h : ¬ (Sum.inr a : Key) = Sum.inr b := fun q => e (Sum.inr.inj q)
    rw [decide_eq_false h, decide_eq_false e]
theorem key_lr (a : Int) (b : Str) : decide ((Sum.inl a : Key) = Sum.inr b) = false := decide_eq_false (fun q => nomatch q)
theorem key_rl (a : Str) (b : Int) : decide ((Sum.inr a : Key) = Sum.inl b) = false := decide_eq_false (fun q => nomatch q)
def mixKind (prog : Program) (w : World) : PySem.KeyKind prog w Key where
  is := keyIs
  hash := keyH w
  inj := fun v a b ha hb => by
    rcases keyIs_shape ha with ⟨i, t, rfl, rfl⟩ | ⟨x, t, rfl, rfl⟩
    · rcases keyIs_shape hb with ⟨j, u, rfl, e⟩ | ⟨y, u, rfl, e⟩
      · injection e with e1 _; rw [e1]
      · exact nomatch e
    · rcases keyIs_shape hb with ⟨j, u, rfl, e⟩ | ⟨y, u, rfl, e⟩
      · exact nomatch e
      · injection e with e1 _; rw [e1]
  byValue := fun k v h => by
    rcases keyIs_shape h with ⟨i, t, rfl, rfl⟩ | ⟨x, t, rfl, rfl⟩ <;> rfl
  pyHash := fun hv h => by
    rcases keyIs_shape hv with ⟨i, t, rfl, rfl⟩ | ⟨x, t, rfl, rfl⟩
    · exact wpAny_pyHash_int h
    · exact wpAny_pyHash_str h
  eqBool := fun hu hv h => by
    rcases keyIs_shape hu with ⟨i, t, rfl, rfl⟩ | ⟨x, t, rfl, rfl⟩
    · rcases keyIs_shape hv with ⟨j, u, rfl, rfl⟩ | ⟨y, u, rfl, rfl⟩
      · rw [key_ll] at h; exact wpAny_eqBool_int h
      · rw [key_lr] at h; exact SeqAt.EqAt.int_str i t y u _ _ _ _ h
    · rcases keyIs_shape hv with ⟨j, u, rfl, rfl⟩ | ⟨y, u, rfl, rfl⟩
      · rw [key_rl] at h; exact SeqAt.EqAt.str_int x t j u _ _ _ _ h
      · rw [key_rr] at h; exact wpAny_eqBool_str h
  «strs» := fun k x t v h => by
    rcases keyIs_shape h with ⟨i, u, rfl, e⟩ | ⟨y, u, rfl, e⟩
    · exact nomatch e
    · injection e with e1 _
      subst e1
      cases v <;> rfl
theorem mixKind_int (prog : Program) (w : World) (i : Int) (t : Tok) : (mixKind prog w).is (.inl i) (.int i t) = true := keyIs_int i t
theorem mixKind_str (prog : Program) (w : World) (x : Str) (t : Tok) : (mixKind prog w).is (.inr x) (.str x t) = true := keyIs_str x t
end L2
namespace L2
open PySem PySem.Spec PyProof.Rows
inductive V where
  | non | bl (b : Bool) | int (i : Int) | str (x : Str) | byt (b : Array UInt8) | flt (b : UInt64) | ref (a : Addr) | ty (n : String)
  deriving DecidableEq
def RelV : V → Value → Prop
  | .non, u => u = Value.none
  | .bl b, u => u = Value.bool b
  | .int i, u => ∃ t, u = Value.int i t
  | .str x, u => ∃ t, u = Value.str x t
  | .byt b, u => ∃ t, u = Value.bytes b t
  | .flt b, u => ∃ t, u = Value.float b t
  | .ref a, u => u = Value.ref a
  | .ty n, u => u = Value.type n
abbrev Vals : List V → List Value → Prop := Paired RelV
theorem Vals.length {xs : List V} {us : List Value} (r : Vals xs us) : xs.length = us.length := Paired.length r
theorem Vals.get : ∀ {xs : List V} {us : List Value} {i : Nat} {x : V}, Vals xs us → xs[i]? = some x → ∃ u, us[i]? = some u ∧ RelV x u
  | _, _, _, _, .nil, e => by simp at e
  | _, _, 0, _, .cons r _, e => by simp at e; subst e; exact ⟨_, rfl, r⟩
  | _, _, i + 1, x, .cons _ t, e => by
    obtain ⟨u, h1, h2⟩ := Vals.get (i := i) (x := x) t (by simpa using e)
    exact ⟨u, by simpa using h1, h2⟩
theorem Vals.set {x : V} {u : Value} (r : RelV x u) : ∀ {xs : List V} {us : List Value} (i : Nat), Vals xs us → Vals (xs.set i x) (us.set i u)
  | _, _, _, .nil => .nil
  | _, _, 0, .cons _ t => .cons r t
  | _, _, i + 1, .cons q t => .cons q (Vals.set r i t)
theorem Vals.append : ∀ {xs ys : List V} {us ws : List Value}, Vals xs us → Vals ys ws → Vals (xs ++ ys) (us ++ ws)
  | _, _, _, _, .nil, s => s
  | _, _, _, _, .cons r t, s => .cons r (Vals.append t s)
theorem Vals.take : ∀ {xs : List V} {us : List Value} (n : Nat), Vals xs us → Vals (xs.take n) (us.take n)
  | _, _, 0, _ => .nil
  | _, _, _ + 1, .nil => .nil
  | _, _, n + 1, .cons r t => .cons r (Vals.take n t)
theorem Vals.drop : ∀ {xs : List V} {us : List Value} (n : Nat), Vals xs us → Vals (xs.drop n) (us.drop n)
  | _, _, 0, r => r
  | _, _, _ + 1, .nil => .nil
  | _, _, n + 1, .cons _ t => Vals.drop n t
theorem Vals.none_of : ∀ {xs : List V} {us : List Value} {i : Nat}, Vals xs us → xs[i]? = none → us[i]? = none := fun {xs us i} r e => by
  have h1 := r.length
  have h2 : xs.length ≤ i := List.getElem?_eq_none_iff.mp e
  exact List.getElem?_eq_none_iff.mpr (by omega)
def RelO : Option V → Option Value → Prop
  | some v, some u => RelV v u
  | none, none => True
  | _, _ => False
def KV {κ : Type} : List (κ × V) → List (κ × Value) → Prop := Paired fun (p : κ × V) (q : κ × Value) => p.1 = q.1 ∧ RelV p.2 q.2
def kV : Key → V
  | .inl i => .int i
  | .inr x => .str x
inductive HO where
    | lst (xs : List V)
    | tup (xs : List V)
    | dK (kvs : List (Key × V)) | dT (kvs : List (List Key × V))
    | set (S : Int → Bool) (n : Nat)
    | ins (C dx : Addr) (fs : List (Str × V))
    | own (x : Addr)
    | xd (fs : List (Str × V))
    | met (f x : Addr)
    | rng (lo hi : Int)
    | frz (o : Obj) (u : HO)
    | tbl (ps : Array Value)
    | ext (φ : Heap → Prop)
abbrev Hp := Addr → Option HO
def upd (H : Hp) (a : Addr) (o : HO) : Hp := fun b => if b = a then some o else H b
theorem upd_same {H : Hp} {a : Addr} {o : HO} : upd H a o a = some o := by unfold upd; rw [if_pos rfl]
theorem upd_ne {H : Hp} {a b : Addr} {o : HO} (h : b ≠ a) : upd H a o b = H b := by unfold upd; rw [if_neg h]
theorem upd_upd {H : Hp} {a : Addr} {o u : HO} : upd (upd H a o) a u = upd H a u := by
  funext b; unfold upd; split <;> rfl
theorem ne_of {H : Hp} {a b : Addr} {o u : HO} (h : H a = some o) (h' : H b = some u) (d : o ≠ u) : a ≠ b := by
  intro e; subst e; rw [h] at h'; exact d (Option.some.inj h')
theorem ne_of_none {H : Hp} {a b : Addr} {o : HO} (h : H a = some o) (h' : H b = none) : a ≠ b := by
  intro e; subst e; rw [h] at h'; cases h'
section
variable (P : Program) (w : World)
def ObjOk (H : Hp) (h : Heap) (a : Addr) : HO → Prop
  | .lst xs => xs.length ≤ sizeLine ∧ ∃ (its : List Value) (n : Nat), Vals xs its ∧ h.get? a = some { cls := .type "list", data := .seq its.toArray n }
  | .tup xs => xs.length ≤ sizeLine ∧ ∃ its : List Value, Vals xs its ∧ IsTup h a its.toArray
  | .dK kvs => kvs.length ≤ sizeLine ∧ (a == sysModules) = false ∧ ∃ vs, KV kvs vs ∧ h.DictOf (mixKind P w) a vs
  | .dT kvs => kvs.length ≤ sizeLine ∧ (a == sysModules) = false ∧ ∃ xs : List (List Key × Addr × Value),
      Paired (fun (p : List Key × V) (q : List Key × Addr × Value) => p.1 = q.1 ∧ H q.2.1 = some (.tup (p.1.map kV)) ∧ RelV p.2 q.2.2) kvs xs ∧
      ∃ o es ep, h.get? a = some o ∧ o.ExactDict ∧ o.data = .dict es ep ∧ es.toList = xs.map (entryOfKey (tupleKind (mixKind P w))) ∧ (xs.map (·.1)).Nodup
  | .set S n => h.SetOf (intKind P w) a S n
  | .ins C dx fs => H dx = some (.own a) ∧ fs.length ≤ 1000 ∧ dx ≠ a ∧ h.get? a = some (PySem.W.instObj C dx) ∧
      ∃ mA, h.Ns1 dx mA ∧ (∀ f, RelO (fs.lookup f) (mA f)) ∧ PySem.Within mA (fs.map (·.1))
  | .own _ => ∃ o, h.get? a = some o
  | .xd fs => ∃ mA, h.Ns1 a mA ∧ ∀ f, RelO (fs.lookup f) (mA f)
  | .rng lo hi => ∃ t u v, h.get? a = some { cls := .type "range", data := .fields #[.int lo t, .int hi u, .int 1 v] }
  | .frz o u => h.get? a = some o ∧ ObjOk H h a u
  | .tbl ps => h.get? a = some { cls := .none, data := .fields ps }
  | .met f x => h.get? a = some (PySem.W.methodObj (.ref f) (.ref x))
  | .ext φ => φ h ∧ (∃ o, h.get? a = some o) ∧ ∀ h1 h2 : Heap, φ h1 → (∀ o, h1.get? a = some o → h2.get? a = some o) → φ h2
def HOk (H : Hp) (h : Heap) : Prop := ∀ a o, H a = some o → ObjOk P w H h a o
end
section
variable {P : Program} {w : World} {H H' : Hp} {h h' : Heap} {a : Addr} {o : HO}
theorem ObjOk.lt (x : ObjOk P w H h a o) : a < h.objs.size := by
  cases o with
  | lst xs => obtain ⟨_, _, _, _, e⟩ := x; exact Heap.lt_size e
  | tup xs => obtain ⟨_, _, _, p⟩ := x; exact p.lt
  | dK kvs => obtain ⟨_, _, _, _, o, _, _, e, _⟩ := x; exact Heap.lt_size e
  | dT kvs => obtain ⟨_, _, _, _, o, _, _, e, _⟩ := x; exact Heap.lt_size e
  | set S n => obtain ⟨o, _, _, _, e, _⟩ := x; exact Heap.lt_size e
  | ins C dx fs => obtain ⟨_, _, _, e, _⟩ := x; exact Heap.lt_size e
  | own y => obtain ⟨_, e⟩ := x; exact Heap.lt_size e
  | xd fs => obtain ⟨_, ⟨_, _, _, e, _⟩, _⟩ := x; exact Heap.lt_size e
  | rng lo hi => obtain ⟨_, _, _, e⟩ := x; exact Heap.lt_size e
  | frz ob u => obtain ⟨e, _⟩ := x; exact Heap.lt_size e
  | tbl ps => exact Heap.lt_size (show h.get? a = some _ from x)
  | met f y => exact Heap.lt_size (show h.get? a = some _ from x)
  | ext φ => obtain ⟨_, ⟨_, e⟩, _⟩ := x; exact Heap.lt_size e
theorem Paired.mapP {α β : Type} {F G : α → β → Prop} : ∀ {l₁ : List α} {l₂ : List β}, Paired F l₁ l₂ → (∀ a b, F a b → G a b) → Paired G l₁ l₂
  | _, _, .nil, _ => .nil
  | _, _, .cons r t, f => .cons (f _ _ r) (Paired.mapP t f)
theorem ObjOk.stay (x : ObjOk P w H h a o) (k : ∀ b u, (b = a ∨ H b = some (.own a)) → h.get? b = some u → h'.get? b = some u)
    (ho : ∀ b, H b = some (.own a) → H' b = some (.own a)) (ht : ∀ b xs, H b = some (.tup xs) → H' b = some (.tup xs)) : ObjOk P w H' h' a o := by
  induction o with
  | lst xs => obtain ⟨z, its, n, r, e⟩ := x; exact ⟨z, its, n, r, k _ _ (.inl rfl) e⟩
  | tup xs => obtain ⟨z, its, r, ob, e, c⟩ := x; exact ⟨z, its, r, ob, k _ _ (.inl rfl) e, c⟩
  | dK kvs => obtain ⟨z, y, vs, r, ob, es, ep, e, c⟩ := x; exact ⟨z, y, vs, r, ob, es, ep, k _ _ (.inl rfl) e, c⟩
  | dT kvs =>
    obtain ⟨z, y, xs, r, ob, es, ep, e, c⟩ := x
    exact ⟨z, y, xs, Paired.mapP r fun p q z => ⟨z.1, ht _ _ z.2.1, z.2.2⟩, ob, es, ep, k _ _ (.inl rfl) e, c⟩
  | set S n => obtain ⟨ob, es, ep, t, e, c⟩ := x; exact ⟨ob, es, ep, t, k _ _ (.inl rfl) e, c⟩
  | ins C dx fs =>
    obtain ⟨d, z, ne, e, mA, ⟨od, es, ep, e2, c⟩, r⟩ := x
    exact ⟨ho _ d, z, ne, k _ _ (.inl rfl) e, mA, ⟨od, es, ep, k _ _ (.inr d) e2, c⟩, r⟩
  | own y => obtain ⟨ob, e⟩ := x; exact ⟨ob, k _ _ (.inl rfl) e⟩
  | xd fs => obtain ⟨mA, ⟨od, es, ep, e, c⟩, r⟩ := x; exact ⟨mA, ⟨od, es, ep, k _ _ (.inl rfl) e, c⟩, r⟩
  | rng lo hi => obtain ⟨t, u, v, e⟩ := x; exact ⟨t, u, v, k _ _ (.inl rfl) e⟩
  | frz ob u ih => obtain ⟨e, q⟩ := x; exact ⟨k _ _ (.inl rfl) e, ih q⟩
  | tbl ps =>
    have e : h.get? a = some { cls := .none, data := .fields ps } := x
    show h'.get? a = some { cls := .none, data := .fields ps }
    exact k a _ (.inl rfl) e
  | met f y =>
    have e : h.get? a = some (PySem.W.methodObj (.ref f) (.ref y)) := x
    show h'.get? a = some (PySem.W.methodObj (.ref f) (.ref y))
    exact k a _ (.inl rfl) e
  | ext φ => obtain ⟨p, ⟨o, e⟩, st⟩ := x; exact ⟨st _ _ p fun o q => k _ _ (.inl rfl) q, ⟨o, k _ _ (.inl rfl) e⟩, st⟩
theorem HOk.lt (x : HOk P w H h) (e : H a = some o) : a < h.objs.size := (x a o e).lt
theorem HOk.fresh (x : HOk P w H h) (e : h.objs.size ≤ a) : H a = none := by
  cases q : H a with
  | none => rfl
  | some u => exact absurd (Nat.lt_of_lt_of_le (x.lt q) e) (Nat.lt_irrefl _)
theorem HOk.kept (x : HOk P w H h) (k : ∀ b u, h.get? b = some u → h'.get? b = some u) : HOk P w H h' := fun a o e =>
  (x a o e).stay (fun b u _ q => k b u q) (fun _ q => q) fun _ _ q => q
theorem HOk.laid (x : HOk P w H h) (k : ∀ b u, h.get? b = some u → h'.get? b = some u) (hp : h.objs.size ≤ a) (new : ObjOk P w (upd H a o) h' a o) : HOk P w (upd H a o) h' := fun b u e => by
  have hn := x.fresh hp
  by_cases hb : b = a
  · subst hb; rw [upd_same] at e; cases e; exact new
  · rw [upd_ne hb] at e
    exact (x b u e).stay (fun c v _ q => k c v q) (fun c q => by rw [upd_ne (ne_of_none q hn)]; exact q) fun c xs q => by rw [upd_ne (ne_of_none q hn)]; exact q
end
def Rd (H : Hp) (a : Addr) (u : HO) : Prop := H a = some u ∨ ∃ o, H a = some (.frz o u)
theorem Rd.of {H : Hp} {a : Addr} {u : HO} (h : H a = some u) : Rd H a u := .inl h
theorem Rd.ok {P : Program} {w : World} {H : Hp} {h : Heap} {a : Addr} {u : HO} (r : Rd H a u) (x : HOk P w H h) : ObjOk P w H h a u := by
  rcases r with r | ⟨o, r⟩
  · exact x a u r
  · obtain ⟨_, q⟩ := x a _ r
    exact q
def Mut : Option HO → Prop
  | some (.lst _) => True
  | some (.dK _) => True
  | some (.dT _) => True
  | some (.set _ _) => True
  | some (.ins _ _ _) => True
  | some (.ext _) => True
  | _ => False
section
variable {P : Program} {w : World} {H : Hp} {h h' : Heap} {x e : Addr} {o' : HO}
theorem HOk.write (ok : HOk P w H h) (mu : Mut (H x)) (he : e = x ∨ H e = some (.own x)) (k : ∀ b u, b ≠ e → h.get? b = some u → h'.get? b = some u) (heo : ∃ u, h'.get? e = some u)
    (new : ObjOk P w (upd H x o') h' x o') : HOk P w (upd H x o') h' := fun b u q => by
  have nown : ∀ c y, H c = some (.own y) → c ≠ x := fun c y r z => by subst z; rw [r] at mu; exact mu
  have ntup : ∀ c xs, H c = some (.tup xs) → c ≠ x := fun c xs r z => by subst z; rw [r] at mu; exact mu
  by_cases hb : b = x
  · subst hb; rw [upd_same] at q; cases q; exact new
  · rw [upd_ne hb] at q
    by_cases hbe : b = e
    · have q' : H b = some (.own x) := by
        rcases he with z | z
        · exact absurd (hbe.trans z) hb
        · rw [hbe]; exact z
      rw [q] at q'; cases q'
      obtain ⟨v, hv⟩ := heo
      exact ⟨v, by rw [hbe]; exact hv⟩
    · refine (ok b u q).stay (fun c v hc r => k c v ?_ r) (fun c r => by rw [upd_ne (nown c b r)]; exact r) fun c xs r => by rw [upd_ne (ntup c xs r)]; exact r
      rcases hc with rfl | hc
      · exact hbe
      · rintro rfl
        rcases he with z | z
        · exact nown c b hc z
        · rw [hc] at z; cases z; exact hb rfl
end
structure Un (fs ex : List Addr) (H H' : Hp) (h h' : Heap) : Prop where
  keep : ∀ b o, h.get? b = some o → H b = none → b ∉ fs → b ∉ ex → h'.get? b = some o
  slot : ∀ b o, h.get? b = some o → H b = none → b ∈ fs → b ∉ ex → ∃ sl, h'.get? b = some { o with slots := sl }
  free : ∀ b o, h.get? b = some o → H b = none → b ∉ ex → H' b = none
  there : ∀ b o, h.get? b = some o → b ∉ ex → ∃ o', h'.get? b = some o'
  tups : ∀ b xs, H b = some (.tup xs) → H' b = some (.tup xs)
  frzs : ∀ b o u, H b = some (.frz o u) → H' b = some (.frz o u)
  tbls : ∀ b ps, H b = some (.tbl ps) → ∃ more, H' b = some (.tbl (ps ++ more))
section
variable {fs fs' ex ex' : List Addr} {H H1 H2 : Hp} {h h1 h2 h' : Heap} {a x e : Addr} {o : HO}
theorem Un.any (u : Un fs ex H H1 h h1) {b : Addr} {ob : Obj} (q : h.get? b = some ob) (n : H b = none) (hx : b ∉ ex) : ∃ sl, h1.get? b = some { ob with slots := sl } := by
  by_cases hb : b ∈ fs
  · exact u.slot b ob q n hb hx
  · exact ⟨ob.slots, u.keep b ob q n hb hx⟩
theorem Un.trans (a : Un fs ex H H1 h h1) (b : Un fs ex H1 H2 h1 h2) : Un fs ex H H2 h h2 where
  keep := fun c ob q n hc hx => b.keep c ob (a.keep c ob q n hc hx) (a.free c ob q n hx) hc hx
  slot := fun c ob q n hc hx => by
    obtain ⟨sl, e1⟩ := a.slot c ob q n hc hx
    obtain ⟨sl', e2⟩ := b.slot c _ e1 (a.free c ob q n hx) hc hx
    exact ⟨sl', e2⟩
  free := fun c ob q n hx => by
    obtain ⟨o', e1⟩ := a.there c ob q hx
    exact b.free c o' e1 (a.free c ob q n hx) hx
  there := fun c ob q hx => by
    obtain ⟨o', e1⟩ := a.there c ob q hx
    exact b.there c o' e1 hx
  tups := fun c xs q => b.tups c xs (a.tups c xs q)
  frzs := fun c ob xs q => b.frzs c ob xs (a.frzs c ob xs q)
  tbls := fun c ps q => by
    obtain ⟨m1, e1⟩ := a.tbls c ps q
    obtain ⟨m2, e2⟩ := b.tbls c _ e1
    exact ⟨m1 ++ m2, by rw [e2, Array.append_assoc]⟩
theorem Un.kept (k : ∀ b u, h.get? b = some u → h'.get? b = some u) : Un fs ex H H h h' :=
  ⟨fun b ob q _ _ _ => k b ob q, fun b ob q _ _ _ => ⟨ob.slots, k b ob q⟩, fun _ _ _ n _ => n, fun b ob q _ => ⟨ob, k b ob q⟩, fun _ _ q => q, fun _ _ _ q => q, fun _ ps q => ⟨#[], by rw [q]; simp⟩⟩
theorem Un.refl : Un fs ex H H h h := Un.kept fun _ _ q => q
theorem Un.laid (k : ∀ b u, h.get? b = some u → h'.get? b = some u) (hp : h.objs.size ≤ a) (hn : H a = none) : Un fs ex H (upd H a o) h h' where
  keep := fun b u q _ _ _ => k b u q
  slot := fun b u q _ _ _ => ⟨u.slots, k b u q⟩
  free := fun b u q n _ => by rw [upd_ne (Nat.ne_of_lt (Nat.lt_of_lt_of_le (Heap.lt_size q) hp))]; exact n
  there := fun b u q _ => ⟨u, k b u q⟩
  tups := fun b xs q => by rw [upd_ne (ne_of_none q hn)]; exact q
  frzs := fun b u xs q => by rw [upd_ne (ne_of_none q hn)]; exact q
  tbls := fun b ps q => ⟨#[], by rw [upd_ne (ne_of_none q hn), q]; simp⟩
theorem Un.write (mu : Mut (H x)) (he : e = x ∨ H e = some (.own x)) (k : ∀ b u, b ≠ e → h.get? b = some u → h'.get? b = some u) (heo : ∃ u, h'.get? e = some u) : Un fs ex H (upd H x o) h h' := by
  have hx : ∀ b, H b = none → b ≠ x := fun b n z => by subst z; rw [n] at mu; exact mu
  have hb : ∀ b, H b = none → b ≠ e := fun b n z => by
    subst z
    rcases he with r | r
    · exact hx b n r
    · rw [n] at r; cases r
  have hm : ∀ b u, H b = some u → ¬ Mut (some u) → b ≠ x := fun b u q nm z => by subst z; rw [q] at mu; exact nm mu
  refine ⟨fun b u q n _ _ => k b u (hb b n) q, fun b u q n _ _ => ⟨u.slots, k b u (hb b n) q⟩, fun b u q n _ => by rw [upd_ne (hx b n)]; exact n, fun b u q _ => ?_,
    fun b xs q => by rw [upd_ne (hm b _ q fun z => z)]; exact q, fun b u xs q => by rw [upd_ne (hm b _ q fun z => z)]; exact q, fun b ps q => ⟨#[], by rw [upd_ne (hm b _ q fun z => z), q]; simp⟩⟩
  by_cases hbe : b = e
  · subst hbe; exact heo
  · exact ⟨u, k b u hbe q⟩
theorem Un.mono (u : Un fs ex H H1 h h1) (hs : ∀ b ∈ fs, b ∈ fs') (hx : ∀ b ∈ ex, b ∈ ex') : Un fs' ex' H H1 h h1 :=
  ⟨fun b ob q n hb he => u.keep b ob q n (fun z => hb (hs b z)) fun z => he (hx b z), fun _ _ q n _ he => u.any q n fun z => he (hx _ z), fun b ob q n he => u.free b ob q n fun z => he (hx b z), fun b ob q he => u.there b ob q fun z => he (hx b z), u.tups, u.frzs, u.tbls⟩
end
def trk (h : Heap) (H : Hp) : List Addr := (List.range h.objs.size).filter fun a => (H a).isSome
def hidT (h : Heap) (H : Hp) : Heap := PySem.W.hideAll h (trk h H)
theorem hidT_size (h : Heap) (H : Hp) : (hidT h H).objs.size = h.objs.size := PySem.W.hideAll_size _ _
theorem hidT_get {h : Heap} {H : Hp} {b : Addr} {o : Obj} (e : h.get? b = some o) (n : H b = none) : (hidT h H).get? b = some o :=
  PySem.W.hideAll_get _ e fun hm => by
    have q : (H b).isSome = true := (List.mem_filter.mp hm).2
    rw [n] at q; simp at q
theorem of_hidT {h : Heap} {H : Hp} {b : Addr} {o : Obj} (e : (hidT h H).get? b = some o) : h.get? b = some o ∧ H b = none := by
  have e' : h.get? b = some o := PySem.W.of_hideAll (trk h H) e
  refine ⟨e', ?_⟩
  cases q : H b with
  | none => rfl
  | some x =>
    have hm : b ∈ trk h H := List.mem_filter.mpr ⟨List.mem_range.mpr (Heap.lt_size e'), by simp [q]⟩
    have z : (hidT h H).get? b = none := PySem.W.hideAll_none (trk h H) hm
    rw [z] at e; cases e
def allNews (g h : Heap) (L : Addr) : List (Addr × Obj) := (List.range h.objs.size).filterMap fun a => if a = L ∨ (g.get? a).isSome = true then none else (h.get? a).map fun o => (a, o)
def rest (g h : Heap) (L d : Addr) : List (Addr × Obj) := (allNews g h L).filter fun p => decide (p.1 ≠ d)
end L2
namespace L2
open PySem PySem.Spec PyProof.Rows
structure Mod (K : PySem.W.Frag) (mg : Str → Option Value) (base : Heap) : Prop where
  kin : K.In base
  glob : base.Ns mainGlobals mg
  blt : ∃ mb, base.Ns builtinsNs mb ∧ ∀ x : Str, x ≠ "__name__" → mb x = bootBuiltins x
  nolimit : base.NoLimit
structure Cx where
  prog : Program
  w : World
  K : PySem.W.Frag
  mg : Str → Option Value
  base : Heap
  A : Around
  N : List Str
  s₀ : Shared
  H₀ : Hp
  env : Env
  outer : List Env
  stack : List Env
  ex : List Addr
  fn : Str → Bool
  calm : Bool
  pn : List (Addr × Obj)
  xe : Value → Shared → Prop
def frs (l : List Env) : List Addr := l.filterMap (·.frame)
abbrev Cx.fs (X : Cx) : List Addr := frs X.outer
def Vis (sc : Scope) (x : Str) : Prop := sc.names.lookup x = some .local ∨ sc.names.lookup x = some .cell ∨ sc.names.lookup x = some .free
def Loc (sc : Scope) (x : Str) : Prop := sc.names.lookup x = some .local ∨ sc.names.lookup x = some .cell
def Look (env : Env) (h : Heap) (m : Str → Option Value) (x : Str) (u : Value) : Prop :=
  (env.kindOf x = some .local ∧ m x = some u) ∨ ((env.kindOf x = some .cell ∨ env.kindOf x = some .free) ∧ ∃ c, env.cells.lookup x = some c ∧ h.IsCell c (some u))
structure Cx.Ok (X : Cx) : Prop where
  mod : Mod X.K X.mg X.base
  kind : X.env.scope.kind = .function
  glob : X.env.globals = mainGlobals
  blt : X.env.builtins = builtinsNs
  above : X.s₀.heap.objs.size ≤ X.env.locals
  inj : ∀ x y c, X.env.cells.lookup x = some c → X.env.cells.lookup y = some c → x = y
  has : ∀ x, (X.env.kindOf x = some .cell ∨ X.env.kindOf x = some .free) → ∃ c, X.env.cells.lookup x = some c
  cab : ∀ x c, X.fn x = true → X.env.cells.lookup x = some c → X.s₀.heap.objs.size ≤ c
  hd : X.calm = true → X.A.handled = none
  frames : X.A.frames = some X.stack
  stk : X.stack = X.outer ∨ (X.stack = X.env :: X.outer ∧ X.env.frame = some X.env.locals)
  exf : ∀ b ∈ X.ex, b ≠ X.env.locals ∧ ∀ x c, X.env.cells.lookup x = some c → c ≠ b
  bs : ∀ b o, X.base.get? b = some o → X.s₀.heap.get? b = some o ∧ X.H₀ b = none
  bsz : X.base.objs.size ≤ X.s₀.heap.objs.size
  noex : ∀ b o, X.base.get? b = some o → b ∉ X.ex
  exfs : ∀ b ∈ X.ex, b ∉ X.fs
  funs : X.s₀.heap.FunFrames X.base X.outer
  frf : ∀ b ∈ X.fs, X.H₀ b = none
structure Inv (X : Cx) (pins : List (Addr × Obj)) (σ : List (Option V)) (H : Hp) (s : Shared) : Prop where
  ok : X.Ok
  os : s.os = X.s₀.os
  bare : AllBare s.gens
  base : Un X.fs X.ex X.H₀ H X.s₀.heap s.heap
  loc : ∃ m, s.heap.Ns X.env.locals m ∧ ∀ (i : Nat) (x : Str) (v : V), X.N[i]? = some x → σ[i]? = some (some v) → Vis X.env.scope x → ∃ u, RelV v u ∧ Look X.env s.heap m x u
  cell : ∀ x c, X.env.cells.lookup x = some c → ∃ v, s.heap.IsCell c v
  free : H X.env.locals = none
  freeC : ∀ x c, X.env.cells.lookup x = some c → H c = none
  pin : ∀ p ∈ X.pn ++ pins, s.heap.get? p.1 = some p.2 ∧ H p.1 = none ∧ p.1 ≠ X.env.locals ∧ p.1 ∉ X.fs ∧ ∀ v, p.2.data ≠ .cell v
  hok : HOk X.prog X.w H s.heap
  len : σ.length = X.N.length
section
variable {X : Cx} {pins : List (Addr × Obj)} {σ : List (Option V)} {H H' : Hp} {s : Shared} {h' : Heap}
theorem Cx.Ok.nofr (ok : X.Ok) {b : Addr} {o : Obj} (e : X.base.get? b = some o) : b ∉ X.fs := fun hb => by
  have := (ok.funs.mem hb).1
  rw [e] at this; cases this
theorem Inv.bs (I : Inv X pins σ H s) : ∀ b o, X.base.get? b = some o → s.heap.get? b = some o ∧ H b = none := fun b o e =>
  ⟨I.base.keep b o (I.ok.bs b o e).1 (I.ok.bs b o e).2 (I.ok.nofr e) (I.ok.noex b o e), I.base.free b o (I.ok.bs b o e).1 (I.ok.bs b o e).2 (I.ok.noex b o e)⟩
theorem Inv.bk (I : Inv X pins σ H s) : ∀ b o, X.base.get? b = some o → s.heap.get? b = some o := fun b o e => (I.bs b o e).1
theorem Inv.mod (I : Inv X pins σ H s) : Mod X.K X.mg X.base := I.ok.mod
theorem Inv.kIn (I : Inv X pins σ H s) : X.K.In s.heap := I.ok.mod.kin.keeps I.bk
theorem Inv.nolimit (I : Inv X pins σ H s) : s.heap.NoLimit := I.ok.mod.nolimit.keeps I.bk
theorem Inv.fr (I : Inv X pins σ H s) : ∃ m, Fr X.base X.env.locals s.heap m :=
  let ⟨m, hn, _⟩ := I.loc
  ⟨m, hn, I.bk, Nat.le_trans I.ok.bsz I.ok.above⟩
theorem Inv.lt (I : Inv X pins σ H s) : X.env.locals < s.heap.objs.size := let ⟨_, hn, _⟩ := I.loc; hn.lt
theorem Inv.sz (I : Inv X pins σ H s) : X.s₀.heap.objs.size ≤ s.heap.objs.size := Nat.le_trans I.ok.above (Nat.le_of_lt I.lt)
theorem Inv.nofs (I : Inv X pins σ H s) {a : Addr} (h : s.heap.objs.size ≤ a) : a ∉ X.fs := fun hb => by
  obtain ⟨_, o, ho, _⟩ := I.ok.funs.mem hb
  exact absurd (Nat.lt_of_lt_of_le (Heap.lt_size ho) (Nat.le_trans I.sz h)) (Nat.lt_irrefl _)
theorem Inv.cne (I : Inv X pins σ H s) : ∀ x c, X.env.cells.lookup x = some c → c ≠ X.env.locals := fun x c e z => by
  obtain ⟨v, o, ho, hd⟩ := I.cell x c e
  obtain ⟨m, ⟨o', es, ep, ho', hd', _⟩, _⟩ := I.loc
  rw [z, ho'] at ho; cases ho; rw [hd'] at hd; cases hd
theorem Inv.funs (I : Inv X pins σ H s) : s.heap.FunFrames X.base X.outer := by
  have all : ∀ (l : List Env), (∀ b ∈ frs l, b ∈ X.fs) → X.s₀.heap.FunFrames X.base l → s.heap.FunFrames X.base l := by
    intro l
    induction l with
    | nil => intro _ _; trivial
    | cons env r ih =>
      intro hs hl
      obtain ⟨hk, ⟨L, o, hf, hn, ho, hd⟩, hr⟩ := hl
      have hL : L ∈ X.fs := hs L (by unfold frs; rw [List.filterMap_cons, hf]; exact List.mem_cons_self)
      obtain ⟨sl, e⟩ := I.base.slot L o ho (I.ok.frf L hL) hL fun z => I.ok.exfs L z hL
      exact ⟨hk, ⟨L, _, hf, hn, e, hd⟩, ih (fun b hb => hs b (by unfold frs; rw [List.filterMap_cons, hf]; exact List.mem_cons_of_mem _ hb)) hr⟩
  exact all X.outer (fun _ hb => hb) I.ok.funs
theorem Inv.stack (I : Inv X pins σ H s) : s.heap.FunFrames X.base X.stack := by
  rcases I.ok.stk with e | ⟨e, hf⟩
  · rw [e]; exact I.funs
  · rw [e]
    obtain ⟨m, hn, _⟩ := I.loc
    refine .cons (by rw [I.ok.kind]; decide) hf hn ?_ I.funs
    exact Heap.get?_none_of_le (Nat.le_trans I.ok.bsz I.ok.above)
theorem Inv.stkSub (I : Inv X pins σ H s) : ∀ b ∈ frs X.stack, b ∈ X.env.locals :: X.fs := fun b hb => by
  rcases I.ok.stk with e | ⟨e, hf⟩
  · rw [e] at hb; exact List.mem_cons_of_mem _ hb
  · rw [e] at hb
    unfold frs at hb
    rw [List.filterMap_cons, hf] at hb
    exact hb
theorem Inv.stkFree (I : Inv X pins σ H s) : ∀ b ∈ frs X.stack, H b = none := fun b hb => by
  rcases List.mem_cons.mp (I.stkSub b hb) with e | hb
  · rw [e]; exact I.free
  · obtain ⟨_, o, ho, _⟩ := I.ok.funs.mem hb
    exact I.base.free b o ho (I.ok.frf b hb) fun z => I.ok.exfs b z hb
theorem Inv.step {g' : Array GenState} {t' : Nat} {d' : Drawn} {ch : List Addr} (I : Inv X pins σ H s)
    (hch : ∀ b ∈ ch, (b ∈ X.ex ∨ X.s₀.heap.objs.size ≤ b) ∧ b ≠ X.env.locals ∧ (∀ x c, X.env.cells.lookup x = some c → c ≠ b) ∧ ∀ p ∈ X.pn ++ pins, p.1 ≠ b)
    (keep : ∀ b o, b ≠ X.env.locals → b ∉ X.fs → b ∉ ch → s.heap.get? b = some o → H b = none → h'.get? b = some o)
    (slot : ∀ b o, b ≠ X.env.locals → b ∈ X.fs → b ∉ ch → s.heap.get? b = some o → H b = none → ∃ sl, h'.get? b = some { o with slots := sl }) (free : ∀ b o, b ∉ ch → s.heap.get? b = some o → H b = none → H' b = none)
    (there : ∀ b o, b ∉ ch → s.heap.get? b = some o → ∃ o', h'.get? b = some o')
    (tups : ∀ b xs, H b = some (.tup xs) → H' b = some (.tup xs)) (frzs : ∀ b o u, H b = some (.frz o u) → H' b = some (.frz o u)) (tbls : ∀ b ps, H b = some (.tbl ps) → ∃ more, H' b = some (.tbl (ps ++ more)))
    (ns : ∀ m, s.heap.Ns X.env.locals m → h'.Ns X.env.locals m) (hok : HOk X.prog X.w H' h') (hg : AllBare g') :
    Inv X pins σ H' { s with heap := h', gens := g', drawn := d', toks := t' } := by
  have neL : ∀ b o, X.s₀.heap.get? b = some o → b ≠ X.env.locals := fun b o e => Nat.ne_of_lt (Nat.lt_of_lt_of_le (Heap.lt_size e) I.ok.above)
  have neC : ∀ b o, X.s₀.heap.get? b = some o → b ∉ X.ex → b ∉ ch := fun b o e hx hb => by
    rcases (hch b hb).1 with z | z
    · exact hx z
    · exact absurd (Nat.lt_of_lt_of_le (Heap.lt_size e) z) (Nat.lt_irrefl _)
  have cellK : ∀ x c, X.env.cells.lookup x = some c → ∀ v, s.heap.IsCell c v → h'.IsCell c v := fun x c e v ⟨o, ho, hd⟩ => by
    have nch : c ∉ ch := fun z => (hch c z).2.2.1 x c e rfl
    by_cases hc : c ∈ X.fs
    · obtain ⟨sl, q⟩ := slot c o (I.cne x c e) hc nch ho (I.freeC x c e)
      exact ⟨_, q, hd⟩
    · exact ⟨o, keep c o (I.cne x c e) hc nch ho (I.freeC x c e), hd⟩
  refine ⟨I.ok, I.os, hg, ⟨fun b o e n hb hx => ?_, fun b o e n hb hx => ?_, fun b o e n hx => ?_, fun b o e hx => ?_, fun b xs e => tups b xs (I.base.tups b xs e), fun b o xs e => frzs b o xs (I.base.frzs b o xs e), fun b ps e => ?_⟩, ?_, fun x c e => ?_, ?_, fun x c e => ?_, fun p hp => ?_, hok, I.len⟩
  · exact keep b o (neL b o e) hb (neC b o e hx) (I.base.keep b o e n hb hx) (I.base.free b o e n hx)
  · obtain ⟨sl, e1⟩ := I.base.slot b o e n hb hx
    obtain ⟨sl', e2⟩ := slot b _ (neL b o e) hb (neC b o e hx) e1 (I.base.free b o e n hx)
    exact ⟨sl', e2⟩
  · obtain ⟨o', e1⟩ := I.base.there b o e hx
    exact free b o' (neC b o e hx) e1 (I.base.free b o e n hx)
  · obtain ⟨o', e1⟩ := I.base.there b o e hx
    exact there b o' (neC b o e hx) e1
  · obtain ⟨m1, e1⟩ := I.base.tbls b ps e
    obtain ⟨m2, e2⟩ := tbls b _ e1
    exact ⟨m1 ++ m2, by rw [e2, Array.append_assoc]⟩
  · obtain ⟨m, hn, hl⟩ := I.loc
    refine ⟨m, ns m hn, fun i x v e1 e2 e3 => ?_⟩
    obtain ⟨u, r, l⟩ := hl i x v e1 e2 e3
    refine ⟨u, r, ?_⟩
    rcases l with l | ⟨k, c, e, z⟩
    · exact .inl l
    · exact .inr ⟨k, c, e, cellK x c e _ z⟩
  · obtain ⟨v, z⟩ := I.cell x c e
    exact ⟨v, cellK x c e v z⟩
  · obtain ⟨m, ⟨o, _, _, ho, _⟩, _⟩ := I.loc
    exact free _ o (fun z => (hch _ z).2.1 rfl) ho I.free
  · obtain ⟨v, o, ho, hd⟩ := I.cell x c e
    exact free c o (fun z => (hch c z).2.2.1 x c e rfl) ho (I.freeC x c e)
  · obtain ⟨e, n, ne, nf, d⟩ := I.pin p hp
    have nch : p.1 ∉ ch := fun z => (hch p.1 z).2.2.2 p hp rfl
    exact ⟨keep p.1 p.2 ne nf nch e n, free p.1 p.2 nch e n, ne, nf, d⟩
theorem Inv.un {t' : Nat} (I : Inv X pins σ H s) (u : Un X.fs [] H H' s.heap h') (hok : HOk X.prog X.w H' h') : Inv X pins σ H' { s with heap := h', toks := t' } := by
  obtain ⟨m, ⟨o, es, ep, ho, r⟩, _⟩ := id I.loc
  obtain ⟨sl, hL⟩ := u.any ho I.free (by simp)
  exact I.step (g' := s.gens) (d' := s.drawn) (ch := []) (fun _ z => nomatch z) (fun b o _ hb _ e n => u.keep b o e n hb (by simp)) (fun b o _ hb _ e n => u.slot b o e n hb (by simp)) (fun b o _ e n => u.free b o e n (by simp)) (fun b o _ e => u.there b o e (by simp)) u.tups u.frzs u.tbls (fun m' hm => by
    obtain ⟨o', es', ep', ho', r'⟩ := hm
    rw [ho] at ho'; cases ho'
    exact ⟨_, es', ep', hL, r'⟩) hok I.bare
theorem Inv.call {g' : Array GenState} {t' : Nat} {d' : Drawn} {ch : List Addr} (I : Inv X pins σ H s) (u : Un (frs X.stack) ch H H' s.heap h') (hok : HOk X.prog X.w H' h') (hg : AllBare g')
    (hch : ∀ b ∈ ch, (b ∈ X.ex ∨ X.s₀.heap.objs.size ≤ b) ∧ b ≠ X.env.locals ∧ (∀ x c, X.env.cells.lookup x = some c → c ≠ b) ∧ ∀ p ∈ X.pn ++ pins, p.1 ≠ b) :
    Inv X pins σ H' { s with heap := h', gens := g', drawn := d', toks := t' } := by
  obtain ⟨m, ⟨o, es, ep, ho, r⟩, _⟩ := id I.loc
  obtain ⟨sl, hL⟩ := u.any ho I.free fun z => (hch _ z).2.1 rfl
  exact I.step (ch := ch) hch (fun b o hL hb hc e n => u.keep b o e n (fun z => (List.mem_cons.mp (I.stkSub b z)).elim hL hb) hc) (fun b o _ _ hc e n => u.any e n hc) (fun b o hc e n => u.free b o e n hc) (fun b o hc e => u.there b o e hc) u.tups u.frzs u.tbls (fun m' hm => by
    obtain ⟨o', es', ep', ho', r'⟩ := hm
    rw [ho] at ho'; cases ho'
    exact ⟨_, es', ep', hL, r'⟩) hok hg
theorem Inv.turned {t' : Nat} {it : Addr} (I : Inv X pins σ H s) (k : ∀ b o, b ≠ it → s.heap.get? b = some o → h'.get? b = some o) (hn : H it = none) (hL : it ≠ X.env.locals)
    (h1 : it ∈ X.ex ∨ X.s₀.heap.objs.size ≤ it) (h2 : ∀ x c, X.env.cells.lookup x = some c → c ≠ it) (h3 : ∀ p ∈ X.pn ++ pins, p.1 ≠ it) : Inv X pins σ H { s with heap := h', toks := t' } := by
  have nit : ∀ b u, H b = some u → b ≠ it := fun b u e z => by rw [z, hn] at e; cases e
  refine I.step (g' := s.gens) (d' := s.drawn) (ch := [it]) (fun b hb => ?_) (fun b o _ _ hc e _ => k b o (fun z => hc (by simp [z])) e) (fun b o _ _ hc e _ => ⟨o.slots, k b o (fun z => hc (by simp [z])) e⟩) (fun _ _ _ _ n => n)
    (fun b o hc e => ⟨o, k b o (fun z => hc (by simp [z])) e⟩) (fun _ _ e => e) (fun _ _ _ e => e) (fun b ps e => ⟨#[], by rw [e]; simp⟩) (fun m hm => ?_) (fun b u e => ?_) I.bare
  · have e : b = it := by simpa using hb
    subst e
    exact ⟨h1, hL, h2, h3⟩
  · obtain ⟨o, es, ep, ho, r⟩ := hm
    exact ⟨o, es, ep, k _ o (Ne.symm hL) ho, r⟩
  · refine (I.hok b u e).stay (fun c v hc q => k c v ?_ q) (fun _ q => q) fun _ _ q => q
    rcases hc with z | z
    · rw [z]; exact nit b u e
    · exact nit c _ z
theorem Inv.tok (I : Inv X pins σ H s) (t : Nat) : Inv X pins σ H { s with toks := t } := I.un (h' := s.heap) (t' := t) Un.refl I.hok
theorem Inv.kept {t' : Nat} (I : Inv X pins σ H s) (k : ∀ b u, s.heap.get? b = some u → h'.get? b = some u) : Inv X pins σ H { s with heap := h', toks := t' } := I.un (Un.kept k) (I.hok.kept k)
theorem Inv.laid {a : Addr} {o : HO} {t' : Nat} (I : Inv X pins σ H s) (k : ∀ b u, s.heap.get? b = some u → h'.get? b = some u) (hp : s.heap.objs.size ≤ a) (new : ObjOk X.prog X.w (upd H a o) h' a o) :
    Inv X pins σ (upd H a o) { s with heap := h', toks := t' } := I.un (Un.laid k hp (I.hok.fresh hp)) (I.hok.laid k hp new)
theorem Inv.write {x e : Addr} {o : HO} {t' : Nat} (I : Inv X pins σ H s) (mu : Mut (H x)) (he : e = x ∨ H e = some (.own x)) (k : ∀ b u, b ≠ e → s.heap.get? b = some u → h'.get? b = some u) (heo : ∃ u, h'.get? e = some u)
    (new : ObjOk X.prog X.w (upd H x o) h' x o) : Inv X pins σ (upd H x o) { s with heap := h', toks := t' } := I.un (Un.write mu he k heo) (I.hok.write mu he k heo new)
theorem Inv.weak {σ' : List (Option V)} (I : Inv X pins σ H s) (hl : σ'.length = σ.length) (w : ∀ (i : Nat) v, σ'[i]? = some (some v) → σ[i]? = some (some v)) : Inv X pins σ' H s :=
  ⟨I.ok, I.os, I.bare, I.base, let ⟨m, hn, hl'⟩ := I.loc; ⟨m, hn, fun i x v e1 e2 e3 => hl' i x v e1 (w i v e2) e3⟩, I.cell, I.free, I.freeC, I.pin, I.hok, hl.trans I.len⟩
theorem Inv.pins_of {pins' : List (Addr × Obj)} (I : Inv X pins σ H s) (h : ∀ p ∈ pins', s.heap.get? p.1 = some p.2 ∧ H p.1 = none ∧ p.1 ≠ X.env.locals ∧ p.1 ∉ X.fs ∧ ∀ v, p.2.data ≠ .cell v) : Inv X pins' σ H s :=
  ⟨I.ok, I.os, I.bare, I.base, I.loc, I.cell, I.free, I.freeC, fun p hp => (List.mem_append.mp hp).elim (fun z => I.pin p (List.mem_append_left _ z)) (h p), I.hok, I.len⟩
theorem nodup_ix {N : List Str} (hN : N.Nodup) {i j : Nat} {x : Str} (a : N[i]? = some x) (b : N[j]? = some x) : i = j := by
  obtain ⟨h1, e1⟩ := List.getElem?_eq_some_iff.mp a
  obtain ⟨h2, e2⟩ := List.getElem?_eq_some_iff.mp b
  exact (List.getElem_inj hN).mp (e1.trans e2.symm)
theorem store_ok2 {M : Model} {A : Around} {E : Value → Shared → Prop} {i : Nat} {x : Str} {v : V} {u : Value} {Q : Unit → Shared → Prop} (I : Inv X pins σ H s) (hN : X.N.Nodup) (hi : X.N[i]? = some x) (hx : Loc X.env.scope x) (r : RelV v u)
    (h : ∀ s', Inv X pins (σ.set i (some v)) H s' → (∃ a, Heap.SameBut a s.heap s'.heap ∧ (a = X.env.locals ∨ X.env.cells.lookup x = some a)) → Q () s') (hf : X.fn x = true ∨ X.env.scope.names.lookup x = some .local := by first | exact .inl rfl | exact .inr rfl | assumption) : wpAny M A (storeName X.env x u) Q E s := by
  obtain ⟨m, hn, hl⟩ := id I.loc
  have hcls : (X.env.scope.kind == .class || (X.env.scope.kind == .module && X.env.locals != X.env.globals)) = false := by rw [I.ok.kind]; rfl
  have hiσ : i < σ.length := by rw [I.len]; exact (List.getElem?_eq_some_iff.mp hi).1
  have cne := I.cne
  have tracked : ∀ {a : Addr} {h' : Heap}, (∃ o, s.heap.get? a = some o ∧ H a = none) → Heap.SameBut a s.heap h' → HOk X.prog X.w H h' := fun {a h'} ha hs b ob e => by
    obtain ⟨_, _, hfree⟩ := ha
    refine (I.hok b ob e).stay (fun c w' hc q => (hs.2 c ?_).trans q) (fun _ q => q) fun _ _ q => q
    rintro rfl
    rcases hc with rfl | hc
    · rw [hfree] at e; cases e
    · rw [hfree] at hc; cases hc
  rcases hx with hk | hk
  · refine wpAny_storeName_local hk hn (fun h' hn' hs => ?_) hcls
    obtain ⟨oL, _, _, hoL, _⟩ := id hn
    refine h _ ⟨I.ok, I.os, I.bare, ⟨fun b o e n hb hx => ?_, fun b o e n hb hx => ?_, I.base.free, fun b o e hx => ?_, I.base.tups, I.base.frzs, I.base.tbls⟩, ⟨_, hn', fun j y v' e1 e2 e3 => ?_⟩, fun y c e => ?_, I.free, I.freeC, fun p hp => ?_, tracked ⟨oL, hoL, I.free⟩ hs, by simpa using I.len⟩ ⟨_, hs, .inl rfl⟩
    · exact (hs.2 b (Nat.ne_of_lt (Nat.lt_of_lt_of_le (Heap.lt_size e) I.ok.above))).trans (I.base.keep b o e n hb hx)
    · obtain ⟨sl, e1⟩ := I.base.slot b o e n hb hx
      exact ⟨sl, (hs.2 b (Nat.ne_of_lt (Nat.lt_of_lt_of_le (Heap.lt_size e) I.ok.above))).trans e1⟩
    · obtain ⟨o', e1⟩ := I.base.there b o e hx
      exact ⟨o', (hs.2 b (Nat.ne_of_lt (Nat.lt_of_lt_of_le (Heap.lt_size e) I.ok.above))).trans e1⟩
    · by_cases hj : j = i
      · subst hj
        rw [hi] at e1; cases e1
        rw [List.getElem?_set_self hiσ] at e2
        cases e2
        exact ⟨u, r, .inl ⟨hk, by simp⟩⟩
      · rw [List.getElem?_set_ne (Ne.symm hj)] at e2
        obtain ⟨u', r', q⟩ := hl j y v' e1 e2 e3
        refine ⟨u', r', ?_⟩
        rcases q with ⟨k, e⟩ | ⟨k, c, e, z⟩
        · refine .inl ⟨k, ?_⟩
          have : y ≠ x := fun e => hj (nodup_ix hN e1 (e ▸ hi))
          simp [this, e]
        · exact .inr ⟨k, c, e, z.sameBut hs (cne y c e)⟩
    · obtain ⟨w', z⟩ := I.cell y c e
      exact ⟨w', z.sameBut hs (cne y c e)⟩
    · obtain ⟨e, n, ne, nf, d⟩ := I.pin p hp
      exact ⟨(hs.2 p.1 ne).trans e, n, ne, nf, d⟩
  · have hfn : X.fn x = true := by
      rcases hf with z | z
      · exact z
      · rw [z] at hk; cases hk
    obtain ⟨c, hc⟩ := I.ok.has x (.inl hk)
    obtain ⟨w', z⟩ := I.cell x c hc
    refine wpAny_storeName_cell I.ok.kind hk hc z (fun h' hc' hs => ?_)
    obtain ⟨oc, hoc, hocd⟩ := id z
    refine h { s with heap := h' } ⟨I.ok, I.os, I.bare, ⟨fun b o e n hb hx => ?_, fun b o e n hb hx => ?_, I.base.free, fun b o e hx => ?_, I.base.tups, I.base.frzs, I.base.tbls⟩, ⟨m, hn.sameBut hs (Ne.symm (cne x c hc)), fun j y v' e1 e2 e3 => ?_⟩, fun y c' e => ?_, I.free, I.freeC, fun p hp => ?_, tracked ⟨oc, hoc, I.freeC x c hc⟩ hs, by simpa using I.len⟩ ⟨c, hs, .inr hc⟩
    · exact (hs.2 b (Nat.ne_of_lt (Nat.lt_of_lt_of_le (Heap.lt_size e) (I.ok.cab x c hfn hc)))).trans (I.base.keep b o e n hb hx)
    · obtain ⟨sl, e1⟩ := I.base.slot b o e n hb hx
      exact ⟨sl, (hs.2 b (Nat.ne_of_lt (Nat.lt_of_lt_of_le (Heap.lt_size e) (I.ok.cab x c hfn hc)))).trans e1⟩
    · obtain ⟨o', e1⟩ := I.base.there b o e hx
      exact ⟨o', (hs.2 b (Nat.ne_of_lt (Nat.lt_of_lt_of_le (Heap.lt_size e) (I.ok.cab x c hfn hc)))).trans e1⟩
    · by_cases hj : j = i
      · subst hj
        rw [hi] at e1; cases e1
        rw [List.getElem?_set_self hiσ] at e2
        cases e2
        exact ⟨u, r, .inr ⟨.inl hk, c, hc, hc'⟩⟩
      · rw [List.getElem?_set_ne (Ne.symm hj)] at e2
        obtain ⟨u', r', q⟩ := hl j y v' e1 e2 e3
        refine ⟨u', r', ?_⟩
        rcases q with q | ⟨k, c', e, z'⟩
        · exact .inl q
        · refine .inr ⟨k, c', e, z'.sameBut hs ?_⟩
          rintro rfl
          exact hj (nodup_ix hN e1 (I.ok.inj _ _ _ e hc ▸ hi))
    · by_cases hcc : c' = c
      · subst hcc; exact ⟨_, hc'⟩
      · obtain ⟨w2, z2⟩ := I.cell y c' e
        exact ⟨w2, z2.sameBut hs hcc⟩
    · obtain ⟨e, n, ne, nf, d⟩ := I.pin p hp
      refine ⟨(hs.2 p.1 ?_).trans e, n, ne, nf, d⟩
      intro q
      rw [q, hoc] at e
      have q' : oc = p.2 := Option.some.inj e
      exact d w' (by rw [← q']; exact hocd)
theorem store_ok {M : Model} {A : Around} {E : Value → Shared → Prop} {i : Nat} {x : Str} {v : V} {u : Value} {Q : Unit → Shared → Prop} (I : Inv X pins σ H s) (hN : X.N.Nodup) (hi : X.N[i]? = some x) (hx : Loc X.env.scope x) (r : RelV v u)
    (h : ∀ s', Inv X pins (σ.set i (some v)) H s' → Q () s') (hf : X.fn x = true ∨ X.env.scope.names.lookup x = some .local := by first | exact .inl rfl | exact .inr rfl | assumption) : wpAny M A (storeName X.env x u) Q E s :=
  store_ok2 I hN hi hx r (fun s' I' _ => h s' I') hf
theorem Inv.call' {s' : Shared} {ch : List Addr} (I : Inv X pins σ H s) (ho : s'.os = s.os) (u : Un (frs X.stack) ch H H' s.heap s'.heap) (hok : HOk X.prog X.w H' s'.heap) (hg : AllBare s'.gens)
    (hch : ∀ b ∈ ch, (b ∈ X.ex ∨ X.s₀.heap.objs.size ≤ b) ∧ b ≠ X.env.locals ∧ (∀ x c, X.env.cells.lookup x = some c → c ≠ b) ∧ ∀ p ∈ X.pn ++ pins, p.1 ≠ b) : Inv X pins σ H' s' := by
  obtain ⟨h', g', d', t', o'⟩ := s'
  have e : o' = s.os := ho
  subst e
  exact I.call (g' := g') (t' := t') (d' := d') u hok hg hch
end
abbrev XK := Value → Option Addr → Hp → Prop
abbrev St := List (Option V)
abbrev VK := V → Hp → Prop
abbrev TE := St → Hp → VK → Prop
abbrev TT := St → Hp → (Bool → Hp → Prop) → Prop
abbrev TA := St → Hp → (List V → Hp → Prop) → Prop
structure Ends where
  nx : St → Hp → Prop
  rt : VK
  bk : St → Hp → Prop := fun _ _ => False
  ct : St → Hp → Prop := fun _ _ => False
abbrev TS := Ends → St → Hp → Prop
def EP (X : Cx) (pins : List (Addr × Obj)) (σ : St) (Q : VK) (u : Value) (s' : Shared) : Prop := ∃ v H', Inv X pins σ H' s' ∧ RelV v u ∧ Q v H'
def TP (X : Cx) (pins : List (Addr × Obj)) (σ : St) (Q : Bool → Hp → Prop) (b : Bool) (s' : Shared) : Prop := ∃ H', Inv X pins σ H' s' ∧ Q b H'
def AP (X : Cx) (pins : List (Addr × Obj)) (σ : St) (Q : List V → Hp → Prop) (us : List Value) (s' : Shared) : Prop := ∃ vs H', Inv X pins σ H' s' ∧ Vals vs us ∧ Q vs H'
def SP (X : Cx) (pins : List (Addr × Obj)) (D : Ends) (f : Flow) (s' : Shared) : Prop :=
  match f with
  | .next => ∃ σ' H', Inv X pins σ' H' s' ∧ D.nx σ' H'
  | .brk => ∃ σ' H', Inv X pins σ' H' s' ∧ D.bk σ' H'
  | .cont => ∃ σ' H', Inv X pins σ' H' s' ∧ D.ct σ' H'
  | .ret u => ∃ v σ' H', Inv X pins σ' H' s' ∧ RelV v u ∧ D.rt v H'
def PE (X : Cx) (e : Expr) (t : TE) : Prop :=
  ∀ (pins : List (Addr × Obj)) (s : Shared) (σ : St) (H : Hp) (Q : VK), Inv X pins σ H s → t σ H Q → wpAny (model X.prog X.w) X.A (eval e X.env) (EP X pins σ Q) X.xe s
def PT (X : Cx) (e : Expr) (t : TT) : Prop :=
  ∀ (pins : List (Addr × Obj)) (s : Shared) (σ : St) (H : Hp) (Q : Bool → Hp → Prop), Inv X pins σ H s → t σ H Q → wpAny (model X.prog X.w) X.A (isTrue e X.env (eval e X.env)) (TP X pins σ Q) X.xe s
def PW (X : Cx) (e : Expr) (t : TT) : Prop :=
  ∀ (whole : Sem Value) (pins : List (Addr × Obj)) (s : Shared) (σ : St) (H : Hp) (Q : Bool → Hp → Prop), Inv X pins σ H s → t σ H Q → wpAny (model X.prog X.w) X.A (isTrue e X.env whole) (TP X pins σ Q) X.xe s
theorem PW.pt {X : Cx} {e : Expr} {t : TT} (h : PW X e t) : PT X e t := h _
def PA (X : Cx) (es : List Expr) (t : TA) : Prop :=
  ∀ (pos : Pos) (pins : List (Addr × Obj)) (s : Shared) (σ : St) (H : Hp) (Q : List V → Hp → Prop), Inv X pins σ H s → t σ H Q → wpAny (model X.prog X.w) X.A (spliced (backTo pos (starEach es X.env))) (AP X pins σ Q) X.xe s
def PS (X : Cx) (st : Stmt) (t : TS) : Prop :=
  ∀ (pins : List (Addr × Obj)) (s : Shared) (σ : St) (H : Hp) (D : Ends), Inv X pins σ H s → t D σ H → wpAny (model X.prog X.w) X.A (exec st X.env) (SP X pins D) X.xe s
def PSs (X : Cx) (st : List Stmt) (t : TS) : Prop :=
  ∀ (pins : List (Addr × Obj)) (s : Shared) (σ : St) (H : Hp) (D : Ends), Inv X pins σ H s → t D σ H → wpAny (model X.prog X.w) X.A (execs st X.env) (SP X pins D) X.xe s
theorem thn {α : Type} {t : Sem α} {Q Q' : α → Shared → Prop} {M : Model} {A : Around} {E : Value → Shared → Prop} {s : Shared} (h : wpAny M A t Q E s) (hQ : ∀ a s, Q a s → Q' a s) : wpAny M A t Q' E s := wpAny_mono h hQ fun _ _ x => x
end L2
namespace L2
open PySem PySem.Spec PyProof.Rows
section
variable {X : Cx}
def tVar (i : Nat) : TE := fun σ H Q => ∃ v, σ[i]? = some (some v) ∧ Q v H
def tC (v : V) : TE := fun _ H Q => Q v H
theorem pe_var {i : Nat} {x : Str} {pos : Pos} (hN : X.N[i]? = some x) (hv : Vis X.env.scope x) (hd : (x == ("__debug__" : Str)) = false := by decide) (hcd : (x == ("__classdict__" : Str)) = false := by decide) : PE X (.Name x pos) (tVar i) := by
  intro pins s σ H Q I h
  obtain ⟨v, e, h⟩ := h
  obtain ⟨m, hn, hl⟩ := I.loc
  obtain ⟨u, r, l⟩ := hl i x v hN e hv
  have fin : EP X pins σ Q u s := ⟨v, H, I, r, h⟩
  rcases l with ⟨hk, hm⟩ | ⟨hk, c, hc, hcell⟩
  · exact wpAny_Name (wpAny_loadName_local I.ok.kind hk hn hm fin) hd
  · rcases hk with hk | hk
    · exact wpAny_Name (wpAny_loadName_cell I.ok.kind hk hc hcell fin) hd
    · exact wpAny_Name (wpAny_loadName_free I.ok.kind hk hc hcell fin hcd) hd
theorem pe_int {i j pos} : PE X (.Constant (.int i) j pos) (tC (.int i)) := fun _ _ _ H _ I h => wpAny_Constant_int ⟨.int i, H, I.tok _, ⟨_, rfl⟩, h⟩
theorem pe_bl {b j pos} : PE X (.Constant (.bool b) j pos) (tC (.bl b)) := fun _ _ _ H _ I h => Constant_bool ⟨.bl b, H, I, rfl, h⟩
theorem pe_non {j pos} : PE X (.Constant .none j pos) (tC .non) := fun _ _ _ H _ I h => Constant_none ⟨.non, H, I, rfl, h⟩
theorem pe_str {x j pos} : PE X (.Constant (.str x) j pos) (tC (.str x)) := fun _ _ _ H _ I h => Calls.Constant_str ⟨.str x, H, I.tok _, ⟨_, rfl⟩, h⟩
def Gl (X : Cx) (x : Str) : Prop := X.env.kindOf x = some .globalImplicit
theorem ld_glob {E : Value → Shared → Prop} {pins : List (Addr × Obj)} {s : Shared} {σ : St} {H : Hp} {x : Str} {u : Value} {pos : Pos} {Q : Value → Shared → Prop} (I : Inv X pins σ H s) (hg : Gl X x) (hm : X.mg x = some u) (h : Q u s)
    (hd : (x == ("__debug__" : Str)) = false := by decide) : wpAny (model X.prog X.w) X.A (eval (.Name x pos) X.env) Q E s :=
  Calls.Name_function_global I.ok.kind hg (Calls.loadGlobal_global (by rw [I.ok.glob]; exact I.mod.glob.keeps I.bk) hm h) hd
theorem ld_blt {E : Value → Shared → Prop} {pins : List (Addr × Obj)} {s : Shared} {σ : St} {H : Hp} {x : Str} {u : Value} {pos : Pos} {Q : Value → Shared → Prop} (I : Inv X pins σ H s) (hg : Gl X x) (hm : X.mg x = none) (hv : bootBuiltins x = some u) (h : Q u s)
    (hn : x ≠ "__name__" := by decide) (hd : (x == ("__debug__" : Str)) = false := by decide) : wpAny (model X.prog X.w) X.A (eval (.Name x pos) X.env) Q E s := by
  obtain ⟨mb, h1, h2⟩ := I.mod.blt
  exact Calls.Name_function_global I.ok.kind hg (Calls.loadGlobal_builtin (by rw [I.ok.glob]; exact I.mod.glob.keeps I.bk) hm (by rw [I.ok.blt]; exact h1.keeps I.bk) ((h2 x hn).trans hv) h) hd
theorem pe_glob {x : Str} {v : V} {u : Value} {pos : Pos} (hg : Gl X x) (hm : X.mg x = some u) (r : RelV v u) (hd : (x == ("__debug__" : Str)) = false := by decide) : PE X (.Name x pos) (tC v) :=
  fun _ _ _ H _ I h => ld_glob I hg hm ⟨v, H, I, r, h⟩ hd
theorem pe_bltn {x : Str} {v : V} {u : Value} {pos : Pos} (hg : Gl X x) (hm : X.mg x = none) (hv : bootBuiltins x = some u) (r : RelV v u) (hn : x ≠ "__name__" := by decide) (hd : (x == ("__debug__" : Str)) = false := by decide) : PE X (.Name x pos) (tC v) :=
  fun _ _ _ H _ I h => ld_blt I hg hm hv ⟨v, H, I, r, h⟩ hn hd
def t2I (ta tb : TE) (k : Int → Int → Hp → Prop) : St → Hp → Prop := fun σ H => ta σ H fun x H1 => tb σ H1 fun y H2 => ∃ i j, x = .int i ∧ y = .int j ∧ k i j H2
def tAdd (ta tb : TE) : TE := fun σ H Q => t2I ta tb (fun i j H2 => Q (.int (i + j)) H2) σ H
def tSub (ta tb : TE) : TE := fun σ H Q => t2I ta tb (fun i j H2 => Q (.int (i - j)) H2) σ H
def tMul (ta tb : TE) : TE := fun σ H Q => t2I ta tb (fun i j H2 => (-(2 ^ 64) < i ∧ i < 2 ^ 64) ∧ Q (.int (i * j)) H2) σ H
variable {a b : Expr} {ta tb : TE} {pos : Pos}
def PC (X : Cx) (op : CmpOp) (a b : Expr) (t : TE) : Prop :=
  ∀ (pins : List (Addr × Obj)) (s : Shared) (σ : St) (H : Hp) (Q : VK), Inv X pins σ H s → t σ H Q →
    wpAny (model X.prog X.w) X.A (eval a X.env) (fun v s₁ => wpAny (model X.prog X.w) X.A (eval b X.env) (fun u s₂ => wpAny (model X.prog X.w) X.A (compareOp op v u) (EP X pins σ Q) X.xe s₂) X.xe s₁) X.xe s
theorem nobehind (b : Expr) {op : CmpOp} (h : op ≠ .In) (h2 : op ≠ .NotIn) : behindInMarks op b = false := by
  have e1 : (op == CmpOp.In) = false := by cases op <;> first | rfl | exact absurd rfl h
  have e2 : (op == CmpOp.NotIn) = false := by cases op <;> first | rfl | exact absurd rfl h2
  cases b <;> simp [behindInMarks, e1, e2]
def tCmp (p : Int → Int → Bool) (ta tb : TE) : TE := fun σ H Q => t2I ta tb (fun i j H2 => Q (.bl (p i j)) H2) σ H
def tIsN (ta : TE) : TE := fun σ H Q => ta σ H fun x H1 => Q (.bl (decide (x = .non))) H1
def tNotN (ta : TE) : TE := fun σ H Q => ta σ H fun x H1 => Q (.bl (!decide (x = .non))) H1
def tB (t : TE) : TT := fun σ H Q => t σ H fun x H1 => ∃ c, x = .bl c ∧ Q c H1
theorem pt_cmp {op : CmpOp} {t : TE} (h : PC X op a b t) (h1 : behindInMarks op b = false := by first | exact nobehind _ (by decide) (by decide) | rfl) : PT X (.Compare a [op] [b] pos) (tB t) := by
  intro pins s σ H Q I hw
  refine wpAny_isTrue_Compare1 (thn (h pins s σ H _ I hw) fun v s1 h1 => thn h1 fun u s2 h2 => thn h2 fun c s3 ⟨x, H1, I1, r1, q1⟩ => ?_) h1
  obtain ⟨d, rfl, q⟩ := q1
  cases r1
  exact wpAny_truthy_bool ⟨H1, I1, q⟩
theorem pt_val {e : Expr} {t : TE} (h : PE X e t) (he : ∀ whole, isTrue e X.env whole = (do let v ← whole; standAt e.pos; holding [v] (truthy v)) := by intro _; rfl) : PT X e (tB t) := by
  intro pins s σ H Q I hw
  refine isTrue_plain (thn (h pins s σ H _ I hw) fun v s1 ⟨x, H1, I1, r1, q1⟩ => ?_) (he _)
  obtain ⟨d, rfl, q⟩ := q1
  cases r1
  exact wpAny_truthy_bool ⟨H1, I1, q⟩
variable {tA tB' : TT} {rest : List Expr}
def tAnd (t u : TT) : TT := fun σ H Q => t σ H fun c H1 => if c = true then u σ H1 Q else Q false H1
def tOr (t u : TT) : TT := fun σ H Q => t σ H fun c H1 => if c = true then Q true H1 else u σ H1 Q
def tNot (t : TT) : TT := fun σ H Q => t σ H fun c H1 => Q (!c) H1
theorem pw_and1 (ha : PT X a tA) : PW X (.BoolOp .And [a] pos) tA := by
  intro wh pins s σ H Q I h
  refine isTrue_and (thn (ha pins s σ H Q I h) fun c s1 e => ?_)
  cases c with
  | true => exact isTrue_and_nil e
  | false => exact e
theorem pw_or1 (ha : PT X a tA) : PW X (.BoolOp .Or [a] pos) tA := by
  intro wh pins s σ H Q I h
  refine isTrue_or (thn (ha pins s σ H Q I h) fun c s1 e => ?_)
  cases c with
  | false => exact isTrue_or_nil e
  | true => exact e
theorem pw_and (ha : PT X a tA) (hb : PW X (.BoolOp .And (b :: rest) pos) tB') : PW X (.BoolOp .And (a :: b :: rest) pos) (tAnd tA tB') := by
  intro wh pins s σ H Q I h
  refine isTrue_and (thn (ha pins s σ H _ I h) fun c s1 ⟨H1, I1, q1⟩ => ?_)
  cases c with
  | true => exact hb wh pins s1 σ H1 Q I1 q1
  | false => exact ⟨H1, I1, q1⟩
theorem pw_or (ha : PT X a tA) (hb : PW X (.BoolOp .Or (b :: rest) pos) tB') : PW X (.BoolOp .Or (a :: b :: rest) pos) (tOr tA tB') := by
  intro wh pins s σ H Q I h
  refine isTrue_or (thn (ha pins s σ H _ I h) fun c s1 ⟨H1, I1, q1⟩ => ?_)
  cases c with
  | true => exact ⟨H1, I1, q1⟩
  | false => exact hb wh pins s1 σ H1 Q I1 q1
theorem pt_not (ha : PT X a tA) : PT X (.UnaryOp .Not a pos) (tNot tA) := by
  intro pins s σ H Q I h
  exact isTrue_not (ha pins s σ H (fun c H1 => Q (!c) H1) I h)
def tAndV (ta tb : TE) : TE := fun σ H Q => ta σ H fun x H1 => ∃ c, x = .bl c ∧ if c = true then tb σ H1 Q else Q (.bl false) H1
def tOrV (ta tb : TE) : TE := fun σ H Q => ta σ H fun x H1 => ∃ c, x = .bl c ∧ if c = true then Q (.bl true) H1 else tb σ H1 Q
def tNotV (ta : TE) : TE := fun σ H Q => ta σ H fun x H1 => ∃ c, x = .bl c ∧ Q (.bl (!c)) H1
theorem pe_one {op} {t : TE} (h : PE X a t) : PE X (.BoolOp op [a] pos) t := fun pins s σ H Q I hw => BoolOp_one (h pins s σ H Q I hw)
theorem pe_and (ha : PE X a ta) (hb : PE X (.BoolOp .And (b :: rest) pos) tb) : PE X (.BoolOp .And (a :: b :: rest) pos) (tAndV ta tb) := by
  intro pins s σ H Q I h
  refine BoolOp_and (thn (ha pins s σ H _ I h) fun v s1 ⟨x, H1, I1, r1, q1⟩ => ?_)
  obtain ⟨c, rfl, q1⟩ := q1
  cases r1
  refine wpAny_truthy_bool ?_
  cases c with
  | true => exact hb pins s1 σ H1 Q I1 q1
  | false => exact ⟨.bl false, H1, I1, rfl, q1⟩
theorem pe_or (ha : PE X a ta) (hb : PE X (.BoolOp .Or (b :: rest) pos) tb) : PE X (.BoolOp .Or (a :: b :: rest) pos) (tOrV ta tb) := by
  intro pins s σ H Q I h
  refine BoolOp_or (thn (ha pins s σ H _ I h) fun v s1 ⟨x, H1, I1, r1, q1⟩ => ?_)
  obtain ⟨c, rfl, q1⟩ := q1
  cases r1
  refine wpAny_truthy_bool ?_
  cases c with
  | false => exact hb pins s1 σ H1 Q I1 q1
  | true => exact ⟨.bl true, H1, I1, rfl, q1⟩
def tIf (t : TT) (ta tb : TE) : TE := fun σ H Q => t σ H fun c H1 => if c = true then ta σ H1 Q else tb σ H1 Q
theorem pe_ifExp {c : Expr} (hc : PT X c tA) (ha : PE X a ta) (hb : PE X b tb) : PE X (.IfExp c a b pos) (tIf tA ta tb) := by
  intro pins s σ H Q I h
  refine wpAny_IfExp (thn (hc pins s σ H _ I h) fun d s1 ⟨H1, I1, q1⟩ => ?_)
  cases d with
  | true => exact ha pins s1 σ H1 Q I1 q1
  | false => exact hb pins s1 σ H1 Q I1 q1
end
end L2
namespace L2
open PySem PySem.Spec PyProof.Rows
def SqL (K : PySem.W.Frag) (H : Hp) (a : Addr) (xs : List V) : Prop :=
  Rd H a (.lst xs) ∨
    ∃ (o : Obj) (its : Array Value) (n : Nat), K.lookup a = some o ∧ o.cls = .type "list" ∧ o.dict = none ∧ o.data = .seq its n ∧ its.size ≤ sizeLine ∧ Vals xs its.toList
def SqT (K : PySem.W.Frag) (H : Hp) (a : Addr) (xs : List V) : Prop :=
  Rd H a (.tup xs) ∨
    ∃ (o : Obj) (its : Array Value) (n : Nat), K.lookup a = some o ∧ o.cls = .type "tuple" ∧ o.data = .seq its n ∧ its.size ≤ sizeLine ∧ Vals xs its.toList
def absV : Value → Option V
  | .none => some .non
  | .bool b => some (.bl b)
  | .int i _ => some (.int i)
  | .str x _ => some (.str x)
  | .bytes b _ => some (.byt b)
  | .float b _ => some (.flt b)
  | .ref a => some (.ref a)
  | .type n => some (.ty n)
  | _ => none
theorem RelV.abs {x : V} {u : Value} (r : RelV x u) : absV u = some x := by
  cases x with
  | non => cases r; rfl
  | bl _ => cases r; rfl
  | int _ => obtain ⟨t, rfl⟩ := r; rfl
  | str _ => obtain ⟨t, rfl⟩ := r; rfl
  | byt _ => obtain ⟨t, rfl⟩ := r; rfl
  | flt _ => obtain ⟨t, rfl⟩ := r; rfl
  | ref _ => cases r; rfl
  | ty _ => cases r; rfl
theorem RelV.inj {x y : V} {u : Value} (r : RelV x u) (q : RelV y u) : x = y := Option.some.inj (r.abs.symm.trans q.abs)
theorem Vals.inj : ∀ {xs ys : List V} {us : List Value}, Vals xs us → Vals ys us → xs = ys
  | _, _, _, .nil, .nil => rfl
  | _, _, _, .cons r t, .cons r' t' => by rw [r.inj r', Vals.inj t t']
section
variable {X : Cx} {pins : List (Addr × Obj)} {σ : St} {H : Hp} {s : Shared} {a : Addr} {xs ys : List V}
theorem SqL.of {K : PySem.W.Frag} (h : H a = some (.lst xs)) : SqL K H a xs := .inl (.inl h)
theorem SqT.of {K : PySem.W.Frag} (h : H a = some (.tup xs)) : SqT K H a xs := .inl (.inl h)
theorem Inv.list (I : Inv X pins σ H s) (h : SqL X.K H a xs) : ∃ its : List Value, Vals xs its ∧ PlainL s.heap a its.toArray ∧ xs.length ≤ sizeLine := by
  rcases h with h | ⟨o, its, n, hk, hc, hd, hs, hz, r⟩
  · obtain ⟨z, its, n, r, e⟩ := h.ok I.hok
    exact ⟨its, r, ⟨_, n, e, rfl, rfl, rfl⟩, z⟩
  · refine ⟨its.toList, r, ⟨o, n, I.kIn a o hk, hc, hd, by simpa using hs⟩, ?_⟩
    have e := r.length
    simp only [Array.length_toList] at e
    omega
theorem Inv.tuple (I : Inv X pins σ H s) (h : SqT X.K H a xs) : ∃ its : List Value, Vals xs its ∧ IsTup s.heap a its.toArray ∧ xs.length ≤ sizeLine := by
  rcases h with h | ⟨o, its, n, hk, hc, hs, hz, r⟩
  · obtain ⟨z, its, r, p⟩ := h.ok I.hok
    exact ⟨its, r, p, z⟩
  · refine ⟨its.toList, r, ⟨o, I.kIn a o hk, hc, n, by simpa using hs⟩, ?_⟩
    have e := r.length
    simp only [Array.length_toList] at e
    omega
theorem Inv.list_inj (I : Inv X pins σ H s) (h : SqL X.K H a xs) (h' : SqL X.K H a ys) : xs = ys := by
  obtain ⟨its, r, ⟨o, n, e, _, _, d⟩, _⟩ := I.list h
  obtain ⟨its', r', ⟨o', n', e', _, _, d'⟩, _⟩ := I.list h'
  rw [e] at e'; cases e'
  rw [d] at d'
  injection d' with d1 _
  have : its = its' := by simpa using congrArg Array.toList d1
  subst this
  exact r.inj r'
theorem Inv.tuple_inj (I : Inv X pins σ H s) (h : SqT X.K H a xs) (h' : SqT X.K H a ys) : xs = ys := by
  obtain ⟨its, r, ⟨o, e, _, n, d⟩, _⟩ := I.tuple h
  obtain ⟨its', r', ⟨o', e', _, n', d'⟩, _⟩ := I.tuple h'
  rw [e] at e'; cases e'
  rw [d] at d'
  injection d' with d1 _
  have : its = its' := by simpa using congrArg Array.toList d1
  subst this
  exact r.inj r'
end
abbrev Cx.wish (X : Cx) (E : Value → Shared → Prop) : Cx := { X with xe := E }
abbrev Cx.nox (X : Cx) : Cx := X.wish fun _ _ => False
theorem Cx.Ok.wish {X : Cx} (ok : X.Ok) (E : Value → Shared → Prop) : (X.wish E).Ok :=
  ⟨ok.mod, ok.kind, ok.glob, ok.blt, ok.above, ok.inj, ok.has, ok.cab, ok.hd, ok.frames, ok.stk, ok.exf, ok.bs, ok.bsz, ok.noex, ok.exfs, ok.funs, ok.frf⟩
theorem Cx.Ok.unwish {X : Cx} {E : Value → Shared → Prop} (ok : (X.wish E).Ok) : X.Ok :=
  ⟨ok.mod, ok.kind, ok.glob, ok.blt, ok.above, ok.inj, ok.has, ok.cab, ok.hd, ok.frames, ok.stk, ok.exf, ok.bs, ok.bsz, ok.noex, ok.exfs, ok.funs, ok.frf⟩
section
variable {X : Cx} {pins : List (Addr × Obj)} {σ : St} {H : Hp} {s : Shared} {E : Value → Shared → Prop}
theorem Inv.wish (I : Inv X pins σ H s) (E : Value → Shared → Prop) : Inv (X.wish E) pins σ H s := ⟨I.ok.wish E, I.os, I.bare, I.base, I.loc, I.cell, I.free, I.freeC, I.pin, I.hok, I.len⟩
theorem Inv.unwish (I : Inv (X.wish E) pins σ H s) : Inv X pins σ H s := ⟨I.ok.unwish, I.os, I.bare, I.base, I.loc, I.cell, I.free, I.freeC, I.pin, I.hok, I.len⟩
theorem SP.unwish {D : Ends} {f : Flow} {s' : Shared} (h : SP (X.wish E) pins D f s') : SP X pins D f s' := by
  cases f with
  | next => obtain ⟨σ', H', I, q⟩ := h; exact ⟨σ', H', I.unwish, q⟩
  | brk => obtain ⟨σ', H', I, q⟩ := h; exact ⟨σ', H', I.unwish, q⟩
  | cont => obtain ⟨σ', H', I, q⟩ := h; exact ⟨σ', H', I.unwish, q⟩
  | ret u => obtain ⟨v, σ', H', I, r, q⟩ := h; exact ⟨v, σ', H', I.unwish, r, q⟩
theorem PE.nox {e : Expr} {t : TE} (h : PE X.nox e t) : PE X e t := fun pins s σ H Q I hw =>
  wpAny_mono (h pins s σ H Q (I.wish _) hw) (fun _ _ ⟨v, H', I', r, q⟩ => ⟨v, H', I'.unwish, r, q⟩) fun _ _ z => False.elim z
theorem PT.nox {e : Expr} {t : TT} (h : PT X.nox e t) : PT X e t := fun pins s σ H Q I hw =>
  wpAny_mono (h pins s σ H Q (I.wish _) hw) (fun _ _ ⟨H', I', q⟩ => ⟨H', I'.unwish, q⟩) fun _ _ z => False.elim z
theorem PSs.nox {st : List Stmt} {t : TS} (h : PSs X.nox st t) : PSs X st t := fun pins s σ H D I hw =>
  wpAny_mono (h pins s σ H D (I.wish _) hw) (fun _ _ q => q.unwish) fun _ _ z => False.elim z
end
section
variable {X : Cx} {st : Stmt} {rest : List Stmt} {t u : TS} {e : Expr} {te : TE} {pos : Pos}
def tNext : TS := fun D σ H => D.nx σ H
def tSeq (t u : TS) : TS := fun D σ H => t { D with nx := u D } σ H
theorem pss_nil : PSs X [] tNext := fun _ _ σ H _ I h => wpAny_execs_nil ⟨σ, H, I, h⟩
theorem pss_cons (h1 : PS X st t) (h2 : PSs X rest u) : PSs X (st :: rest) (tSeq t u) := by
  intro pins s σ H D I h
  refine wpAny_execs_cons (thn (h1 pins s σ H { D with nx := u D } I h) fun f s1 q => ?_)
  cases f with
  | next =>
    obtain ⟨σ', H', I', q⟩ := q
    exact h2 pins s1 σ' H' D I' q
  | ret v => exact q
  | brk => exact q
  | cont => exact q
theorem pss_one (h1 : PS X st t) : PSs X [st] t := by
  intro pins s σ H D I h
  refine wpAny_execs_cons (thn (h1 pins s σ H D I h) fun f s1 q => ?_)
  cases f with
  | next => exact wpAny_execs_nil q
  | ret v => exact q
  | brk => exact q
  | cont => exact q
def tBreak : TS := fun D σ H => D.bk σ H
def tCont : TS := fun D σ H => D.ct σ H
theorem Inv.quiet {pins : List (Addr × Obj)} {σ : St} {H : Hp} {s : Shared} (I : Inv X pins σ H s) : interactive X.env = false := by simp [interactive, I.ok.kind]
def tDrop (te : TE) : TS := fun D σ H => te σ H fun _ H1 => D.nx σ H1
theorem ps_expr (he : PE X e te) (hs : swapsWith e none pos.line X.env = pure false := by rfl) : PS X (.Expr e pos) (tDrop te) := by
  intro pins s σ H D I h
  exact wpAny_Expr_any (thn (he pins s σ H _ I h) fun v s1 ⟨x, H1, I1, r1, q1⟩ => ⟨σ, H1, I1, q1⟩) I.quiet hs
def tRet (te : TE) : TS := fun D σ H => te σ H D.rt
theorem ps_ret (he : PE X e te) : PS X (.Return (some e) pos) (tRet te) := by
  intro pins s σ H D I h
  exact wpAny_Return_some (thn (he pins s σ H _ I h) fun v s1 ⟨x, H1, I1, r1, q1⟩ => ⟨x, σ, H1, I1, r1, q1⟩)
def tRetN : TS := fun D _ H => D.rt .non H
def tIfS (c : TT) (t u : TS) : TS := fun D σ H => c σ H fun b H1 => if b = true then t D σ H1 else u D σ H1
theorem ps_if {c : Expr} {a b : List Stmt} {tc : TT} (hc : PT X c tc) (ha : PSs X a t) (hb : PSs X b u) : PS X (.If c a b pos) (tIfS tc t u) := by
  intro pins s σ H D I h
  refine wpAny_If (thn (hc pins s σ H _ I h) fun d s1 ⟨H1, I1, q1⟩ => ?_)
  cases d with
  | true => exact ha pins s1 σ H1 D I1 q1
  | false => exact hb pins s1 σ H1 D I1 q1
def tNever : TS := fun _ _ _ => False
theorem ps_never : PS X st tNever := fun _ _ _ _ _ _ h => h.elim
end
abbrev TG := V → St → Hp → (St → Hp → Prop) → Prop
abbrev TGs := List V → St → Hp → (St → Hp → Prop) → Prop
def PG (X : Cx) (target : Expr) (t : TG) : Prop :=
  ∀ (pins : List (Addr × Obj)) (s : Shared) (σ : St) (H : Hp) (v : V) (u : Value) (Q : St → Hp → Prop), Inv X pins σ H s → RelV v u → t v σ H Q →
    wpAny (model X.prog X.w) X.A (assign target X.env u) (fun _ s' => ∃ σ' H', Inv X pins σ' H' s' ∧ Q σ' H') X.xe s
def PGs (X : Cx) (ts : List Expr) (t : TGs) : Prop :=
  ∀ (pins : List (Addr × Obj)) (s : Shared) (σ : St) (H : Hp) (vs : List V) (us : List Value) (Q : St → Hp → Prop), Inv X pins σ H s → Vals vs us → t vs σ H Q →
    wpAny (model X.prog X.w) X.A (assignInOrder ((assignEach ts X.env).map (·.2)) us) (fun _ s' => ∃ σ' H', Inv X pins σ' H' s' ∧ Q σ' H') X.xe s
abbrev TSet := V → V → V → Hp → (Hp → Prop) → Prop
def PSet (X : Cx) (t : TSet) : Prop :=
  ∀ (pins : List (Addr × Obj)) (s : Shared) (σ : St) (H : Hp) (o i v : V) (ov iv u : Value) (Q : Hp → Prop), Inv X pins σ H s → RelV o ov → RelV i iv → RelV v u → t o i v H Q →
    wpAny (model X.prog X.w) X.A (setItem ov iv u) (fun _ s' => ∃ H', Inv X pins σ H' s' ∧ Q H') X.xe s
abbrev TIp := V → V → Hp → VK → Prop
section
variable {X : Cx} {pos : Pos}
def gName (i : Nat) : TG := fun v σ H Q => Q (σ.set i (some v)) H
theorem pg_name {i : Nat} {x : Str} (hN : X.N.Nodup) (hi : X.N[i]? = some x) (hx : Loc X.env.scope x) (hf : X.fn x = true ∨ X.env.scope.names.lookup x = some .local := by first | exact .inl rfl | exact .inr rfl | assumption) : PG X (.Name x pos) (gName i) := by
  intro pins s σ H v u Q I r h
  exact wpAny_assign_Name (store_ok I hN hi hx r (fun s' I' => ⟨_, H, I', h⟩) hf)
def gNil : TGs := fun vs σ H Q => vs = [] ∧ Q σ H
def gCons (t : TG) (u : TGs) : TGs := fun vs σ H Q => ∃ v r, vs = v :: r ∧ t v σ H fun σ' H' => u r σ' H' Q
theorem pgs_nil : PGs X [] gNil := by
  intro pins s σ H vs us Q I r h
  obtain ⟨e, h⟩ := h
  subst e
  cases r
  exact assignInOrder_nil ⟨σ, H, I, h⟩
theorem pgs_cons {e : Expr} {es : List Expr} {t : TG} {u : TGs} (h1 : PG X e t) (h2 : PGs X es u)
    (hs : (assignEach (e :: es) X.env).map (·.2) = assign e X.env :: (assignEach es X.env).map (·.2) := by rfl) : PGs X (e :: es) (gCons t u) := by
  intro pins s σ H vs us Q I r h
  obtain ⟨v, vr, e1, h⟩ := h
  subst e1
  cases r with
  | cons r rr =>
    rw [hs]
    refine assignInOrder_cons (thn (h1 pins s σ H _ _ _ I r h) fun _ s1 ⟨σ1, H1, I1, q1⟩ => ?_)
    exact h2 pins s1 σ1 H1 _ _ Q I1 rr q1
def gTup (K : PySem.W.Frag) (n : Nat) (t : TGs) : TG := fun v σ H Q => ∃ a xs, v = .ref a ∧ SqT K H a xs ∧ xs.length = n ∧ t xs σ H Q
theorem pg_tup {es : List Expr} {k : Nat} {t : TGs} {n : Nat} (hc : X.calm = true) (h : PGs X es t)
    (hn : (assignEach es X.env).length = n := by rfl) (hst : (assignEach es X.env).findIdx? (·.1) = none := by rfl) : PG X (.Tuple es k pos) (gTup X.K n t) := by
  intro pins s σ H v u Q I r hw
  obtain ⟨a, xs, e1, hq, hl, hw⟩ := hw
  subst e1
  cases r
  obtain ⟨its, rv, ht, hz⟩ := I.tuple hq
  refine assign_Tuple_tuple (I.ok.hd hc) ht (by simp [hn, ← hl, rv.length]) hst fun h' hx => ?_
  have I1 : Inv X pins σ H { s with heap := h' } := I.kept (t' := s.toks) fun b o e => hx b o (Nat.ne_of_lt (Heap.lt_size e)) e
  exact h pins _ σ H xs _ Q I1 (by simpa using rv) hw
def gSub (to ti : TE) (t : TSet) : TG := fun v σ H Q => to σ H fun o H1 => ti σ H1 fun i H2 => t o i v H2 fun H3 => Q σ H3
theorem pg_sub {o i : Expr} {to ti : TE} {t : TSet} (ho : PE X o to) (hi : PE X i ti) (hs : PSet X t)
    (ha : ∀ v, assign (.Subscript o i pos) X.env v = (do
      let ov ← holding [v] (eval o X.env)
      let iv ← holding [v, ov] (eval i X.env)
      standAt pos
      holding [v, ov, iv] (setItem ov iv v)
      release [v, ov, iv] []) := by intro _; rfl) : PG X (.Subscript o i pos) (gSub to ti t) := by
  intro pins s σ H v u Q I r h
  rw [ha]
  refine wpAny_bind (wpAny_holding (thn (ho pins s σ H _ I h) fun ov s1 ⟨x, H1, I1, r1, q1⟩ => ?_))
  refine wpAny_bind (wpAny_holding (thn (hi pins s1 σ H1 _ I1 q1) fun iv s2 ⟨y, H2, I2, r2, q2⟩ => ?_))
  refine wpAny_bind (wpAny_standAt (wpAny_bind (wpAny_holding (thn (hs pins s2 σ H2 x y v ov iv u _ I2 r1 r2 r q2) fun _ s3 ⟨H3, I3, q3⟩ => ?_))))
  exact wpAny_release ⟨σ, H3, I3, q3⟩
def tAsg (te : TE) (g : TG) : TS := fun D σ H => te σ H fun x H1 => g x σ H1 D.nx
theorem ps_asg {tg e : Expr} {te : TE} {g : TG} (he : PE X e te) (hg : PG X tg g) (hs : swapsWithSole [tg] e pos.line X.env = pure false := by rfl) (hw : swappedStores [tg] e X.env = pure none := by rfl)
    (h1 : (assignEach [tg] X.env).map (·.2) = [assign tg X.env] := by rfl) : PS X (.Assign [tg] e pos) (tAsg te g) := by
  intro pins s σ H D I h
  refine wpAny_Assign_stores (thn (he pins s σ H _ I h) fun v s1 ⟨x, H1, I1, r1, q1⟩ => ?_) hs hw
  rw [h1]
  exact thn (hg pins s1 σ H1 x v _ I1 r1 q1) fun _ s2 q => q
theorem ps_set {i : Nat} {x : Str} {e : Expr} {te : TE} {pos' : Pos} (hN : X.N.Nodup) (hi : X.N[i]? = some x) (hx : Loc X.env.scope x) (he : PE X e te) (hs : swapsWith e (some (.Name x pos')) pos.line X.env = pure false := by rfl) (hf : X.fn x = true ∨ X.env.scope.names.lookup x = some .local := by first | exact .inl rfl | exact .inr rfl | assumption) :
    PS X (.Assign [.Name x pos'] e pos) (tAsg te (gName i)) := by
  intro pins s σ H D I h
  refine wpAny_Assign_Name (thn (he pins s σ H _ I h) fun v s1 ⟨y, H1, I1, r1, q1⟩ => ?_) hs
  exact store_ok I1 hN hi hx r1 (fun s2 I2 => ⟨_, H1, I2, q1⟩) hf
def tPar (i j : Nat) (ta : TA) : TS := fun D σ H => ta σ H fun vs H1 => ∃ v w, vs = [v, w] ∧ D.nx ((σ.set i (some v)).set j (some w)) H1
def tAug (i : Nat) (te : TE) (ti : TIp) : TS := fun D σ H => ∃ x, σ[i]? = some (some x) ∧ te σ H fun y H1 => ti x y H1 fun z H2 => D.nx (σ.set i (some z)) H2
def tAugS (to ti te : TE) (tget : V → V → Hp → VK → Prop) (tip : TIp) (tset : TSet) : TS := fun D σ H => to σ H fun o H1 => ti σ H1 fun i H2 => tget o i H2 fun x H3 => te σ H3 fun y H4 => tip x y H4 fun z H5 => tset o i z H5 fun H6 => D.nx σ H6
end
section
variable {X : Cx} {pos : Pos}
end
structure It where
  go : Nat → Hp → Prop
  yld : Nat → Hp → V → Hp → Prop
  stop : Nat → Hp → Prop
def FpOk (X : Cx) (pins : List (Addr × Obj)) (H : Hp) (b : Addr) : Prop :=
  H b = none ∧ b ≠ X.env.locals ∧ b ∉ X.fs ∧ (b ∈ X.ex ∨ X.s₀.heap.objs.size ≤ b) ∧ (∀ x c, X.env.cells.lookup x = some c → c ≠ b) ∧ ∀ p ∈ X.pn ++ pins, p.1 ≠ b
theorem Inv.fpOk {X : Cx} {pins : List (Addr × Obj)} {σ : St} {H H' : Hp} {s : Shared} {b : Addr} (I : Inv X pins σ H s) (hb : s.heap.objs.size ≤ b) (hn : H' b = none) : FpOk X pins H' b := by
  refine ⟨hn, Nat.ne_of_gt (Nat.lt_of_lt_of_le I.lt hb), I.nofs hb, .inr (Nat.le_trans I.sz hb), fun x c e z => ?_, fun p hp z => ?_⟩
  · obtain ⟨v, q⟩ := I.cell x c e
    exact absurd (Nat.lt_of_lt_of_le q.lt (by rw [z]; exact hb)) (Nat.lt_irrefl _)
  · exact absurd (Nat.lt_of_lt_of_le (Heap.lt_size (I.pin p hp).1) (by rw [z]; exact hb)) (Nat.lt_irrefl _)
structure Turn (P : Program) (w : World) (K : PySem.W.Frag) (tg : Expr) (J : It) (fp : List Addr) (it : Addr) (tn : Nat → Heap → Prop) : Prop where
  mem : it ∈ fp
  obj : ∀ i h, tn i h → ∀ b ∈ fp, ∃ o, h.get? b = some o ∧ ∀ v, o.data ≠ .cell v
  keep : ∀ i h h', tn i h → (∀ b ∈ fp, ∀ o, h.get? b = some o → h'.get? b = some o) → tn i h'
  item : ∀ (X : Cx), X.prog = P → X.w = w → X.K = K → X.calm = true → ∀ (i : Nat) (pins : List (Addr × Obj)) (s : Shared) (σ : St) (H : Hp) (E : Value → Shared → Prop), Inv X pins σ H s → (∀ b ∈ fp, FpOk X pins H b) → tn i s.heap → J.go i H →
    wpAny (model P w) X.A (pyNext (.ref it)) (fun r s1 => ∃ u, r = some u ∧
      wpAny (model P w) X.A (letOwnedTupleGo tg (.ref it) u) (fun _ s2 => ∃ x H', Inv X pins σ H' s2 ∧ RelV x u ∧ J.yld i H x H' ∧ tn (i + 1) s2.heap ∧ ∀ b ∈ fp, H' b = none) E s1) E s
  done : ∀ (X : Cx), X.prog = P → X.w = w → X.K = K → X.calm = true → ∀ (i : Nat) (pins : List (Addr × Obj)) (s : Shared) (σ : St) (H : Hp) (E : Value → Shared → Prop), Inv X pins σ H s → (∀ b ∈ fp, FpOk X pins H b) → tn i s.heap → J.stop i H →
    wpAny (model P w) X.A (pyNext (.ref it)) (fun r s1 => r = none ∧ Inv X pins σ H s1) E s
  self : ∀ (A : Around) (i : Nat) (s : Shared) (Q : Value → Shared → Prop) (E : Value → Shared → Prop), tn i s.heap → Q (.ref it) s → wpAny (model P w) A (pyIter (.ref it)) Q E s
abbrev TI := St → Hp → (It → Hp → Prop) → Prop
def PIE (X : Cx) (pins : List (Addr × Obj)) (σ : St) (tg : Expr) (R : It → Hp → Prop) (itv : Value) (s2 : Shared) : Prop :=
  ∃ (it : Addr) (fp : List Addr) (tn : Nat → Heap → Prop) (J : It) (H' : Hp), itv = .ref it ∧ Inv X pins σ H' s2 ∧ Turn X.prog X.w X.K tg J fp it tn ∧ tn 0 s2.heap ∧ (∀ b ∈ fp, FpOk X pins H' b) ∧ R J H'
def PI (X : Cx) (tg iter : Expr) (wi : TI) : Prop :=
  ∀ (pins : List (Addr × Obj)) (s : Shared) (σ : St) (H : Hp) (R : It → Hp → Prop), Inv X pins σ H s → wi σ H R →
    wpAny (model X.prog X.w) X.A (eval iter X.env) (fun v s1 => wpAny (model X.prog X.w) X.A (pyIter v) (PIE X pins σ tg R) X.xe s1) X.xe s
theorem go_of {M : Model} {A : Around} {E : Value → Shared → Prop} {s : Shared} {tg : Expr} {it : Addr} {u : Value} {o : Obj} {n : String} {vs : Array Value} {Q : Unit → Shared → Prop} (ho : s.heap.get? it = some o) (hc : o.cls = .type n) (hd : o.data = .fields vs)
    (hn : ["enumerate", "zip", "dict_itemiterator", "dict_reverseitemiterator", "odict_iterator", "itertools.zip_longest", "itertools.pairwise"].contains n = false) (hQ : Q () s) : wpAny M A (letOwnedTupleGo tg (.ref it) u) Q E s := by
  unfold letOwnedTupleGo
  cases tg <;> first
    | exact wpAny_pure hQ
    | (cases u <;> first
        | exact wpAny_pure hQ
        | (refine wpAny_bind (wpAny_load ho ?_)
           rw [hc, hd]
           show wpAny M A (if (["enumerate", "zip", "dict_itemiterator", "dict_reverseitemiterator", "odict_iterator", "itertools.zip_longest", "itertools.pairwise"].contains n && vs[0]? == some (rawInt _)) = true then _ else _) Q E s
           rw [if_neg (by intro h; rw [hn, Bool.false_and] at h; cases h)]
           exact wpAny_pure hQ))
def Itl (K : PySem.W.Frag) (a : Addr) : It :=
  ⟨fun i H => ∃ xs x, SqL K H a xs ∧ xs[i]? = some x, fun i H x H' => H' = H ∧ ∀ xs, SqL K H a xs → xs[i]? = some x, fun i H => ∃ xs, SqL K H a xs ∧ xs.length ≤ i⟩
def Itt (K : PySem.W.Frag) (a : Addr) : It :=
  ⟨fun i H => ∃ xs x, SqT K H a xs ∧ xs[i]? = some x, fun i H x H' => H' = H ∧ ∀ xs, SqT K H a xs → xs[i]? = some x, fun i H => ∃ xs, SqT K H a xs ∧ xs.length ≤ i⟩
def Itr (lo : Int) (n : Nat) : It := ⟨fun i _ => i < n, fun i H x H' => H' = H ∧ x = .int (lo + i), fun i _ => n ≤ i⟩
theorem turn_list {P : Program} {w : World} {K : PySem.W.Frag} {tg : Expr} (a it : Addr) : Turn P w K tg (Itl K a) [it] it (fun i h => h.IsListIter it a i) where
  mem := by simp
  obj := fun i h st b hb => by
    have e : b = it := by simpa using hb
    subst e
    obtain ⟨o, e, c, d⟩ := st
    exact ⟨o, e, fun v z => by rw [d] at z; cases z⟩
  keep := fun i h h' st k => st.at fun o e => k it (by simp) o e
  item := by
    intro X hP hw hK hc i pins s σ H E I hf st hg
    subst hP hw hK
    obtain ⟨xs, x, hq, hx⟩ := hg
    obtain ⟨its, rv, p, hz⟩ := I.list hq
    obtain ⟨u, hu, ru⟩ := rv.get hx
    obtain ⟨f0, f1, f2, f3, f4, f5⟩ := hf it (by simp)
    refine wpAny_pyNext_list_item st p.isList (x := u) (by simpa using hu) fun h' st' sb => ?_
    have I1 : Inv X pins σ H { s with heap := h' } := I.turned (t' := s.toks) (fun b o hb e => (sb.2 b hb).trans e) f0 f1 f3 f4 f5
    obtain ⟨o, e, c, d⟩ := id st'
    exact ⟨u, rfl, go_of (s := { s with heap := h' }) e c d (by decide) ⟨x, H, I1, ru, ⟨rfl, fun ys hy => by rw [I.list_inj hy hq]; exact hx⟩, st', fun b hb => (hf b hb).1⟩⟩
  done := by
    intro X hP hw hK hc i pins s σ H E I hf st hg
    subst hP hw hK
    obtain ⟨xs, hq, hx⟩ := hg
    obtain ⟨its, rv, p, hz⟩ := I.list hq
    obtain ⟨f0, f1, f2, f3, f4, f5⟩ := hf it (by simp)
    have hl := rv.length
    exact wpAny_pyNext_list_end (I.ok.hd hc) st p.isList (by simp; omega) fun h' eb => ⟨rfl, I.turned (t' := s.toks) (fun b o hb e => eb b o hb e) f0 f1 f3 f4 f5⟩
  self := fun _ _ _ _ _ st h => wpAny_pyIter_listiter st h
theorem turn_tuple {P : Program} {w : World} {K : PySem.W.Frag} {tg : Expr} (a it : Addr) : Turn P w K tg (Itt K a) [it] it (fun i h => h.IsTupleIter it a i) where
  mem := by simp
  obj := fun i h st b hb => by
    have e : b = it := by simpa using hb
    subst e
    obtain ⟨o, e, c, d⟩ := st
    exact ⟨o, e, fun v z => by rw [d] at z; cases z⟩
  keep := fun i h h' st k => st.at fun o e => k it (by simp) o e
  item := by
    intro X hP hw hK hc i pins s σ H E I hf st hg
    subst hP hw hK
    obtain ⟨xs, x, hq, hx⟩ := hg
    obtain ⟨its, rv, p, hz⟩ := I.tuple hq
    obtain ⟨u, hu, ru⟩ := rv.get hx
    obtain ⟨f0, f1, f2, f3, f4, f5⟩ := hf it (by simp)
    refine wpAny_pyNext_tuple_item st (show s.heap.IsTuple a its.toArray from p) (x := u) (by simpa using hu) fun h' st' sb => ?_
    have I1 : Inv X pins σ H { s with heap := h' } := I.turned (t' := s.toks) (fun b o hb e => (sb.2 b hb).trans e) f0 f1 f3 f4 f5
    obtain ⟨o, e, c, d⟩ := id st'
    exact ⟨u, rfl, go_of (s := { s with heap := h' }) e c d (by decide) ⟨x, H, I1, ru, ⟨rfl, fun ys hy => by rw [I.tuple_inj hy hq]; exact hx⟩, st', fun b hb => (hf b hb).1⟩⟩
  done := by
    intro X hP hw hK hc i pins s σ H E I hf st hg
    subst hP hw hK
    obtain ⟨xs, hq, hx⟩ := hg
    obtain ⟨its, rv, p, hz⟩ := I.tuple hq
    obtain ⟨f0, f1, f2, f3, f4, f5⟩ := hf it (by simp)
    have hl := rv.length
    exact wpAny_pyNext_tuple_end (I.ok.hd hc) st (show s.heap.IsTuple a its.toArray from p) (by simp; omega) fun h' eb => ⟨rfl, I.turned (t' := s.toks) (fun b o hb e => eb b o hb e) f0 f1 f3 f4 f5⟩
  self := fun _ _ _ _ _ st h => wpAny_pyIter_tupleiter st h
theorem turn_range {P : Program} {w : World} {K : PySem.W.Frag} {tg : Expr} (it : Addr) (lo : Int) (n : Nat) : Turn P w K tg (Itr lo n) [it] it (fun i h => IsRangeIter h it (lo + (i : Nat) * 1) ((n : Int) - (i : Nat)) 1) where
  mem := by simp
  obj := fun i h st b hb => by
    have e : b = it := by simpa using hb
    subst e
    exact ⟨_, st, fun v z => by
      have z' : Data.fields _ = Data.cell v := z
      cases z'⟩
  keep := fun i h h' st k => k it (by simp) _ st
  item := by
    intro X hP hw hK hc i pins s σ H E I hf st hg
    subst hP hw hK
    obtain ⟨f0, f1, f2, f3, f4, f5⟩ := hf it (by simp)
    have W := Walks.range (prog := X.prog) (w := X.w) (I.ok.hd hc) it lo 1 n
    refine W.item i s _ _ hg st fun v h' tk hv st' kk => ?_
    obtain ⟨t, rfl⟩ := hv
    have I1 : Inv X pins σ H { s with heap := h', toks := tk } := I.turned (fun b o hb e => kk b o (by simpa using hb) e) f0 f1 f3 f4 f5
    refine ⟨_, rfl, go_of (s := { s with heap := h', toks := tk }) (n := "range_iterator") st' rfl rfl (by decide) ⟨.int (lo + i), H, I1, ⟨t, ?_⟩, ⟨rfl, rfl⟩, st', fun b hb => (hf b hb).1⟩⟩
    rw [Int.mul_one]
  done := by
    intro X hP hw hK hc i pins s σ H E I hf st hg
    subst hP hw hK
    obtain ⟨f0, f1, f2, f3, f4, f5⟩ := hf it (by simp)
    exact wpAny_pyNext_range_end (I.ok.hd hc) st (by have : n ≤ i := hg; omega) fun h' eb => ⟨rfl, I.turned (t' := s.toks) (fun b o hb e => eb b o hb e) f0 f1 f3 f4 f5⟩
  self := fun _ _ _ _ _ st h => wpAny_pyIter_rangeiter st h
end L2
namespace L2
open PySem PySem.Spec PyProof.Rows
section
variable {X : Cx} {tg : Expr}
def iList (K : PySem.W.Frag) (tl : TE) : TI := fun σ H R => tl σ H fun x H1 => ∃ a, x = .ref a ∧ (∃ xs, SqL K H1 a xs) ∧ R (Itl K a) H1
def iTup (K : PySem.W.Frag) (tl : TE) : TI := fun σ H R => tl σ H fun x H1 => ∃ a, x = .ref a ∧ (∃ xs, SqT K H1 a xs) ∧ R (Itt K a) H1
theorem pi_list {l : Expr} {tl : TE} (hl : PE X l tl) : PI X tg l (iList X.K tl) := by
  intro pins s σ H R I h
  refine thn (hl pins s σ H _ I h) fun v s1 ⟨x, H1, I1, r1, q1⟩ => ?_
  obtain ⟨a, e, ⟨xs, hq⟩, q⟩ := q1
  subst e
  cases r1
  obtain ⟨its, rv, p, hz⟩ := I1.list hq
  refine wpAny_pyIter_list p.isList ?_
  refine ⟨s1.heap.objs.size, [s1.heap.objs.size], _, _, H1, rfl, I1.kept (t' := s1.toks) fun b o e => Heap.get?_push_of_some _ e, turn_list a _, ⟨_, Heap.get?_push_size _ rfl, rfl, rfl⟩, fun b hb => ?_, q⟩
  have e : b = s1.heap.objs.size := by simpa using hb
  subst e
  exact I1.fpOk (Nat.le_refl _) (I1.hok.fresh (Nat.le_refl _))
theorem pi_tup {l : Expr} {tl : TE} (hl : PE X l tl) : PI X tg l (iTup X.K tl) := by
  intro pins s σ H R I h
  refine thn (hl pins s σ H _ I h) fun v s1 ⟨x, H1, I1, r1, q1⟩ => ?_
  obtain ⟨a, e, ⟨xs, hq⟩, q⟩ := q1
  subst e
  cases r1
  obtain ⟨its, rv, p, hz⟩ := I1.tuple hq
  refine wpAny_pyIter_tuple (show s1.heap.IsTuple a its.toArray from p) ?_
  refine ⟨s1.heap.objs.size, [s1.heap.objs.size], _, _, H1, rfl, I1.kept (t' := s1.toks) fun b o e => Heap.get?_push_of_some _ e, turn_tuple a _, ⟨_, Heap.get?_push_size _ rfl, rfl, rfl⟩, fun b hb => ?_, q⟩
  have e : b = s1.heap.objs.size := by simpa using hb
  subst e
  exact I1.fpOk (Nat.le_refl _) (I1.hok.fresh (Nat.le_refl _))
theorem range_it {pins : List (Addr × Obj)} {σ : St} {H : Hp} {s : Shared} {R : It → Hp → Prop} {E : Value → Shared → Prop} {lo hi : Int} {t u v : Tok} {tk : Nat} (I : Inv X pins σ H s) (h1 : -(2 ^ 62) ≤ lo) (h2 : lo < 2 ^ 62) (h3 : -(2 ^ 62) ≤ hi) (h4 : hi < 2 ^ 62)
    (q : R (Itr lo (hi - lo).toNat) H) : wpAny (model X.prog X.w) X.A (pyIter (.ref s.heap.objs.size)) (PIE X pins σ tg R) E { s with heap := s.heap.push { cls := .type "range", data := .fields #[.int lo t, .int hi u, .int 1 v] }, toks := tk } := by
  refine wpAny_pyIter_range (IsRange.new ..) (small_one h1 h2 h3 h4) ?_
  have I1 : Inv X pins σ H { s with heap := s.heap.push { cls := .type "range", data := .fields #[.int lo t, .int hi u, .int 1 v] }, toks := tk } := I.kept fun b o e => Heap.get?_push_of_some _ e
  refine ⟨(s.heap.push { cls := .type "range", data := .fields #[.int lo t, .int hi u, .int 1 v] }).objs.size, [(s.heap.push { cls := .type "range", data := .fields #[.int lo t, .int hi u, .int 1 v] }).objs.size], _, _, H, rfl,
    I1.kept (t' := tk) fun b o e => Heap.get?_push_of_some _ e, turn_range _ lo (hi - lo).toNat, ?_, fun b hb => ?_, q⟩
  · have e1 : lo + ((0 : Nat) : Int) * 1 = lo := by simp
    have e2 : (((hi - lo).toNat : Nat) : Int) - ((0 : Nat) : Int) = Builtin.Range.rangeSize lo hi 1 := by rw [rangeSize_one]; split <;> omega
    show IsRangeIter _ _ (lo + ((0 : Nat) : Int) * 1) ((((hi - lo).toNat : Nat) : Int) - ((0 : Nat) : Int)) 1
    rw [e1, e2]
    exact Heap.get?_push_size _ rfl
  · have e : b = (s.heap.push { cls := .type "range", data := .fields #[.int lo t, .int hi u, .int 1 v] }).objs.size := by simpa using hb
    subst e
    exact I1.fpOk (Nat.le_refl _) (I1.hok.fresh (Nat.le_refl _))
def iRng1 (ta : TA) : TI := fun σ H R => ta σ H fun vs H1 => ∃ j : Int, vs = [.int j] ∧ -(2 ^ 62) ≤ j ∧ j < 2 ^ 62 ∧ R (Itr 0 j.toNat) H1
def iRng2 (ta : TA) : TI := fun σ H R => ta σ H fun vs H1 => ∃ i j : Int, vs = [.int i, .int j] ∧ (-(2 ^ 62) ≤ i ∧ i < 2 ^ 62 ∧ -(2 ^ 62) ≤ j ∧ j < 2 ^ 62) ∧ R (Itr i (j - i).toNat) H1
theorem pi_range1 {a : Expr} {ta : TA} {p pos : Pos} (hg : Gl X "range") (hm : X.mg "range" = none) (ha : PA X [a] ta) (hs : starEach [a] X.env = [(false, eval a X.env)] := by rfl) : PI X tg (.Call (.Name "range" p) [a] [] pos) (iRng1 ta) := by
  intro pins s σ H R I h
  refine Call_ (ld_blt I hg hm boot_range (PyProof.Rows.callWith_type1 (thn (ha pos pins s σ H _ I h) fun us s1 ⟨vs, H1, I1, r1, q1⟩ => ?_) hs rfl))
  obtain ⟨j, e, q1, q2, q⟩ := q1
  subst e
  cases r1 with
  | cons r rr =>
    cases rr
    obtain ⟨t, rfl⟩ := r
    exact call_range_1 (range_it I1 (by omega) (by omega) q1 q2 (by simpa using q))
def tFor (wi : TI) (g : TG) (tb : TS) : TS := fun D σ H => wi σ H fun J H1 => ∃ W : Nat → Nat → St → Hp → Prop, (∃ m, W 0 m σ H1) ∧ ∀ i m σ H, W i m σ H →
  (J.stop i H ∧ D.nx σ H) ∨ (J.go i H ∧ ∃ N : St → Hp → Prop, (∀ σ' H', N σ' H' → ∃ m', m' < m ∧ W (i + 1) m' σ' H') ∧ ∀ x H', J.yld i H x H' → g x σ H' fun σ2 H2 => tb { D with nx := N, ct := N, bk := D.nx } σ2 H2)
def pinsAt (fp : List Addr) (h : Heap) : List (Addr × Obj) := fp.filterMap fun b => (h.get? b).map fun o => (b, o)
theorem mem_pinsAt {fp : List Addr} {h : Heap} {b : Addr} {o : Obj} (hb : b ∈ fp) (e : h.get? b = some o) : (b, o) ∈ pinsAt fp h := List.mem_filterMap.mpr ⟨b, hb, by rw [e]; rfl⟩
theorem of_pinsAt {fp : List Addr} {h : Heap} {p : Addr × Obj} (hp : p ∈ pinsAt fp h) : p.1 ∈ fp ∧ h.get? p.1 = some p.2 := by
  obtain ⟨b, hb, e⟩ := List.mem_filterMap.mp hp
  cases q : h.get? b with
  | none => rw [q] at e; cases e
  | some o =>
    rw [q] at e
    have e' : (b, o) = p := Option.some.inj e
    subst e'
    exact ⟨hb, q⟩
theorem Inv.pinned {pins : List (Addr × Obj)} {σ : St} {H : Hp} {s : Shared} {fp : List Addr} (I : Inv X pins σ H s) (hf : ∀ b ∈ fp, FpOk X pins H b) (ho : ∀ b ∈ fp, ∃ o, s.heap.get? b = some o ∧ ∀ v, o.data ≠ .cell v) : Inv X (pins ++ pinsAt fp s.heap) σ H s :=
  I.pins_of fun p hp => (List.mem_append.mp hp).elim (fun z => I.pin p (List.mem_append_right _ z)) fun z => by
    obtain ⟨hb, e⟩ := of_pinsAt z
    obtain ⟨f0, f1, f2, _⟩ := hf p.1 hb
    obtain ⟨o, e', d⟩ := ho p.1 hb
    rw [e] at e'; cases e'
    exact ⟨e, f0, f1, f2, d⟩
theorem Inv.unpinned {pins pl : List (Addr × Obj)} {σ : St} {H : Hp} {s : Shared} (I : Inv X (pins ++ pl) σ H s) : Inv X pins σ H s := I.pins_of fun p hp => I.pin p (List.mem_append_right _ (List.mem_append_left _ hp))
theorem ps_for {iter : Expr} {body : List Stmt} {wi : TI} {g : TG} {tb : TS} {pos : Pos} (hp : PassesOwn (model X.prog X.w) X.A X.env X.xe) (hc : X.calm = true) (hi : PI X tg iter wi) (hg : PG X tg g) (hb : PSs X body tb)
    (hs : ∀ x, foldedSetIterable iter X.env x = pure x := by intro _; rfl) : PS X (.For tg iter body [] pos) (tFor wi g tb) := by
  intro pins s σ H D I h
  refine wpAny_For (thn (hi pins s σ H _ I h) fun v s1 h1 => thn h1 fun itv s2 h2 => ?_) hs
  obtain ⟨it, fp, tn, J, H2, e, I2, T, st2, f2, W, ⟨m0, w0⟩, turn⟩ := h2
  subst e
  -- what stays true of the iterator's objects through the loop
  have stat : ∀ {H' : Hp}, (∀ b ∈ fp, H' b = none) → ∀ b ∈ fp, FpOk X pins H' b := fun hn b hb => ⟨hn b hb, (f2 b hb).2⟩
  refine codeAny_forLoop_any (fun n s' => ∃ i σ' H', Inv X pins σ' H' s' ∧ tn i s'.heap ∧ (∀ b ∈ fp, H' b = none) ∧ W i n σ' H') ?_ m0 ⟨0, σ, H2, I2, st2, fun b hb => (f2 b hb).1, w0⟩
  rintro n s3 ⟨i, σ3, H3, I3, st3, fr3, w3⟩
  rcases turn i n σ3 H3 w3 with ⟨stop, qn⟩ | ⟨go, N, hN, step⟩
  · refine wpAny_passesOwn hp (thn (T.done X rfl rfl rfl hc i pins s3 σ3 H3 X.xe I3 (stat fr3) st3 stop) fun r s4 ⟨hr, I4⟩ => ?_)
    subst hr
    exact wpAny_execs_nil ⟨σ3, H3, I4, qn⟩
  · refine wpAny_passesOwn hp (thn (T.item X rfl rfl rfl hc i pins s3 σ3 H3 X.xe I3 (stat fr3) st3 go) fun r s4 ⟨u, hr, h4⟩ => ?_)
    subst hr
    refine wpAny_passesOwn hp (thn h4 fun _ s5 ⟨x, H5, I5, r5, y5, st5, fr5⟩ => ?_)
    have I5' := I5.pinned (stat fr5) (T.obj _ _ st5)
    refine wpAny_passesOwn hp (thn (hg _ s5 σ3 H5 x u _ I5' r5 (step x H5 y5)) fun _ s6 ⟨σ6, H6, I6, q6⟩ => ?_)
    refine wpAny_passesOwn hp (thn (hb _ s6 σ6 H6 _ I6 q6) fun f s7 q7 => ?_)
    have again : ∀ {σ7 : St} {H7 : Hp}, Inv X (pins ++ pinsAt fp s5.heap) σ7 H7 s7 → N σ7 H7 → ∃ m, m < n ∧ ∃ i σ' H', Inv X pins σ' H' s7 ∧ tn i s7.heap ∧ (∀ b ∈ fp, H' b = none) ∧ W i m σ' H' := fun {σ7 H7} I7 n7 => by
      obtain ⟨m', hm, w7⟩ := hN σ7 H7 n7
      refine ⟨m', hm, i + 1, σ7, H7, I7.unpinned, T.keep _ _ _ st5 fun b hb o e => (I7.pin (b, o) (List.mem_append_right _ (List.mem_append_right _ (mem_pinsAt hb e)))).1, fun b hb => ?_, w7⟩
      obtain ⟨o, e, d⟩ := T.obj _ _ st5 b hb
      exact (I7.pin (b, o) (List.mem_append_right _ (List.mem_append_right _ (mem_pinsAt hb e)))).2.1
    cases f with
    | next => obtain ⟨σ7, H7, I7, n7⟩ := q7; exact again I7 n7
    | cont => obtain ⟨σ7, H7, I7, n7⟩ := q7; exact again I7 n7
    | brk => obtain ⟨σ7, H7, I7, q7⟩ := q7; exact ⟨σ7, H7, I7.unpinned, q7⟩
    | ret v => obtain ⟨x7, σ7, H7, I7, r7, q7⟩ := q7; exact ⟨x7, σ7, H7, I7.unpinned, r7, q7⟩
end
theorem for_list {K : PySem.W.Frag} {a : Addr} {xs : List V} {g : TG} {tb : TS} {D : Ends} {σ : St} {H : Hp} (Pv : Nat → St → Hp → Prop) (h0 : Pv 0 σ H) (hl : ∀ i σ H, i ≤ xs.length → Pv i σ H → SqL K H a xs)
    (hs : ∀ i x σ H, xs[i]? = some x → Pv i σ H → g x σ H fun σ2 H2 => tb { D with nx := Pv (i + 1), ct := Pv (i + 1), bk := D.nx } σ2 H2) (hd : ∀ σ H, Pv xs.length σ H → D.nx σ H) :
    ∃ W : Nat → Nat → St → Hp → Prop, (∃ m, W 0 m σ H) ∧ ∀ i m σ H, W i m σ H →
      ((Itl K a).stop i H ∧ D.nx σ H) ∨ ((Itl K a).go i H ∧ ∃ N : St → Hp → Prop, (∀ σ' H', N σ' H' → ∃ m', m' < m ∧ W (i + 1) m' σ' H') ∧ ∀ x H', (Itl K a).yld i H x H' → g x σ H' fun σ2 H2 => tb { D with nx := N, ct := N, bk := D.nx } σ2 H2) := by
  refine ⟨fun i m σ H => m = xs.length - i ∧ i ≤ xs.length ∧ Pv i σ H, ⟨xs.length, by simp, Nat.zero_le _, h0⟩, ?_⟩
  rintro i m σ H ⟨rfl, hi, p⟩
  have q := hl i σ H hi p
  by_cases hlt : i < xs.length
  · refine .inr ⟨⟨xs, xs[i], q, by simp [hlt]⟩, Pv (i + 1), fun σ' H' p' => ⟨xs.length - (i + 1), by omega, rfl, hlt, p'⟩, fun x H' y => ?_⟩
    obtain ⟨e, y⟩ := y
    subst e
    exact hs i x σ _ (y xs q) p
  · have e : i = xs.length := by omega
    subst e
    exact .inl ⟨⟨xs, q, Nat.le_refl _⟩, hd σ H p⟩
theorem for_tup {K : PySem.W.Frag} {a : Addr} {xs : List V} {g : TG} {tb : TS} {D : Ends} {σ : St} {H : Hp} (Pv : Nat → St → Hp → Prop) (h0 : Pv 0 σ H) (hl : ∀ i σ H, i ≤ xs.length → Pv i σ H → SqT K H a xs)
    (hs : ∀ i x σ H, xs[i]? = some x → Pv i σ H → g x σ H fun σ2 H2 => tb { D with nx := Pv (i + 1), ct := Pv (i + 1), bk := D.nx } σ2 H2) (hd : ∀ σ H, Pv xs.length σ H → D.nx σ H) :
    ∃ W : Nat → Nat → St → Hp → Prop, (∃ m, W 0 m σ H) ∧ ∀ i m σ H, W i m σ H →
      ((Itt K a).stop i H ∧ D.nx σ H) ∨ ((Itt K a).go i H ∧ ∃ N : St → Hp → Prop, (∀ σ' H', N σ' H' → ∃ m', m' < m ∧ W (i + 1) m' σ' H') ∧ ∀ x H', (Itt K a).yld i H x H' → g x σ H' fun σ2 H2 => tb { D with nx := N, ct := N, bk := D.nx } σ2 H2) := by
  refine ⟨fun i m σ H => m = xs.length - i ∧ i ≤ xs.length ∧ Pv i σ H, ⟨xs.length, by simp, Nat.zero_le _, h0⟩, ?_⟩
  rintro i m σ H ⟨rfl, hi, p⟩
  have q := hl i σ H hi p
  by_cases hlt : i < xs.length
  · refine .inr ⟨⟨xs, xs[i], q, by simp [hlt]⟩, Pv (i + 1), fun σ' H' p' => ⟨xs.length - (i + 1), by omega, rfl, hlt, p'⟩, fun x H' y => ?_⟩
    obtain ⟨e, y⟩ := y
    subst e
    exact hs i x σ _ (y xs q) p
  · have e : i = xs.length := by omega
    subst e
    exact .inl ⟨⟨xs, q, Nat.le_refl _⟩, hd σ H p⟩
theorem for_range {lo : Int} {n : Nat} {g : TG} {tb : TS} {D : Ends} {σ : St} {H : Hp} (Pv : Nat → St → Hp → Prop) (h0 : Pv 0 σ H)
    (hs : ∀ i σ H, i < n → Pv i σ H → g (.int (lo + i)) σ H fun σ2 H2 => tb { D with nx := Pv (i + 1), ct := Pv (i + 1), bk := D.nx } σ2 H2) (hd : ∀ σ H, Pv n σ H → D.nx σ H) :
    ∃ W : Nat → Nat → St → Hp → Prop, (∃ m, W 0 m σ H) ∧ ∀ i m σ H, W i m σ H →
      ((Itr lo n).stop i H ∧ D.nx σ H) ∨ ((Itr lo n).go i H ∧ ∃ N : St → Hp → Prop, (∀ σ' H', N σ' H' → ∃ m', m' < m ∧ W (i + 1) m' σ' H') ∧ ∀ x H', (Itr lo n).yld i H x H' → g x σ H' fun σ2 H2 => tb { D with nx := N, ct := N, bk := D.nx } σ2 H2) := by
  refine ⟨fun i m σ H => m = n - i ∧ i ≤ n ∧ Pv i σ H, ⟨n, by simp, Nat.zero_le _, h0⟩, ?_⟩
  rintro i m σ H ⟨rfl, hi, p⟩
  by_cases hlt : i < n
  · refine .inr ⟨hlt, Pv (i + 1), fun σ' H' p' => ⟨n - (i + 1), by omega, rfl, hlt, p'⟩, fun x H' y => ?_⟩
    obtain ⟨e, y⟩ := y
    subst e y
    exact hs i σ _ hlt p
  · have e : i = n := by omega
    subst e
    exact .inl ⟨Nat.le_refl _, hd σ H p⟩
end L2
namespace L2
open PySem PySem.Spec PyProof.Rows
abbrev R2 := V → V → Hp → VK → Prop
def OpR (X : Cx) (f : Value → Value → Sem Value) (r : R2) : Prop :=
  ∀ (pins : List (Addr × Obj)) (s : Shared) (σ : St) (H : Hp) (x y : V) (v u : Value) (Q : VK), Inv X pins σ H s → RelV x v → RelV y u → r x y H Q →
    wpAny (model X.prog X.w) X.A (f v u) (EP X pins σ Q) X.xe s
def UnR (X : Cx) (f : Value → Sem Value) (r : V → Hp → VK → Prop) : Prop :=
  ∀ (pins : List (Addr × Obj)) (s : Shared) (σ : St) (H : Hp) (x : V) (v : Value) (Q : VK), Inv X pins σ H s → RelV x v → r x H Q →
    wpAny (model X.prog X.w) X.A (f v) (EP X pins σ Q) X.xe s
def CallR (X : Cx) (f : Value) (r : List V → Hp → VK → Prop) : Prop :=
  ∀ (pins : List (Addr × Obj)) (s : Shared) (σ : St) (H : Hp) (xs : List V) (us : List Value) (Q : VK), Inv X pins σ H s → Vals xs us → r xs H Q →
    wpAny (model X.prog X.w) X.A (call f us) (EP X pins σ Q) X.xe s
def TruR (X : Cx) (r : V → Hp → (Bool → Hp → Prop) → Prop) : Prop :=
  ∀ (pins : List (Addr × Obj)) (s : Shared) (σ : St) (H : Hp) (x : V) (v : Value) (Q : Bool → Hp → Prop), Inv X pins σ H s → RelV x v → r x H Q →
    wpAny (model X.prog X.w) X.A (truthy v) (TP X pins σ Q) X.xe s
def tOp (r : R2) (ta tb : TE) : TE := fun σ H Q => ta σ H fun x H1 => tb σ H1 fun y H2 => r x y H2 Q
def tUn (r : V → Hp → VK → Prop) (ta : TE) : TE := fun σ H Q => ta σ H fun x H1 => r x H1 Q
def rI (C : Int → Int → Prop) (g : Int → Int → V) : R2 := fun x y H Q => ∃ i j, x = .int i ∧ y = .int j ∧ C i j ∧ Q (g i j) H
def rI0 (g : Int → Int → V) : R2 := fun x y H Q => ∃ i j, x = .int i ∧ y = .int j ∧ Q (g i j) H
def rU (g : Int → V) : V → Hp → VK → Prop := fun x H Q => ∃ i, x = .int i ∧ Q (g i) H
section
variable {X : Cx} {a b c : Expr} {ta tb tc : TE} {pos : Pos}
theorem binT (ha : PE X a ta) (hb : PE X b tb) {pins : List (Addr × Obj)} {s : Shared} {σ : St} {H : Hp} {R : V → V → Hp → Prop} (I : Inv X pins σ H s)
    (h : ta σ H fun x H1 => tb σ H1 fun y H2 => R x y H2) {Q : Value → Shared → Prop} {f : Value → Value → Sem Value}
    (hf : ∀ v u s2 x y H2, Inv X pins σ H2 s2 → RelV x v → RelV y u → R x y H2 → wpAny (model X.prog X.w) X.A (f v u) Q X.xe s2) :
    wpAny (model X.prog X.w) X.A (eval a X.env) (fun v s₁ => wpAny (model X.prog X.w) X.A (eval b X.env) (fun u s₂ => wpAny (model X.prog X.w) X.A (f v u) Q X.xe s₂) X.xe s₁) X.xe s := by
  refine thn (ha pins s σ H _ I h) fun v s1 ⟨x, H1, I1, r1, q1⟩ => ?_
  refine thn (hb pins s1 σ H1 _ I1 q1) fun u s2 ⟨y, H2, I2, r2, q2⟩ => ?_
  exact hf v u s2 x y H2 I2 r1 r2 q2
theorem pe_op {op : Operator} {r : R2} (ho : OpR X (binaryOp op) r) (ha : PE X a ta) (hb : PE X b tb) : PE X (.BinOp a op b pos) (tOp r ta tb) := by
  intro pins s σ H Q I h
  exact wpAny_BinOp (binT ha hb I h fun v u s2 x y H2 I2 rx ry q => ho pins s2 σ H2 x y v u Q I2 rx ry q)
theorem pe_un {op : UnaryOp} {r : V → Hp → VK → Prop} (ho : UnR X (unaryOp op) r) (ha : PE X a ta) : PE X (.UnaryOp op a pos) (tUn r ta) := by
  intro pins s σ H Q I h
  exact UnaryOp_ (thn (ha pins s σ H _ I h) fun v s1 ⟨x, H1, I1, r1, q1⟩ => ho pins s1 σ H1 x v Q I1 r1 q1)
theorem opI {f : Value → Value → Sem Value} {C : Int → Int → Prop} {g : Int → Int → Int}
    (rule : ∀ (i j : Int) (t u : Tok) (s : Shared) (Q : Value → Shared → Prop) (E : Value → Shared → Prop), C i j → Q (.int (g i j) s.toks) { s with toks := s.toks + 1 } → wpAny (model X.prog X.w) X.A (f (.int i t) (.int j u)) Q E s) :
    OpR X f (rI C fun i j => .int (g i j)) := by
  intro pins s σ H x y v u Q I rx ry h
  obtain ⟨i, j, rfl, rfl, hc, q⟩ := h
  obtain ⟨t, rfl⟩ := rx
  obtain ⟨t', rfl⟩ := ry
  exact rule i j t t' s _ _ hc ⟨.int (g i j), H, I.tok _, ⟨_, rfl⟩, q⟩
theorem opI0 {f : Value → Value → Sem Value} {g : Int → Int → Int}
    (rule : ∀ (i j : Int) (t u : Tok) (s : Shared) (Q : Value → Shared → Prop) (E : Value → Shared → Prop), Q (.int (g i j) s.toks) { s with toks := s.toks + 1 } → wpAny (model X.prog X.w) X.A (f (.int i t) (.int j u)) Q E s) :
    OpR X f (rI0 fun i j => .int (g i j)) := by
  intro pins s σ H x y v u Q I rx ry h
  obtain ⟨i, j, rfl, rfl, q⟩ := h
  obtain ⟨t, rfl⟩ := rx
  obtain ⟨t', rfl⟩ := ry
  exact rule i j t t' s _ _ ⟨.int (g i j), H, I.tok _, ⟨_, rfl⟩, q⟩
theorem opB0 {f : Value → Value → Sem Value} {g : Int → Int → Bool}
    (rule : ∀ (i j : Int) (t u : Tok) (s : Shared) (Q : Value → Shared → Prop) (E : Value → Shared → Prop), Q (.bool (g i j)) s → wpAny (model X.prog X.w) X.A (f (.int i t) (.int j u)) Q E s) :
    OpR X f (rI0 fun i j => .bl (g i j)) := by
  intro pins s σ H x y v u Q I rx ry h
  obtain ⟨i, j, rfl, rfl, q⟩ := h
  obtain ⟨t, rfl⟩ := rx
  obtain ⟨t', rfl⟩ := ry
  exact rule i j t t' s _ _ ⟨.bl (g i j), H, I, rfl, q⟩
def CMul (i j : Int) : Prop := (-(2 ^ 64) < i ∧ i < 2 ^ 64) ∨ (-(2 ^ 64) < j ∧ j < 2 ^ 64)
theorem CMul.ok {i j : Int} (h : CMul i j) : IntMulOk i j := by
  rcases h with ⟨h1, h2⟩ | ⟨h1, h2⟩
  · exact .of_left (intBits_le_64 h1 h2)
  · exact .of_right (intBits_le_64 h1 h2)
theorem op_add : OpR X (binaryOp .Add) (rI0 fun i j => .int (i + j)) := opI0 fun _ _ _ _ _ _ _ q => add_int q
theorem op_sub : OpR X (binaryOp .Sub) (rI0 fun i j => .int (i - j)) := opI0 fun _ _ _ _ _ _ _ q => sub_int q
theorem op_mul : OpR X (binaryOp .Mult) (rI CMul fun i j => .int (i * j)) := opI fun _ _ _ _ _ _ _ hc q => mul_int q hc.ok
theorem op_mod : OpR X (binaryOp .Mod) (rI (fun _ j => 0 < j) fun i j => .int (i % j)) := opI fun i j _ _ _ _ _ hc q => by
  have h1 : (0 : Int) < j := hc
  exact mod_int' (by omega) (by rw [Int.fmod_eq_emod_of_nonneg i (by omega)]; exact q)
theorem unI {f : Value → Sem Value} {g : Int → Int}
    (rule : ∀ (i : Int) (t : Tok) (s : Shared) (Q : Value → Shared → Prop) (E : Value → Shared → Prop), Q (.int (g i) s.toks) { s with toks := s.toks + 1 } → wpAny (model X.prog X.w) X.A (f (.int i t)) Q E s) :
    UnR X f (rU fun i => .int (g i)) := by
  intro pins s σ H x v Q I rx h
  obtain ⟨i, rfl, q⟩ := h
  obtain ⟨t, rfl⟩ := rx
  exact rule i t s _ _ ⟨.int (g i), H, I.tok _, ⟨_, rfl⟩, q⟩
theorem un_neg : UnR X (unaryOp .USub) (rU fun i => .int (-i)) := unI fun _ _ _ _ _ q => neg_int q
end
def scal : V → V → Bool
  | .non, .non => true | .non, .int _ => true | .int _, .non => true | .non, .bl _ => true | .bl _, .non => true | .non, .str _ => true | .str _, .non => true
  | .int _, .int _ => true | .bl _, .bl _ => true | .str _, .str _ => true | .byt _, .byt _ => true
  | .int _, .str _ => true | .str _, .int _ => true | .bl _, .str _ => true | .str _, .bl _ => true
  | _, _ => false
def rEq : R2 := fun x y H Q => scal x y = true ∧ Q (.bl (decide (x = y))) H
def rNe : R2 := fun x y H Q => scal x y = true ∧ Q (.bl (!decide (x = y))) H
theorem dec_int {i j : Int} : decide (V.int i = V.int j) = (i == j) := by
  rw [Bool.eq_iff_iff]
  simp
theorem dec_bl {i j : Bool} : decide (V.bl i = V.bl j) = (i == j) := by
  rw [Bool.eq_iff_iff]
  simp
theorem dec_str {i j : Str} : decide (V.str i = V.str j) = (i == j) := by
  rw [Bool.eq_iff_iff]
  simp
theorem dec_byt {i j : Array UInt8} : decide (V.byt i = V.byt j) = (i.toList == j.toList) := by
  rw [Bool.eq_iff_iff]
  cases i
  cases j
  simp
section
variable {X : Cx} {a b c : Expr} {ta tb tc : TE} {pos : Pos}
theorem fin_bl {pins : List (Addr × Obj)} {σ : St} {H : Hp} {s : Shared} {Q : VK} {k k' : Bool} (I : Inv X pins σ H s) (q : Q (.bl k) H) (e : k = k') : EP X pins σ Q (.bool k') s := by
  subst e
  exact ⟨.bl k, H, I, rfl, q⟩
theorem op_eq : OpR X (compareOp .Eq) rEq := by
  intro pins s σ H x y v u Q I rx ry h
  obtain ⟨hs, q⟩ := h
  cases x with
  | non =>
    cases rx
    cases y with
    | non => cases ry; exact PySem.EqNone.eq_none_none (fin_bl I q (by simp))
    | bl j => cases ry; exact PySem.EqNone.eq_none_bool (fin_bl I q (by simp))
    | int j => obtain ⟨t', rfl⟩ := ry; exact PySem.EqNone.eq_none_int (fin_bl I q (by simp))
    | str j => obtain ⟨t', rfl⟩ := ry; exact PySem.EqNone.eq_none_str (fin_bl I q (by simp))
    | _ => exact absurd (show false = true from hs) Bool.false_ne_true
  | bl i =>
    cases rx
    cases y with
    | non => cases ry; exact PySem.EqNone.eq_bool_none (fin_bl I q (by simp))
    | bl j => cases ry; exact eq_bool (fin_bl I q dec_bl)
    | str j => obtain ⟨t', rfl⟩ := ry; exact PySem.EqMixed.eq_bool_str (fin_bl I q (by simp))
    | _ => exact absurd (show false = true from hs) Bool.false_ne_true
  | int i =>
    obtain ⟨t, rfl⟩ := rx
    cases y with
    | non => cases ry; exact PySem.EqNone.eq_int_none (fin_bl I q (by simp))
    | int j => obtain ⟨t', rfl⟩ := ry; exact eq_int (fin_bl I q dec_int)
    | str j => obtain ⟨t', rfl⟩ := ry; exact PySem.EqMixed.eq_int_str (fin_bl I q (by simp))
    | _ => exact absurd (show false = true from hs) Bool.false_ne_true
  | str i =>
    obtain ⟨t, rfl⟩ := rx
    cases y with
    | non => cases ry; exact PySem.EqNone.eq_str_none (fin_bl I q (by simp))
    | bl j => cases ry; exact PySem.EqMixed.eq_str_bool (fin_bl I q (by simp))
    | int j => obtain ⟨t', rfl⟩ := ry; exact PySem.EqMixed.eq_str_int (fin_bl I q (by simp))
    | str j => obtain ⟨t', rfl⟩ := ry; exact eq_str (fin_bl I q dec_str)
    | _ => exact absurd (show false = true from hs) Bool.false_ne_true
  | byt i =>
    obtain ⟨t, rfl⟩ := rx
    cases y with
    | byt j => obtain ⟨t', rfl⟩ := ry; exact PySem.W.eq_bytes (fin_bl I q dec_byt)
    | _ => exact absurd (show false = true from hs) Bool.false_ne_true
  | _ => cases y <;> exact absurd (show false = true from hs) Bool.false_ne_true
theorem op_ne : OpR X (compareOp .NotEq) rNe := by
  intro pins s σ H x y v u Q I rx ry h
  obtain ⟨hs, q⟩ := h
  cases x with
  | non =>
    cases rx
    cases y with
    | non => cases ry; exact PySem.EqNone.ne_none_none (fin_bl I q (by simp))
    | bl j => cases ry; exact PySem.EqNone.ne_none_bool (fin_bl I q (by simp))
    | int j => obtain ⟨t', rfl⟩ := ry; exact PySem.EqNone.ne_none_int (fin_bl I q (by simp))
    | str j => obtain ⟨t', rfl⟩ := ry; exact PySem.EqNone.ne_none_str (fin_bl I q (by simp))
    | _ => exact absurd (show false = true from hs) Bool.false_ne_true
  | bl i =>
    cases rx
    cases y with
    | non => cases ry; exact PySem.EqNone.ne_bool_none (fin_bl I q (by simp))
    | bl j => cases ry; exact ne_bool (fin_bl I q (congrArg not dec_bl))
    | str j => obtain ⟨t', rfl⟩ := ry; exact PySem.EqMixed.ne_bool_str (fin_bl I q (by simp))
    | _ => exact absurd (show false = true from hs) Bool.false_ne_true
  | int i =>
    obtain ⟨t, rfl⟩ := rx
    cases y with
    | non => cases ry; exact PySem.EqNone.ne_int_none (fin_bl I q (by simp))
    | int j => obtain ⟨t', rfl⟩ := ry; exact ne_int (fin_bl I q (congrArg not dec_int))
    | str j => obtain ⟨t', rfl⟩ := ry; exact PySem.EqMixed.ne_int_str (fin_bl I q (by simp))
    | _ => exact absurd (show false = true from hs) Bool.false_ne_true
  | str i =>
    obtain ⟨t, rfl⟩ := rx
    cases y with
    | non => cases ry; exact PySem.EqNone.ne_str_none (fin_bl I q (by simp))
    | bl j => cases ry; exact PySem.EqMixed.ne_str_bool (fin_bl I q (by simp))
    | int j => obtain ⟨t', rfl⟩ := ry; exact PySem.EqMixed.ne_str_int (fin_bl I q (by simp))
    | str j => obtain ⟨t', rfl⟩ := ry; exact ne_str (fin_bl I q (congrArg not dec_str))
    | _ => exact absurd (show false = true from hs) Bool.false_ne_true
  | byt i =>
    obtain ⟨t, rfl⟩ := rx
    cases y with
    | byt j => obtain ⟨t', rfl⟩ := ry; exact PySem.W.ne_bytes (fin_bl I q (congrArg not dec_byt))
    | _ => exact absurd (show false = true from hs) Bool.false_ne_true
  | _ => cases y <;> exact absurd (show false = true from hs) Bool.false_ne_true
theorem op_lt : OpR X (compareOp .Lt) (rI0 fun i j => .bl (decide (i < j))) := opB0 fun _ _ _ _ _ _ _ q => lt_int q
theorem op_gt : OpR X (compareOp .Gt) (rI0 fun i j => .bl (decide (j < i))) := opB0 fun _ _ _ _ _ _ _ q => gt_int q
theorem op_in_str : OpR X (compareOp .In) (fun x y H Q => ∃ i j, x = .str i ∧ y = .str j ∧ Q (.bl (!(Builtin.Str.occurrences j i 0 j.length 1).isEmpty)) H) := by
  intro pins s σ H x y v u Q I rx ry h
  obtain ⟨i, j, rfl, rfl, q⟩ := h
  obtain ⟨t, rfl⟩ := rx
  obtain ⟨t', rfl⟩ := ry
  exact in_str (fin_bl I q rfl)
theorem op_notN : OpR X (compareOp .IsNot) (fun x y H Q => y = .non ∧ Q (.bl (!decide (x = .non))) H) := by
  intro pins s σ H x y v u Q I rx ry h
  obtain ⟨rfl, q⟩ := h
  cases ry
  refine isnot_none_gen (fin_bl I q ?_)
  cases x <;> first
    | (cases rx; rfl)
    | (obtain ⟨t, rfl⟩ := rx; rfl)
theorem OpR.or {f : Value → Value → Sem Value} {r r' : R2} (h : OpR X f r) (h' : OpR X f r') : OpR X f (fun x y H Q => r x y H Q ∨ r' x y H Q) := by
  intro pins s σ H x y v u Q I rx ry q
  rcases q with q | q
  · exact h pins s σ H x y v u Q I rx ry q
  · exact h' pins s σ H x y v u Q I rx ry q
theorem nomark (b : Expr) {op : CmpOp} (h : op ≠ .In := by decide) (h2 : op ≠ .NotIn := by decide) : behindInMarks op b = false := by
  have e1 : (op == CmpOp.In) = false := by cases op <;> first | rfl | exact absurd rfl h
  have e2 : (op == CmpOp.NotIn) = false := by cases op <;> first | rfl | exact absurd rfl h2
  cases b <;> simp [behindInMarks, e1, e2]
theorem pe_cmpR {op : CmpOp} {r : R2} (ho : OpR X (compareOp op) r) (ha : PE X a ta) (hb : PE X b tb) (hm : behindInMarks op b = false) : PE X (.Compare a [op] [b] pos) (tOp r ta tb) := by
  intro pins s σ H Q I h
  exact wpAny_Compare1 (binT ha hb I h fun v u s2 x y H2 I2 rx ry q => ho pins s2 σ H2 x y v u Q I2 rx ry q) hm
def tTest (t : TE) : TT := fun σ H Q => t σ H fun x H' => ∃ k, x = .bl k ∧ Q k H'
theorem pt_cmpR {op : CmpOp} {r : R2} (ho : OpR X (compareOp op) r) (ha : PE X a ta) (hb : PE X b tb) (hm : behindInMarks op b = false) : PT X (.Compare a [op] [b] pos) (tTest (tOp r ta tb)) := by
  intro pins s σ H Q I h
  refine wpAny_isTrue_Compare1 (thn (ha pins s σ H _ I h) fun v s1 ⟨x, H1, I1, r1, q1⟩ => thn (hb pins s1 σ H1 _ I1 q1) fun u s2 ⟨y, H2, I2, r2, q2⟩ =>
    thn (ho pins s2 σ H2 x y v u _ I2 r1 r2 q2) fun c s3 ⟨z, H3, I3, r3, k, e, q3⟩ => ?_) hm
  subst e
  cases r3
  exact wpAny_truthy_bool ⟨H3, I3, q3⟩
def tChain (r r' : R2) (ta tb tc : TE) : TE := fun σ H Q => ta σ H fun x H1 => tb σ H1 fun y H2 => r x y H2 fun z H3 => ∃ k, z = .bl k ∧
  (if k = true then tc σ H3 fun w' H4 => r' y w' H4 Q else Q (.bl false) H3)
def TruV (K : PySem.W.Frag) (x : V) (H : Hp) (k : Bool) : Prop :=
  match x with
  | .non => k = false
  | .bl b => k = b
  | .int i => k = (i != 0)
  | .str y => y.length ≤ sizeLine ∧ k = ((y.length : Int) != 0)
  | .byt y => y.size ≤ sizeLine ∧ k = ((y.size : Int) != 0)
  | .ref p => (∃ xs, SqL K H p xs ∧ k = !xs.isEmpty) ∨ (∃ xs, SqT K H p xs ∧ k = !xs.isEmpty) ∨ ∃ kvs, H p = some (.dK kvs) ∧ k = !kvs.isEmpty
  | _ => False
theorem isEmpty_kv {κ : Type} {kvs : List (κ × V)} {vs : List (κ × Value)} (r : KV kvs vs) : (!vs.isEmpty) = !kvs.isEmpty := by
  cases r <;> rfl
theorem isEmpty_of {xs : List V} {its : List Value} (r : Vals xs its) : (!its.toArray.isEmpty) = !xs.isEmpty := by
  cases r <;> simp
theorem line63 : (sizeLine : Nat) < 2 ^ 63 := by rw [sizeLine_eq]; decide
theorem tru_ok : TruR X (fun x H Q => ∃ k, TruV X.K x H k ∧ Q k H) := by
  intro pins s σ H x v Q I rx h
  obtain ⟨k, e, q⟩ := h
  have hl := line63
  have hs : sizeLine = 16777216 := sizeLine_eq
  cases x with
  | non =>
    cases rx
    have e' : k = false := e
    subst e'
    exact truthy_none ⟨H, I, q⟩
  | bl b =>
    cases rx
    have e' : k = b := e
    subst e'
    exact wpAny_truthy_bool ⟨H, I, q⟩
  | int i =>
    obtain ⟨t, rfl⟩ := rx
    have e' : k = (i != 0) := e
    subst e'
    exact PySem.P.truthy_int ⟨H, I, q⟩
  | str y =>
    obtain ⟨t, rfl⟩ := rx
    obtain ⟨hy, e'⟩ : y.length ≤ sizeLine ∧ k = ((y.length : Int) != 0) := e
    subst e'
    exact PySem.P.truthy_str (by omega) ⟨H, I.tok _, q⟩
  | byt y =>
    obtain ⟨t, rfl⟩ := rx
    obtain ⟨hy, e'⟩ : y.size ≤ sizeLine ∧ k = ((y.size : Int) != 0) := e
    subst e'
    exact PySem.W.truthy_bytes (by omega) ⟨H, I.tok _, q⟩
  | ref p =>
    cases rx
    have e' : (∃ xs, SqL X.K H p xs ∧ k = !xs.isEmpty) ∨ (∃ xs, SqT X.K H p xs ∧ k = !xs.isEmpty) ∨ ∃ kvs, H p = some (.dK kvs) ∧ k = !kvs.isEmpty := e
    rcases e' with ⟨xs, hx, e'⟩ | ⟨xs, hx, e'⟩ | ⟨kvs, hx, e'⟩
    · subst e'
      obtain ⟨its, r, pl, hz⟩ := I.list hx
      have hlen := r.length
      exact wpAny_truthy_list pl.isList (by simp only [List.size_toArray]; omega) ⟨H, I.tok _, by rw [isEmpty_of r]; exact q⟩
    · subst e'
      obtain ⟨its, r, pl, hz⟩ := I.tuple hx
      have hlen := r.length
      exact truthy_tuple pl (by simp only [List.size_toArray]; omega) ⟨H, I.tok _, by rw [isEmpty_of r]; exact q⟩
    · subst e'
      obtain ⟨hz, hS, vs, r, m⟩ : kvs.length ≤ sizeLine ∧ (p == sysModules) = false ∧ ∃ vs, KV kvs vs ∧ s.heap.DictOf (mixKind X.prog X.w) p vs := I.hok p _ hx
      have hlen : kvs.length = vs.length := Paired.length r
      exact wpAny_truthy_dict hS m (by omega) ⟨H, I.tok _, by rw [isEmpty_kv r]; exact q⟩
  | _ => exact (show False from e).elim
theorem pt_truth (ha : PE X a ta) (he : ∀ whole, isTrue a X.env whole = (do let v ← whole; standAt a.pos; holding [v] (truthy v))) :
    PT X a (fun σ H Q => ta σ H fun x H' => ∃ k, TruV X.K x H' k ∧ Q k H') := by
  intro pins s σ H Q I h
  exact isTrue_plain (thn (ha pins s σ H _ I h) fun v s1 ⟨x, H1, I1, r1, q1⟩ => tru_ok pins s1 σ H1 x v Q I1 r1 q1) (he _)
theorem op_add_str : OpR X (binaryOp .Add) (fun x y H Q => ∃ i j, x = .str i ∧ y = .str j ∧ i.length + j.length ≤ sizeLine ∧ Q (.str (i ++ j)) H) := by
  intro pins s σ H x y v u Q I rx ry h
  obtain ⟨i, j, rfl, rfl, hz, q⟩ := h
  obtain ⟨t, rfl⟩ := rx
  obtain ⟨t', rfl⟩ := ry
  exact add_str (fun t' tk => ⟨.str (i ++ j), H, I.tok _, ⟨_, rfl⟩, q⟩) hz
theorem vals1 {x : V} {us : List Value} (r : Vals [x] us) : ∃ u, us = [u] ∧ RelV x u := by
  cases r with
  | cons r1 r2 => cases r2; exact ⟨_, rfl, r1⟩
theorem vals2 {x y : V} {us : List Value} (r : Vals [x, y] us) : ∃ u w', us = [u, w'] ∧ RelV x u ∧ RelV y w' := by
  cases r with
  | cons r1 r2 =>
    cases r2 with
    | cons r3 r4 => cases r4; exact ⟨_, _, rfl, r1, r3⟩
theorem call_str_int : CallR X (.type "str") (fun xs H Q => ∃ i, xs = [.int i] ∧ i.natAbs.log2 < 1920 ∧ Q (.str (toString i)) H) := by
  intro pins s σ H xs us Q I r h
  obtain ⟨i, rfl, hz, q⟩ := h
  obtain ⟨u, rfl, t, rfl⟩ := vals1 r
  exact PySem.P.str_of_int hz ⟨.str _, H, I.tok _, ⟨_, rfl⟩, q⟩
end
end L2
namespace L2
open PySem PySem.Spec PyProof.Rows
structure ObjM (h : Heap) (x dx C : Addr) (mA : Str → Option Value) : Prop where
  obj : h.get? x = some (PySem.W.instObj C dx)
  ns : h.Ns1 dx mA
  ne : dx ≠ x
theorem lookIn_ns {h : Heap} {dx : Addr} {mA : Str → Option Value} (n : h.Ns1 dx mA) : ∃ od, h.get? dx = some od ∧ ∀ name, PySem.W.lookIn name od = some (mA name) := by
  obtain ⟨o, es, ep, ho, hd, hk, _, hm⟩ := n
  refine ⟨o, ho, fun name => ?_⟩
  have e := hm name
  unfold nsFind findBy at e
  rw [← Array.find?_toList] at e
  unfold PySem.W.lookIn
  rw [hd]
  dsimp only
  split
  · rename_i y q
    rw [q] at e
    exact congrArg some e
  · rename_i q
    rw [q] at e
    have a : es.toList.any (·.refKey) = false := by
      rw [List.any_eq_false]
      intro y hy
      obtain ⟨z, t, hkey⟩ := hk y (Array.mem_toList_iff.mp hy)
      simp [DictEntry.refKey, hkey]
    have a' : ¬ es.toList.any (·.refKey) = true := by rw [a]; exact Bool.false_ne_true
    rw [if_neg a']
    exact congrArg some e
theorem ObjM.look {h : Heap} {x dx C : Addr} {mA : Str → Option Value} (I : ObjM h x dx C mA) : ∃ od, PySem.W.InstAt h x (PySem.W.instObj C dx) C (some od) ∧ ∀ name, PySem.W.lookIn name od = some (mA name) :=
  let ⟨od, ho, hl⟩ := lookIn_ns I.ns
  ⟨od, ⟨I.obj, rfl, rfl, ho⟩, hl⟩
section
variable {prog : Program} {w : World} {A : Around} {E : Value → Shared → Prop} {s : Shared} {K : PySem.W.Frag} {x dx C f : Addr} {mA : Str → Option Value} {name : Str} {v : Value}
theorem get_map {expr : Bool} {Q : Value → Shared → Prop} (X : K.In s.heap) (I : ObjM s.heap x dx C mA) (hg : PySem.W.plainGet K C name = true) (hh : PySem.W.hasDictIn K C = true)
    (ha : PySem.W.findIn K (.ref C) name = some none) (hv : mA name = some v) (hv' : PySem.W.handedIn v = true) (h : Q v { s with toks := s.toks + 1 }) :
    wpAny (model prog w) A (getAttr (.ref x) name expr) Q E s := by
  obtain ⟨od, J, hl⟩ := I.look
  exact PySem.W.get_value X J (PySem.W.plainGet_of hg).1 (PySem.W.findObj_own hh ha rfl (by rw [hl, hv])) hv' h
theorem get_meth {pl : Sem Bool} {Q : Value × List Value → Shared → Prop} (X : K.In s.heap) (I : ObjM s.heap x dx C mA) (hg : PySem.W.plainGet K C name = true)
    (hf : PySem.W.findIn K (.ref C) name = some (some (.ref f))) (ht : PySem.W.isFn K (.ref f) = true) (hv : mA name = none) (h : Q (.ref f, [.ref x]) s) :
    wpAny (model prog w) A (getMethod (.ref x) name pl) Q E s := by
  obtain ⟨od, J, hl⟩ := I.look
  exact PySem.W.method_fn X J (PySem.W.plainGet_of hg).1 (PySem.W.plainGet_of hg).2 hf (beq_iff_eq.mp ht) (by show (PySem.W.lookIn name od).map (·.isSome) = some false; rw [hl, hv]; rfl) h
theorem set_map {ns : List Str} {Q : Unit → Shared → Prop} (X : K.In s.heap) (I : ObjM s.heap x dx C mA)
    (hs : PySem.W.findIn K (.ref C) "__setattr__" = some (some (.builtin "object.__setattr__"))) (hp : PySem.W.plainOver K C = true) (ht : PySem.W.takerIn K C name = some none) (hh : PySem.W.hasDictIn K C = true)
    (hw : PySem.Within mA ns) (hsz : ns.length ≤ sizeLine)
    (h : ∀ h', ObjM h' x dx C (fun y => if y = name then some v else mA y) → Heap.SameBut dx s.heap h' → Q () { s with heap := h', toks := s.toks + 2 }) :
    wpAny (model prog w) A (setAttr (.ref x) name v) Q E s := by
  obtain ⟨od, J, hl⟩ := I.look
  refine PySem.W.set_plain X J hs (PySem.W.osa_open (s := { s with toks := s.toks + 1 }) (r := none) X J hp ht fun b => ?_)
  obtain ⟨cd, hc, hd'⟩ := PySem.W.any_some hh
  have hx : s.heap.get? x = some ⟨.ref C, some dx, .plain, #[]⟩ := I.obj
  refine wpAny_bind (wpAny_pure (wpAny_bind (wpAny_bind (wpAny_loadPart hx (wpAny_bind (PySem.W.Looks.here (s := { s with toks := s.toks + 1 }) (PySem.W.looks_clsIn X hc) ?_))))))
  rw [hd']
  refine wpAny_pure (a := some dx) (wpAny_bind (wpAny_pure (wpAny_bind ?_)))
  refine wpAny_nsSet1 (s := { s with toks := s.toks + 1 }) I.ns fun h' hn2 hs2 => ?_
  obtain ⟨oD, esD, epD, hoD, hdD, hcD⟩ := hn2.count (PySem.Within.cons name v hw)
  refine wpAny_bind (wpAny_lookBehind hoD (by rw [hdD]; exact pastItsLine_dict (Nat.le_trans hcD (by rw [List.length_cons]; omega))) ?_)
  exact wpAny_pure (h _ ⟨(hs2.2 _ (Ne.symm I.ne)).trans I.obj, hn2, I.ne⟩ hs2)
theorem make_map {R : Result → Shared → Prop} {vs : List Value} {kw : List (Str × Value)} (X : K.In s.heap) (hm : PySem.W.makesIn K C = true)
    (hi : PySem.W.findIn K (.ref C) "__init__" = some (some (.ref f))) (hf : PySem.W.typeIn K (.ref f) = some (.type "function"))
    (h : codeAny (model prog w) (A.under (.builtin "type.__call__" ⟨.ref C :: vs, kw⟩)) (.call (.ref f) ⟨.ref (s.heap.objs.size + 1) :: vs, kw⟩) (PySem.W.InitBack (s.heap.objs.size + 1) R)
      { s with heap := (s.heap.push PySem.W.emptyDict).push (PySem.W.instObj C s.heap.objs.size) }) :
    codeAny (model prog w) A (.call (.ref C) ⟨vs, kw⟩) R s := by
  obtain ⟨hh, g, d, t, os⟩ := s
  exact PySem.W.make_core (PySem.W.makes_of X hm) (PySem.W.looks_findIn X hi) (fun self => PySem.W.bind_fn X self hf) (.inl rfl) h
end
def putF (f : Str) (v : V) : List (Str × V) → List (Str × V)
  | [] => [(f, v)]
  | (g, x) :: r => if g = f then (g, v) :: r else (g, x) :: putF f v r
theorem lookup_putF (f g : Str) (v : V) : ∀ fs : List (Str × V), (putF f v fs).lookup g = if g = f then some v else fs.lookup g
  | [] => by
    show List.lookup g [(f, v)] = _
    by_cases h : g = f
    · have hb : (g == f) = true := beq_iff_eq.mpr h
      simp only [List.lookup, hb, if_pos h]
    · have hb : (g == f) = false := beq_eq_false_iff_ne.mpr h
      simp only [List.lookup, hb, if_neg h]
  | (k, x) :: r => by
    have ih := lookup_putF f g v r
    rw [show putF f v ((k, x) :: r) = (if k = f then (k, v) :: r else (k, x) :: putF f v r) from rfl]
    by_cases hk : k = f
    · rw [if_pos hk]
      by_cases h : g = k
      · have hb : (g == k) = true := beq_iff_eq.mpr h
        simp only [List.lookup, hb, if_pos (h.trans hk)]
      · have hb : (g == k) = false := beq_eq_false_iff_ne.mpr h
        simp only [List.lookup, hb, if_neg (fun e : g = f => h (e.trans hk.symm))]
    · rw [if_neg hk]
      by_cases h : g = k
      · have hb : (g == k) = true := beq_iff_eq.mpr h
        simp only [List.lookup, hb, if_neg (fun e : g = f => hk (h.symm.trans e))]
      · have hb : (g == k) = false := beq_eq_false_iff_ne.mpr h
        simp only [List.lookup, hb]
        exact ih
theorem keys_putF (f : Str) (v : V) : ∀ fs : List (Str × V), f ∈ (putF f v fs).map (·.1) ∧ ∀ g, g ∈ fs.map (·.1) → g ∈ (putF f v fs).map (·.1)
  | [] => ⟨by simp [putF], fun g h => by simp at h⟩
  | (k, x) :: r => by
    obtain ⟨i1, i2⟩ := keys_putF f v r
    rw [show putF f v ((k, x) :: r) = (if k = f then (k, v) :: r else (k, x) :: putF f v r) from rfl]
    by_cases hk : k = f
    · rw [if_pos hk]
      subst hk
      exact ⟨by simp, fun g h => by simpa using h⟩
    · rw [if_neg hk]
      refine ⟨?_, fun g h => ?_⟩
      · rw [List.map_cons]
        exact List.mem_cons_of_mem _ i1
      · rw [List.map_cons] at h ⊢
        rcases List.mem_cons.mp h with e | e
        · exact List.mem_cons.mpr (.inl e)
        · exact List.mem_cons_of_mem _ (i2 g e)
theorem length_putF (f : Str) (v : V) : ∀ fs : List (Str × V), (putF f v fs).length ≤ fs.length + 1
  | [] => by simp [putF]
  | (k, x) :: r => by
    have ih := length_putF f v r
    rw [show putF f v ((k, x) :: r) = (if k = f then (k, v) :: r else (k, x) :: putF f v r) from rfl]
    by_cases hk : k = f
    · rw [if_pos hk, List.length_cons, List.length_cons]; omega
    · rw [if_neg hk, List.length_cons, List.length_cons]; omega
theorem RelO.some_of {v : V} {o : Option Value} (r : RelO (some v) o) : ∃ u, o = some u ∧ RelV v u := by
  cases o with
  | none => exact (show False from r).elim
  | some u => exact ⟨u, rfl, r⟩
theorem RelO.none_of {o : Option Value} (r : RelO none o) : o = none := by
  cases o with
  | none => rfl
  | some u => exact (show False from r).elim
theorem handed_of {v : V} {u : Value} (r : RelV v u) : PySem.W.handedIn u = true := by
  cases v with
  | non => cases (show u = Value.none from r); rfl
  | bl b => cases (show u = Value.bool b from r); rfl
  | int i => obtain ⟨t, e⟩ := (show ∃ t, u = Value.int i t from r); cases e; rfl
  | str x => obtain ⟨t, e⟩ := (show ∃ t, u = Value.str x t from r); cases e; rfl
  | byt b => obtain ⟨t, e⟩ := (show ∃ t, u = Value.bytes b t from r); cases e; rfl
  | flt b => obtain ⟨t, e⟩ := (show ∃ t, u = Value.float b t from r); cases e; rfl
  | ref a => cases (show u = Value.ref a from r); rfl
  | ty n => cases (show u = Value.type n from r); rfl
section
variable {P : Program} {w : World} {H H' : Hp} {h h' : Heap} {a C dx : Addr} {fs fs' : List (Str × V)}
theorem ins_get (hok : HOk P w H h) (e : H a = some (.ins C dx fs)) : ∃ mA, ObjM h a dx C mA ∧ (∀ f, RelO (fs.lookup f) (mA f)) ∧ PySem.Within mA (fs.map (·.1)) ∧ fs.length ≤ 1000 ∧ H dx = some (.own a) := by
  obtain ⟨d, z, ne, ob, mA, n, r, q⟩ := (show ObjOk P w H h a (.ins C dx fs) from hok a _ e)
  exact ⟨mA, ⟨ob, n, ne⟩, r, q, z, d⟩
end
structure Cls (K : PySem.W.Frag) (C : Addr) : Prop where
  pg : PySem.W.plainGet K C Str.empty = true
  hd : PySem.W.hasDictIn K C = true
  po : PySem.W.plainOver K C = true
  sa : PySem.W.findIn K (.ref C) "__setattr__" = some (some (.builtin "object.__setattr__"))
theorem Cls.get {K : PySem.W.Frag} {C : Addr} (c : Cls K C) (f : Str) : PySem.W.plainGet K C f = true := c.pg
def NoAttr (K : PySem.W.Frag) (C : Addr) (f : Str) : Prop := PySem.W.findIn K (.ref C) f = some none
theorem NoAttr.taker {K : PySem.W.Frag} {C : Addr} {f : Str} (n : NoAttr K C f) : PySem.W.takerIn K C f = some none := by
  unfold PySem.W.takerIn
  rw [show PySem.W.findIn K (.ref C) f = some none from n]
  rfl
structure Con (K : PySem.W.Frag) (C : Addr) (f : Str) (v : V) (u : Value) : Prop where
  at_ : PySem.W.findIn K (.ref C) f = some (some u)
  rel : RelV v u
  get : PySem.W.specialIn K u "__get__" = some none
  cp : PySem.W.copiedNames.contains f = false
structure Meth (K : PySem.W.Frag) (C : Addr) (m : Str) (f : Addr) : Prop where
  at_ : PySem.W.findIn K (.ref C) m = some (some (.ref f))
  fn : PySem.W.isFn K (.ref f) = true
  kp : PySem.W.keepIn K (.ref f) = true
section
variable {X : Cx} {pins : List (Addr × Obj)} {σ : St} {H : Hp} {s : Shared} {a C dx : Addr} {fs : List (Str × V)} {f : Str} {v : V} {A : Around} {E : Value → Shared → Prop}
theorem getattr_ok {b : Bool} {Q : Value → Shared → Prop} (I : Inv X pins σ H s) (e : H a = some (.ins C dx fs)) (c : Cls X.K C) (n : NoAttr X.K C f) (l : fs.lookup f = some v)
    (h : ∀ u s', Inv X pins σ H s' → RelV v u → Q u s') : wpAny (model X.prog X.w) A (getAttr (.ref a) f b) Q E s := by
  obtain ⟨mA, O, r, _, _, _⟩ := ins_get I.hok e
  obtain ⟨u, hu, ru⟩ := RelO.some_of (v := v) (o := mA f) (by rw [← l]; exact r f)
  exact get_map I.kIn O (c.get f) c.hd n hu (handed_of ru) (h u _ (I.tok _) ru)
theorem getmeth_ok {m : Str} {g : Addr} {pl : Sem Bool} {Q : Value × List Value → Shared → Prop} (I : Inv X pins σ H s) (e : H a = some (.ins C dx fs)) (c : Cls X.K C) (k : Meth X.K C m g) (l : fs.lookup m = none)
    (h : Q (.ref g, [.ref a]) s) : wpAny (model X.prog X.w) A (getMethod (.ref a) m pl) Q E s := by
  obtain ⟨mA, O, r, _, _, _⟩ := ins_get I.hok e
  have hn : mA m = none := RelO.none_of (by rw [← l]; exact r m)
  exact get_meth I.kIn O (c.get m) k.at_ k.fn hn h
theorem setattr_ok {y : V} {u : Value} {Q : Unit → Shared → Prop} (I : Inv X pins σ H s) (e : H a = some (.ins C dx fs)) (c : Cls X.K C) (n : NoAttr X.K C f) (hl : fs.length < 1000) (ry : RelV y u)
    (h : ∀ s', Inv X pins σ (upd H a (.ins C dx (putF f y fs))) s' → Q () s') : wpAny (model X.prog X.w) A (setAttr (.ref a) f u) Q E s := by
  obtain ⟨mA, O, r, wi, _, ho⟩ := ins_get I.hok e
  have hz : (fs.map (·.1)).length ≤ sizeLine := by rw [List.length_map, sizeLine_eq]; omega
  refine set_map I.kIn O c.sa c.po n.taker c.hd wi hz fun h' O' sb => h _ ?_
  have hd : ∃ o, h'.get? dx = some o := let ⟨o, _, _, e', _⟩ := O'.ns; ⟨o, e'⟩
  refine I.write (x := a) (e := dx) (by rw [e]; exact True.intro) (.inr ho) (fun b q hb z => (sb.2 b hb).trans z) hd ?_
  refine ⟨by rw [upd_ne O.ne]; exact ho, ?_, O.ne, O'.obj, _, O'.ns, fun g => ?_, fun g hg => ?_⟩
  · have := length_putF f y fs; omega
  · show RelO ((putF f y fs).lookup g) (if g = f then some u else mA g)
    rw [lookup_putF]
    by_cases q : g = f
    · rw [if_pos q, if_pos q]; exact ry
    · rw [if_neg q, if_neg q]; exact r g
  · by_cases q : g = f
    · rw [q]; exact (keys_putF f y fs).1
    · refine (keys_putF f y fs).2 g (wi g fun z => hg ?_)
      show (if g = f then some u else mA g) = none
      rw [if_neg q]; exact z
theorem Inv.made (I : Inv X pins σ H s) : Inv X pins σ (upd (upd H s.heap.objs.size (.own (s.heap.objs.size + 1))) (s.heap.objs.size + 1) (.ins C s.heap.objs.size []))
    { s with heap := (s.heap.push PySem.W.emptyDict).push (PySem.W.instObj C s.heap.objs.size) } := by
  have e1 : (s.heap.push PySem.W.emptyDict).get? s.heap.objs.size = some PySem.W.emptyDict := Heap.get?_push_size s.heap rfl
  have e2 : ((s.heap.push PySem.W.emptyDict).push (PySem.W.instObj C s.heap.objs.size)).get? (s.heap.objs.size + 1) = some (PySem.W.instObj C s.heap.objs.size) := by
    have := Heap.get?_push_size (s.heap.push PySem.W.emptyDict) (o := PySem.W.instObj C s.heap.objs.size) rfl
    rwa [Heap.size_push] at this
  have e3 : (s.heap.push PySem.W.emptyDict).Ns s.heap.objs.size (fun _ => none) := ⟨PySem.W.emptyDict, #[], _, e1, rfl, (fun e he => absurd he (by simp)), fun _ => rfl⟩
  have I1 := I.laid (a := s.heap.objs.size) (o := .own (s.heap.objs.size + 1)) (h' := s.heap.push PySem.W.emptyDict) (t' := s.toks) (fun b u q => Heap.get?_push_of_some _ q) (Nat.le_refl _) ⟨_, e1⟩
  refine I1.laid (a := s.heap.objs.size + 1) (o := .ins C s.heap.objs.size []) (t' := s.toks) (fun b u q => Heap.get?_push_of_some _ q) (Nat.le_of_eq (Heap.size_push _ _)) ?_
  have ne : s.heap.objs.size ≠ s.heap.objs.size + 1 := Nat.ne_of_lt (Nat.lt_succ_self _)
  refine ⟨by rw [upd_ne ne, upd_same], Nat.zero_le _, ne, e2, fun _ => none, (Heap.Ns1.of_empty e3).at fun o q => Heap.get?_push_of_some _ q, fun _ => True.intro, fun y hy => absurd rfl hy⟩
theorem attr_of {prog : Program} {w : World} {env : Env} {e : Expr} {f : Str} {pos : Pos} {s : Shared} {Q : Value → Shared → Prop} (hb : attributeBase e f env (eval e env) = eval e env)
    (h : wpAny (model prog w) A (eval e env) (fun o s₁ => wpAny (model prog w) A (getAttr o f true) Q E s₁) E s) : wpAny (model prog w) A (eval (.Attribute e f pos) env) Q E s :=
  Attribute_any_ h (by rw [arm_eval_Attribute, hb])
end
def tFld (K : PySem.W.Frag) (ta : TE) (f : Str) : TE := fun σ H Q => ta σ H fun x H1 => ∃ a C dx fs v, x = .ref a ∧ H1 a = some (.ins C dx fs) ∧ Cls K C ∧ NoAttr K C f ∧ fs.lookup f = some v ∧ Q v H1
def tCon (K : PySem.W.Frag) (ta : TE) (f : Str) : TE := fun σ H Q => ta σ H fun x H1 => ∃ a C dx fs v u, x = .ref a ∧ H1 a = some (.ins C dx fs) ∧ Cls K C ∧ Con K C f v u ∧ fs.lookup f = none ∧ Q v H1
def sFld (K : PySem.W.Frag) (ta tv : TE) (f : Str) : TS := fun D σ H => tv σ H fun y H1 => ta σ H1 fun x H2 => ∃ a C dx fs, x = .ref a ∧ H2 a = some (.ins C dx fs) ∧ Cls K C ∧ NoAttr K C f ∧ fs.length < 1000 ∧
  D.nx σ (upd H2 a (.ins C dx (putF f y fs)))
def InOp (X : Cx) (op : Operator) (rd : V → V → Hp → VK → Prop) : Prop :=
  ∀ (pins : List (Addr × Obj)) (s : Shared) (σ : St) (H : Hp) (x y : V) (u v : Value) (Q : VK), Inv X pins σ H s → RelV x u → RelV y v → rd x y H Q → wpAny (model X.prog X.w) X.A (inplaceOp op u v) (EP X pins σ Q) X.xe s
def sFldAug (K : PySem.W.Frag) (ta tv : TE) (rd : V → V → Hp → VK → Prop) (f : Str) : TS := fun D σ H => ta σ H fun x H1 => ∃ a C dx fs v, x = .ref a ∧ H1 a = some (.ins C dx fs) ∧ Cls K C ∧ NoAttr K C f ∧ fs.lookup f = some v ∧
  tv σ H1 fun y H2 => rd v y H2 fun z H3 => ∃ dx' fs', H3 a = some (.ins C dx' fs') ∧ fs'.length < 1000 ∧ D.nx σ (upd H3 a (.ins C dx' (putF f z fs')))
section
variable {X : Cx} {o e value : Expr} {f : Str} {pos pos' tpos : Pos} {ta tv : TE}
theorem pe_fld (he : PE X e ta) (hb : attributeBase e f X.env (eval e X.env) = eval e X.env) : PE X (.Attribute e f pos) (tFld X.K ta f) := by
  intro pins s σ H Q I h
  refine attr_of hb (thn (he pins s σ H _ I h) fun u s1 ⟨x, H1, I1, rx, a, C, dx, fs, v, ex, ea, c, n, l, q⟩ => ?_)
  subst ex
  obtain rfl : u = Value.ref a := rx
  exact getattr_ok I1 ea c n l fun u' s2 I2 ru => ⟨v, H1, I2, ru, q⟩
theorem ps_fld (ha : PE X o ta) (hv : PE X value tv) (hs : swapsWith value (some (.Attribute o f pos')) pos.line X.env = pure false) : PS X (.Assign [.Attribute o f pos'] value pos) (sFld X.K ta tv f) := by
  intro pins s σ H D I h
  refine plainObj_wpAny_Assign_Attribute (thn (hv pins s σ H _ I h) fun u s1 ⟨y, H1, I1, ry, q⟩ => thn (ha pins s1 σ H1 _ I1 q) fun ov s2 ⟨x, H2, I2, rx, a, C, dx, fs, ex, ea, c, n, l, q2⟩ => ?_) hs
  subst ex
  obtain rfl : ov = Value.ref a := rx
  exact setattr_ok I2 ea c n l ry fun s3 I3 => ⟨σ, _, I3, q2⟩
theorem ps_fldaug {op : Operator} {rd : V → V → Hp → VK → Prop} (ha : PE X o ta) (hv : PE X value tv) (hop : InOp X op rd) : PS X (.AugAssign (.Attribute o f tpos) op value pos) (sFldAug X.K ta tv rd f) := by
  intro pins s σ H D I h
  refine wpAny_AugAssign_AttributeAny (thn (ha pins s σ H _ I h) fun ov s1 ⟨x, H1, I1, rx, a, C, dx, fs, v, ex, ea, c, n, l, q⟩ => ?_)
  subst ex
  obtain rfl : ov = Value.ref a := rx
  refine getattr_ok I1 ea c n l fun u s2 I2 ru => thn (hv pins s2 σ H1 _ I2 q) fun w3 s3 ⟨y, H2, I3, ry, q3⟩ => thn (hop pins s3 σ H2 v y u w3 _ I3 ru ry q3) fun w4 s4 ⟨z, H3, I4, rz, dx', fs', ea', l', q4⟩ => ?_
  exact setattr_ok I4 ea' c n l' rz fun s5 I5 => ⟨σ, _, I5, q4⟩
def rAdd : V → V → Hp → VK → Prop := fun x y H Q => ∃ i j, x = .int i ∧ y = .int j ∧ Q (.int (i + j)) H
def rSub : V → V → Hp → VK → Prop := fun x y H Q => ∃ i j, x = .int i ∧ y = .int j ∧ Q (.int (i - j)) H
theorem in_add : InOp X .Add rAdd := by
  rintro pins s σ H x y u v Q I rx ry ⟨i, j, rfl, rfl, q⟩
  obtain ⟨t, rfl⟩ := (show ∃ t, u = Value.int i t from rx)
  obtain ⟨t', rfl⟩ := (show ∃ t', v = Value.int j t' from ry)
  exact PyProof.Rows.iadd_int ⟨.int (i + j), H, I.tok _, ⟨_, rfl⟩, q⟩
end
section
variable {X : Cx} {pins : List (Addr × Obj)} {σ : St} {H : Hp} {s : Shared} {A : Around} {E : Value → Shared → Prop} {Q : Value → Shared → Prop} {c : Value} {b : Bool}
inductive TyOf (K : PySem.W.Frag) (H : Hp) : V → Value → Prop where
  | non : TyOf K H .non (.type "NoneType")
  | bl (x : Bool) : TyOf K H (.bl x) (.type "bool")
  | int (i : Int) : TyOf K H (.int i) (.type "int")
  | str (x : Str) : TyOf K H (.str x) (.type "str")
  | flt (x : UInt64) : TyOf K H (.flt x) (.type "float")
  | lst {a : Addr} {xs : List V} (e : H a = some (.lst xs)) : TyOf K H (.ref a) (.type "list")
  | frz {a : Addr} {o : Obj} {xs : List V} (e : H a = some (.frz o (.lst xs))) : TyOf K H (.ref a) (.type "list")
  | tup {a : Addr} {xs : List V} (e : H a = some (.tup xs)) : TyOf K H (.ref a) (.type "tuple")
  | dK {a : Addr} {kvs : List (Key × V)} (e : H a = some (.dK kvs)) : TyOf K H (.ref a) (.type "dict")
  | dT {a : Addr} {kvs : List (List Key × V)} (e : H a = some (.dT kvs)) : TyOf K H (.ref a) (.type "dict")
  | ins {a C dx : Addr} {fs : List (Str × V)} (e : H a = some (.ins C dx fs)) (cl : Cls K C) (ha : PySem.W.findIn K (.ref C) "__class__" = some (some (.builtin "object.__class__")))
      (hn : PySem.W.specialIn K (.builtin "object.__class__") "__get__" = some (some (.builtin "getset_descriptor.__get__"))) (htk : PySem.W.takesIn K (.builtin "object.__class__") = some true)
      (hm : PySem.W.mroIn K C (.type "object") = some true) : TyOf K H (.ref a) (.ref C)
theorem isinst_ok {x : V} {u t : Value} (I : Inv X pins σ H s) (rx : RelV x u) (ty : TyOf X.K H x t) (e : PySem.W.kitOne X.K t c = some b) (h : ∀ tk, Q (.bool b) { s with toks := tk }) :
    wpAny (model X.prog X.w) A (call (.builtin "isinstance") [u, c]) Q E s := by
  cases ty with
  | non => cases (show u = Value.none from rx); exact PySem.W.kia_one PySem.W.kitx_none I.kIn True.intro e (fun z => nomatch z) h
  | bl y => cases (show u = Value.bool y from rx); exact PySem.W.kia_one PySem.W.kitx_bool I.kIn True.intro e (fun z => nomatch z) h
  | int i => obtain ⟨t, q⟩ := (show ∃ t, u = Value.int i t from rx); cases q; exact PySem.W.kia_one PySem.W.kitx_int I.kIn True.intro e (fun z => nomatch z) h
  | str y => obtain ⟨t, q⟩ := (show ∃ t, u = Value.str y t from rx); cases q; exact PySem.W.kia_one PySem.W.kitx_str I.kIn True.intro e (fun z => nomatch z) h
  | flt y => obtain ⟨t, q⟩ := (show ∃ t, u = Value.float y t from rx); cases q; exact PySem.W.kia_one PySem.W.kitx_float I.kIn True.intro e (fun z => nomatch z) h
  | @lst a xs ea =>
    cases (show u = Value.ref a from rx)
    obtain ⟨_, _, n, _, h1⟩ := (show ObjOk X.prog X.w H s.heap a (.lst xs) from I.hok a _ ea)
    exact PySem.W.kia_one PySem.W.kitx_list I.kIn ⟨_, h1, rfl⟩ e (fun z => nomatch z) h
  | @frz a ob xs ea =>
    cases (show u = Value.ref a from rx)
    obtain ⟨_, _, _, n, _, h1⟩ := (show ObjOk X.prog X.w H s.heap a (.frz ob (.lst xs)) from I.hok a _ ea)
    exact PySem.W.kia_one PySem.W.kitx_list I.kIn ⟨_, h1, rfl⟩ e (fun z => nomatch z) h
  | @tup a xs ea =>
    cases (show u = Value.ref a from rx)
    obtain ⟨_, _, _, p⟩ := (show ObjOk X.prog X.w H s.heap a (.tup xs) from I.hok a _ ea)
    obtain ⟨o, h1, h2, _⟩ := p
    exact PySem.W.kia_one PySem.W.kitx_tuple I.kIn ⟨o, h1, h2⟩ e (fun z => nomatch z) h
  | @dK a kvs ea =>
    cases (show u = Value.ref a from rx)
    obtain ⟨_, _, vs, _, p⟩ := (show ObjOk X.prog X.w H s.heap a (.dK kvs) from I.hok a _ ea)
    obtain ⟨o, es, ep, h1, h2, _⟩ := p
    exact PySem.W.kia_one PySem.W.kitx_dict I.kIn ⟨o, h1, h2.1⟩ e (fun z => nomatch z) h
  | @dT a kvs ea =>
    cases (show u = Value.ref a from rx)
    obtain ⟨_, _, xs, _, o, es, ep, h1, h2, _⟩ := (show ObjOk X.prog X.w H s.heap a (.dT kvs) from I.hok a _ ea)
    exact PySem.W.kia_one PySem.W.kitx_dict I.kIn ⟨o, h1, h2.1⟩ e (fun z => nomatch z) h
  | @ins a C dx fs ea cl ha hn htk hm =>
    cases (show u = Value.ref a from rx)
    obtain ⟨mA, O, _⟩ := ins_get I.hok ea
    obtain ⟨od, J, _⟩ := O.look
    exact PySem.W.kia_one (PySem.W.kitx_own (cl.get _) cl.hd ha hn htk hm) I.kIn J e (fun z => nomatch z) h
end
end L2
namespace L2
open PySem PySem.Spec PyProof.Rows
structure Room (k : Nat) (A : Around) : Prop where
  hd : A.handled = none
  dp : A.depth + 3 * k + 5 < recursionLimit
  un : A.units + 16 * k + 200 < cLine
theorem Room.mono {j k : Nat} {A : Around} (r : Room k A) (h : j ≤ k) : Room j A := ⟨r.hd, by have := r.dp; omega, by have := r.un; omega⟩
theorem Room.deeper {k : Nat} {A : Around} (r : Room (k + 1) A) (env : Env) : Room k (A.deeper env) :=
  ⟨r.hd, by have := r.dp; show A.depth + 1 + 3 * k + 5 < _; omega, by have := r.un; show A.units + 3 + 16 * k + 200 < _; omega⟩
theorem Room.in1 {k : Nat} {A : Around} (r : Room (k + 1) A) : Room k A.in1 :=
  ⟨r.hd, by have := r.dp; show A.depth + 3 * k + 5 < _; omega, by have := r.un; show A.units + 1 + 16 * k + 200 < _; omega⟩
theorem make_depth {A : Around} {C : Addr} {us : List Value} {kw : List (Str × Value)} : (A.under (.builtin "type.__call__" ⟨.ref C :: us, kw⟩)).depth = A.depth + 1 := by
  first | rfl | simp [Around.under, Code.weight, Code.isCreation, Code.isGuard, Code.isCaller, Code.frames, Code.isFrame, guardIds]
theorem make_units {A : Around} {C : Addr} {us : List Value} {kw : List (Str × Value)} : (A.under (.builtin "type.__call__" ⟨.ref C :: us, kw⟩)).units = A.units + 1 := by
  first | rfl | simp [Around.under, Code.cUnits, Code.frames, Code.isFrame]
theorem Room.make {k : Nat} {A : Around} (r : Room (k + 1) A) (C : Addr) (us : List Value) (kw : List (Str × Value)) : Room k (A.under (.builtin "type.__call__" ⟨.ref C :: us, kw⟩)) :=
  ⟨r.hd, by have := r.dp; rw [make_depth]; omega, by have := r.un; rw [make_units]; omega⟩
theorem Room.depth {k : Nat} {A : Around} (r : Room k A) : A.depth < recursionLimit := by have := r.dp; omega
theorem Room.units {k : Nat} {A : Around} (r : Room k A) : A.units + 64 < cLine := by have := r.un; omega
def tNil : TA := fun _ H Q => Q [] H
def tCons (ta : TE) (tr : TA) : TA := fun σ H Q => ta σ H fun x H1 => tr σ H1 fun xs H2 => Q (x :: xs) H2
section
variable {X : Cx} {e : Expr} {es : List Expr} {te : TE} {t : TA} {pos : Pos}
theorem pa_nil : PA X [] tNil := fun _ _ _ _ H Q I h => Calls.spliced_nil ⟨[], H, I, .nil, h⟩
theorem pa_cons (ha : PE X e te) (hr : PA X es t) (hs : starEach (e :: es) X.env = (false, eval e X.env) :: starEach es X.env := by rfl) : PA X (e :: es) (tCons te t) := by
  intro pos pins s σ H Q I h
  rw [hs]
  show wpAny _ _ (spliced ((false, eval e X.env) :: backTo pos (starEach es X.env))) _ _ s
  refine Calls.spliced_cons (thn (ha pins s σ H _ I h) fun u s1 ⟨x, H1, I1, r1, q1⟩ => ?_)
  exact thn (hr pos pins s1 σ H1 _ I1 q1) fun us s2 ⟨xs, H2, I2, r2, q2⟩ => ⟨x :: xs, H2, I2, .cons r1 r2, q2⟩
def tTup (t : TA) : TE := fun σ H Q => t σ H fun xs H1 => xs.length ≤ sizeLine ∧ ∀ p, H1 p = none → Q (.ref p) (upd H1 p (.tup xs))
def tLst (t : TA) : TE := fun σ H Q => t σ H fun xs H1 => xs.length ≤ sizeLine ∧ ∀ p, H1 p = none → Q (.ref p) (upd H1 p (.lst xs))
theorem pe_tup {x1} (h : PA X es t) : PE X (.Tuple es x1 pos) (tTup t) := by
  intro pins s σ H Q I hq
  refine wpAny_Tuple_spliced (thn (h pos pins s σ H _ I hq) fun us s1 ⟨xs, H1, I1, r, z, q⟩ => ⟨by rw [← r.length]; exact z, ?_⟩)
  have hf : H1 s1.heap.objs.size = none := I1.hok.fresh (Nat.le_refl _)
  refine ⟨.ref s1.heap.objs.size, upd H1 s1.heap.objs.size (.tup xs), I1.laid (t' := s1.toks) (fun b u e => Heap.get?_push_of_some _ e) (Nat.le_refl _) ?_, rfl, q _ hf⟩
  exact ⟨z, us, r, ⟨_, Heap.get?_push_size _ rfl, rfl, _, rfl⟩⟩
theorem pe_lst (h : PA X es t) : PE X (.List es pos) (tLst t) := by
  intro pins s σ H Q I hq
  refine wpAny_List_spliced (thn (h pos pins s σ H _ I hq) fun us s1 ⟨xs, H1, I1, r, z, q⟩ => ⟨by rw [← r.length]; exact z, ?_⟩)
  have hf : H1 s1.heap.objs.size = none := I1.hok.fresh (Nat.le_refl _)
  refine ⟨.ref s1.heap.objs.size, upd H1 s1.heap.objs.size (.lst xs), I1.laid (t' := s1.toks) (fun b u e => Heap.get?_push_of_some _ e) (Nat.le_refl _) ?_, rfl, q _ hf⟩
  exact ⟨z, us, 0, r, Heap.get?_push_size _ rfl⟩
end
abbrev Sp := List V → Hp → VK → XK → Prop
abbrev CXT := List Env → Hp → Shared → XK → Value → Shared → Prop
structure Env0 (P : Program) (w : World) (K : PySem.W.Frag) (mg : Str → Option Value) (base : Heap) (A : Around) (outer : List Env) (s : Shared) (H : Hp) : Prop where
  frames : A.frames = some outer
  mod : Mod K mg base
  bs : ∀ b o, base.get? b = some o → s.heap.get? b = some o ∧ H b = none
  bsz : base.objs.size ≤ s.heap.objs.size
  funs : s.heap.FunFrames base outer
  frf : ∀ b ∈ frs outer, H b = none
  hok : HOk P w H s.heap
  bare : AllBare s.gens
def CE (outer : List Env) (P : Program) (w : World) (H : Hp) (s : Shared) (Q : VK) (u : Value) (s' : Shared) : Prop :=
  ∃ v H', s'.os = s.os ∧ AllBare s'.gens ∧ Un (frs outer) [] H H' s.heap s'.heap ∧ HOk P w H' s'.heap ∧ RelV v u ∧ Q v H'
def CR (CX : CXT) (outer : List Env) (P : Program) (w : World) (H : Hp) (s : Shared) (Q : VK) (E : XK) (r : Result) (s' : Shared) : Prop :=
  match r with
  | .ok (.ret u) => CE outer P w H s Q u s'
  | .ok _ => False
  | .error e => CX outer H s E e s'
structure FnOk (P : Program) (w : World) (K : PySem.W.Frag) (mg : Str → Option Value) (base : Heap) (CX : CXT) (k : Nat) (f : Addr) (fd : FuncData) (ps : List Str) (sp : Sp) : Prop where
  len : ∀ vs H Q E, sp vs H Q E → vs.length = ps.length
  run : ∀ (A : Around) (outer : List Env) (s : Shared) (H : Hp) (args : Args) (us : List Value) (vs : List V) (Q : VK) (E : XK), Room k A → Env0 P w K mg base A outer s H → BindsTo s fd args (ps.zip us) → Vals vs us → sp vs H Q E →
    codeAny (model P w) A (.call (.ref f) args) (CR CX outer P w H s Q E) s
theorem FnOk.mono {P : Program} {w : World} {K : PySem.W.Frag} {mg : Str → Option Value} {base : Heap} {CX : CXT} {j k : Nat} {f : Addr} {fd : FuncData} {ps : List Str} {sp : Sp} (F : FnOk P w K mg base CX j f fd ps sp) (h : j ≤ k) :
    FnOk P w K mg base CX k f fd ps sp := ⟨F.len, fun A outer s H args us vs Q E hr => F.run A outer s H args us vs Q E (hr.mono h)⟩
theorem FnOk.imp {P : Program} {w : World} {K : PySem.W.Frag} {mg : Str → Option Value} {base : Heap} {CX : CXT} {k : Nat} {f : Addr} {fd : FuncData} {ps : List Str} {sp sp' : Sp} (F : FnOk P w K mg base CX k f fd ps sp)
    (h : ∀ vs H Q E, sp' vs H Q E → sp vs H Q E) : FnOk P w K mg base CX k f fd ps sp' :=
  ⟨fun vs H Q E q => F.len vs H Q E (h _ _ _ _ q), fun A outer s H args us vs Q E hr he hb hv hs => F.run A outer s H args us vs Q E hr he hb hv (h _ _ _ _ hs)⟩
theorem Env0.make {P : Program} {w : World} {K : PySem.W.Frag} {mg : Str → Option Value} {base : Heap} {A : Around} {outer : List Env} {s : Shared} {H : Hp} (e : Env0 P w K mg base A outer s H) (C : Addr) (us : List Value) (kw : List (Str × Value)) :
    Env0 P w K mg base (A.under (.builtin "type.__call__" ⟨.ref C :: us, kw⟩)) outer s H := ⟨by first | exact e.frames | (simpa [Around.under, Code.envs, Code.isFrame, pushEnvs] using e.frames), e.mod, e.bs, e.bsz, e.funs, e.frf, e.hok, e.bare⟩
theorem Env0.in1 {P : Program} {w : World} {K : PySem.W.Frag} {mg : Str → Option Value} {base : Heap} {A : Around} {outer : List Env} {s : Shared} {H : Hp} (e : Env0 P w K mg base A outer s H) :
    Env0 P w K mg base A.in1 outer s H := ⟨e.frames, e.mod, e.bs, e.bsz, e.funs, e.frf, e.hok, e.bare⟩
section
variable {X : Cx} {pins : List (Addr × Obj)} {σ : St} {H : Hp} {s s' : Shared}
theorem Inv.env0 (I : Inv X pins σ H s) : Env0 X.prog X.w X.K X.mg X.base X.A X.stack s H :=
  ⟨I.ok.frames, I.ok.mod, I.bs, Nat.le_trans I.ok.bsz I.sz, I.stack, I.stkFree, I.hok, I.bare⟩
theorem Inv.after {Q : VK} {u : Value} (I : Inv X pins σ H s) (h : CE X.stack X.prog X.w H s Q u s') : EP X pins σ Q u s' := by
  obtain ⟨v, H', os, bare, un, hok, r, q⟩ := h
  obtain ⟨hh, g, d, t, os'⟩ := s'
  obtain rfl : os' = s.os := os
  exact ⟨v, H', I.call (h' := hh) (g' := g) (d' := d) (t' := t) (ch := []) un hok bare (fun b z => absurd z (by simp)), r, q⟩
end
def tCall (sp : Sp) (dvs : List V) (E : XK) (t : TA) : TE := fun σ H Q => t σ H fun vs H1 => sp (vs ++ dvs) H1 Q E
def tMeth (C : Addr) (m : Str) (sp : Sp) (dvs : List V) (E : XK) (ta : TE) (t : TA) : TE := fun σ H Q => ta σ H fun x H1 => ∃ a dx fs, x = .ref a ∧ H1 a = some (.ins C dx fs) ∧ fs.lookup m = none ∧
  t σ H1 fun vs H2 => sp (x :: (vs ++ dvs)) H2 Q E
def tMake (C : Addr) (sp : Sp) (dvs : List V) (E : XK) (t : TA) : TE := fun σ H Q => t σ H fun vs H1 => ∀ x dx, H1 x = none → H1 dx = none → dx ≠ x →
  sp (.ref x :: (vs ++ dvs)) (upd (upd H1 dx (.own x)) x (.ins C dx [])) (fun v H2 => v = .non ∧ Q (.ref x) H2) E
def Binds (K : PySem.W.Frag) (fd : FuncData) (ps : List Str) (ds : List Value) : Prop :=
  ∀ (s : Shared) (us : List Value), K.In s.heap → (us ++ ds).length = ps.length → BindsTo s fd ⟨us, []⟩ (ps.zip (us ++ ds))
theorem Binds.all {K : PySem.W.Frag} {fd : FuncData} {ps : List Str} (h : ∀ us : List Value, us.length = ps.length → bindArgs fd ⟨us, []⟩ = pure (ps.zip us)) : Binds K fd ps [] := fun s us _ hl => by
  rw [List.append_nil] at hl ⊢
  exact .of_eq (h us hl)
def Passes (CX : CXT) (X : Cx) (E : XK) : Prop := ∀ (pins : List (Addr × Obj)) (σ : St) (H : Hp) (s : Shared) (e : Value) (s' : Shared), Inv X pins σ H s → CX X.stack H s E e s' → X.xe e s'
section
variable {X : Cx} {CX : CXT} {k : Nat} {f C : Addr} {fd : FuncData} {ps : List Str} {sp : Sp} {dvs : List V} {ds : List Value} {E : XK} {x m : Str} {p pos apos : Pos} {e o : Expr} {es : List Expr} {ta : TE} {t : TA}
theorem run_fn {pins : List (Addr × Obj)} {σ : St} {H : Hp} {s : Shared} {Q : VK} {us : List Value} {vs : List V} (F : FnOk X.prog X.w X.K X.mg X.base CX k f fd ps sp) (hr : Room k X.A) (hb : Binds X.K fd ps ds) (hd : Vals dvs ds) (hx : Passes CX X E)
    (I : Inv X pins σ H s) (r : Vals vs us) (h : sp (vs ++ dvs) H Q E) : wpAny (model X.prog X.w) X.A (call (.ref f) us) (EP X pins σ Q) X.xe s := by
  have r2 : Vals (vs ++ dvs) (us ++ ds) := r.append hd
  have hl : (us ++ ds).length = ps.length := by rw [← r2.length]; exact F.len _ _ _ _ h
  refine wpAny_call (codeAny_mono (F.run X.A X.stack s H ⟨us, []⟩ (us ++ ds) (vs ++ dvs) Q E hr I.env0 (hb s us I.kIn hl) r2 h) fun r s' hq => ?_)
  cases r with
  | error e => exact hx pins σ H s e s' I hq
  | ok fl =>
    cases fl with
    | ret u => exact I.after hq
    | next => exact False.elim hq
    | brk => exact False.elim hq
    | cont => exact False.elim hq
theorem pe_call (F : FnOk X.prog X.w X.K X.mg X.base CX k f fd ps sp) (hr : Room k X.A) (hg : Gl X x) (hm : X.mg x = some (.ref f)) (hk : PySem.W.keepIn X.K (.ref f) = true) (hb : Binds X.K fd ps ds) (hd : Vals dvs ds) (hx : Passes CX X E)
    (ha : PA X (e :: es) t) (hdb : (x == ("__debug__" : Str)) = false := by decide) (he : starEach (e :: es) X.env = (false, eval e X.env) :: starEach es X.env := by rfl) (hpl : (backTo pos (starEach es X.env)).any (·.1) = false := by rfl) :
    PE X (.Call (.Name x p) (e :: es) [] pos) (tCall sp dvs E t) := by
  intro pins s σ H Q I h
  refine wpAny_Call_Name_kw (ld_glob I hg hm ?_ hdb)
  refine PySem.W.callWith_K (h₀ := X.base) I.ok.mod.kin hk (thn (ha pos pins s σ H _ I h) fun us s1 ⟨vs, H1, I1, r, q⟩ => ⟨I1.kIn, ?_⟩) he hpl
  exact run_fn F hr hb hd hx I1 r q
theorem pe_meth {pl : Sem Bool} (he : PE X o ta) (c : Cls X.K C) (hm : Meth X.K C m f) (F : FnOk X.prog X.w X.K X.mg X.base CX k f fd ps sp) (hr : Room k X.A) (hb : Binds X.K fd ps ds) (hd : Vals dvs ds) (hx : Passes CX X E) (ha : PA X (e :: es) t)
    (hst : starEach (e :: es) X.env = (false, eval e X.env) :: starEach es X.env := by rfl) (hpl : (backTo pos (starEach es X.env)).any (·.1) = false := by rfl)
    (ht : eval (.Call (.Attribute o m apos) (e :: es) [] pos) X.env = (do
      let ov ← eval o X.env
      standAt apos.atName
      let (f, first) ← holding [ov] (getMethod ov m pl)
      callWith pos f first (backTo pos (starEach (e :: es) X.env)) (backToKw pos (keywordEach [] X.env))) := by rfl) :
    PE X (.Call (.Attribute o m apos) (e :: es) [] pos) (tMeth C m sp dvs E ta t) := by
  intro pins s σ H Q I h
  refine PySem.W.methodCall_KW (pl := pl) (thn (he pins s σ H _ I h) fun u s1 ⟨x, H1, I1, rx, a, dx, fs, ex, ea, l, q⟩ => ?_) ht
  subst ex
  obtain rfl : u = Value.ref a := rx
  refine getmeth_ok I1 ea c hm l ?_
  refine PySem.W.callWith_K (first := [.ref a]) (h₀ := X.base) I.ok.mod.kin hm.kp (thn (ha pos pins s1 σ H1 _ I1 q) fun us s2 ⟨vs, H2, I2, r, q2⟩ => ⟨I2.kIn, ?_⟩) hst hpl
  exact run_fn (us := .ref a :: us) (vs := .ref a :: vs) F hr hb hd hx I2 (.cons rfl r) q2
theorem pe_meth0 {pl : Sem Bool} (he : PE X o ta) (c : Cls X.K C) (hm : Meth X.K C m f) (F : FnOk X.prog X.w X.K X.mg X.base CX k f fd ps sp) (hr : Room k X.A) (hb : Binds X.K fd ps ds) (hd : Vals dvs ds) (hx : Passes CX X E)
    (ht : eval (.Call (.Attribute o m apos) [] [] pos) X.env = (do
      let ov ← eval o X.env
      standAt apos.atName
      let (f, first) ← holding [ov] (getMethod ov m pl)
      callWith pos f first (backTo pos (starEach [] X.env)) (backToKw pos (keywordEach [] X.env))) := by rfl) :
    PE X (.Call (.Attribute o m apos) [] [] pos) (tMeth C m sp dvs E ta tNil) := by
  intro pins s σ H Q I h
  refine PySem.W.methodCall_KW (pl := pl) (thn (he pins s σ H _ I h) fun u s1 ⟨x, H1, I1, rx, a, dx, fs, ex, ea, l, q⟩ => ?_) ht
  subst ex
  obtain rfl : u = Value.ref a := rx
  refine getmeth_ok I1 ea c hm l ?_
  exact PySem.W.callWith_K0 (first := [.ref a]) I1.kIn hm.kp (run_fn (us := [.ref a]) (vs := [.ref a]) F hr hb hd hx I1 (.cons rfl .nil) q)
structure Mk (K : PySem.W.Frag) (C f : Addr) : Prop where
  makes : PySem.W.makesIn K C = true
  init : PySem.W.findIn K (.ref C) "__init__" = some (some (.ref f))
  fn : PySem.W.isFn K (.ref f) = true
  kp : PySem.W.keepIn K (.ref C) = true
theorem run_make {pins : List (Addr × Obj)} {σ : St} {H : Hp} {s : Shared} {Q : VK} {us : List Value} {vs : List V} (M : Mk X.K C f) (F : FnOk X.prog X.w X.K X.mg X.base CX k f fd ps sp) (hr : Room (k + 1) X.A) (hb : Binds X.K fd ps ds) (hd : Vals dvs ds)
    (hx : Passes CX X E) (I : Inv X pins σ H s) (r : Vals vs us)
    (h : ∀ x dx, H x = none → H dx = none → dx ≠ x → sp (.ref x :: (vs ++ dvs)) (upd (upd H dx (.own x)) x (.ins C dx [])) (fun v H2 => v = .non ∧ Q (.ref x) H2) E) :
    wpAny (model X.prog X.w) X.A (call (.ref C) us) (EP X pins σ Q) X.xe s := by
  have hq := h (s.heap.objs.size + 1) s.heap.objs.size (I.hok.fresh (Nat.le_succ _)) (I.hok.fresh (Nat.le_refl _)) (Nat.ne_of_lt (Nat.lt_succ_self _))
  have I2 := Inv.made (C := C) I
  have r2 : Vals (V.ref (s.heap.objs.size + 1) :: (vs ++ dvs)) (Value.ref (s.heap.objs.size + 1) :: (us ++ ds)) := .cons rfl (r.append hd)
  have hl : (Value.ref (s.heap.objs.size + 1) :: us ++ ds).length = ps.length := by
    have e := r2.length
    rw [F.len _ _ _ _ hq] at e
    exact e.symm
  refine wpAny_call (make_map (f := f) I.kIn M.makes M.init (beq_iff_eq.mp M.fn) (codeAny_mono (F.run _ X.stack _ _ ⟨Value.ref (s.heap.objs.size + 1) :: us, []⟩ (Value.ref (s.heap.objs.size + 1) :: (us ++ ds)) _ _ E (hr.make C us [])
    (I2.env0.make C us []) (hb _ (Value.ref (s.heap.objs.size + 1) :: us) I2.kIn hl) r2 hq) fun r s' hq' => ?_))
  cases r with
  | error e => exact hx pins σ _ _ e s' I2 hq'
  | ok fl =>
    cases fl with
    | ret u =>
      obtain ⟨v, H', I3, rv, ev, q3⟩ := I2.after hq'
      subst ev
      exact ⟨rv, ⟨V.ref (s.heap.objs.size + 1), H', I3, rfl, q3⟩⟩
    | next => exact False.elim hq'
    | brk => exact False.elim hq'
    | cont => exact False.elim hq'
theorem pe_make (M : Mk X.K C f) (F : FnOk X.prog X.w X.K X.mg X.base CX k f fd ps sp) (hr : Room (k + 1) X.A) (hg : Gl X x) (hm : X.mg x = some (.ref C)) (hb : Binds X.K fd ps ds) (hd : Vals dvs ds) (hx : Passes CX X E)
    (ha : PA X (e :: es) t) (hdb : (x == ("__debug__" : Str)) = false := by decide) (he : starEach (e :: es) X.env = (false, eval e X.env) :: starEach es X.env := by rfl) (hpl : (backTo pos (starEach es X.env)).any (·.1) = false := by rfl) :
    PE X (.Call (.Name x p) (e :: es) [] pos) (tMake C sp dvs E t) := by
  intro pins s σ H Q I h
  refine wpAny_Call_Name_kw (ld_glob I hg hm ?_ hdb)
  refine PySem.W.callWith_K (h₀ := X.base) I.ok.mod.kin M.kp (thn (ha pos pins s σ H _ I h) fun us s1 ⟨vs, H1, I1, r, q⟩ => ⟨I1.kIn, ?_⟩) he hpl
  exact run_make M F hr hb hd hx I1 r q
end
section
variable {X : Cx} {CX : CXT} {k : Nat} {f C : Addr} {fd : FuncData} {ps ks : List Str} {sp : Sp} {E : XK} {x m : Str} {p pos apos kpos : Pos} {e o : Expr} {es : List Expr} {kws : List Keyword} {te ta : TE} {t tk : TA} {nm : Option Str}
structure KBinds (K : PySem.W.Frag) (fd : FuncData) (ps ks : List Str) (g : List Value → List Value → List Value) (gV : List V → List V → List V) : Prop where
  to : ∀ (s : Shared) (us ws : List Value), K.In s.heap → (g us ws).length = ps.length → BindsTo s fd ⟨us, ks.zip ws⟩ (ps.zip (g us ws))
  rel : ∀ {vs : List V} {us : List Value} {zs : List V} {ws : List Value}, Vals vs us → Vals zs ws → Vals (gV vs zs) (g us ws)
def tCallK (sp : Sp) (gV : List V → List V → List V) (E : XK) (t tk : TA) : TE := fun σ H Q => t σ H fun vs H1 => tk σ H1 fun zs H2 => sp (gV vs zs) H2 Q E
variable {g : List Value → List Value → List Value} {gV : List V → List V → List V}
end
structure FnScope (N P : List Str) (sc : Scope) : Prop where
  kind : sc.kind = .function
  co : sc.isCoroutine = false
  gen : sc.isGenerator = false
  nd : N.Nodup
  pre : N.take P.length = P
  par : ∀ x ∈ P, sc.names.lookup x = some .local ∨ sc.names.lookup x = some .cell
  nofree : ∀ y ∈ sc.names, y.2 ≠ .free
theorem bindL_out {kindOf : Str → Option NameKind} {x : Str} : ∀ {binds : List (Str × Value)} {m : Str → Option Value}, (∀ v, (x, v) ∉ binds) → bindL kindOf binds m x = m x
  | [], _, _ => rfl
  | (n, v) :: r, m, h => by
    unfold bindL
    rw [bindL_out fun w hw => h w (List.mem_cons_of_mem _ hw)]
    split
    · have : x ≠ n := by rintro rfl; exact h v List.mem_cons_self
      simp [this]
    · rfl
theorem bindC_out {kindOf : Str → Option NameKind} {x : Str} : ∀ {binds : List (Str × Value)} {m : Str → Option Value}, (∀ v, (x, v) ∉ binds) → bindC kindOf binds m x = m x
  | [], _, _ => rfl
  | (n, v) :: r, m, h => by
    unfold bindC
    rw [bindC_out fun w hw => h w (List.mem_cons_of_mem _ hw)]
    split
    · rfl
    · have : x ≠ n := by rintro rfl; exact h v List.mem_cons_self
      simp [this]
theorem bindL_get {kindOf : Str → Option NameKind} {x : Str} {v : Value} : ∀ {P : List Str} {vs : List Value} {i : Nat} {m : Str → Option Value}, P.Nodup → P[i]? = some x → vs[i]? = some v → kindOf x = some .local →
    bindL kindOf (P.zip vs) m x = some v
  | [], _, _, _, _, h, _, _ => by simp at h
  | _ :: _, [], _, _, _, _, h, _ => by simp at h
  | p :: P, w :: vs, 0, m, nd, h1, h2, hk => by
    simp at h1 h2; subst h1; subst h2
    show bindL kindOf ((p, w) :: P.zip vs) m p = _
    unfold bindL
    rw [bindL_out fun v hv => (List.nodup_cons.mp nd).1 (List.of_mem_zip hv).1, if_pos hk]
    simp
  | p :: P, w :: vs, i + 1, m, nd, h1, h2, hk => by
    show bindL kindOf ((p, w) :: P.zip vs) m x = _
    unfold bindL
    exact bindL_get (i := i) (List.nodup_cons.mp nd).2 (by simpa using h1) (by simpa using h2) hk
theorem bindC_get {kindOf : Str → Option NameKind} {x : Str} {v : Value} : ∀ {P : List Str} {vs : List Value} {i : Nat} {m : Str → Option Value}, P.Nodup → P[i]? = some x → vs[i]? = some v → kindOf x ≠ some .local →
    bindC kindOf (P.zip vs) m x = some v
  | [], _, _, _, _, h, _, _ => by simp at h
  | _ :: _, [], _, _, _, _, h, _ => by simp at h
  | p :: P, w :: vs, 0, m, nd, h1, h2, hk => by
    simp at h1 h2; subst h1; subst h2
    show bindC kindOf ((p, w) :: P.zip vs) m p = _
    unfold bindC
    rw [bindC_out fun v hv => (List.nodup_cons.mp nd).1 (List.of_mem_zip hv).1, if_neg hk]
    simp
  | p :: P, w :: vs, i + 1, m, nd, h1, h2, hk => by
    show bindC kindOf ((p, w) :: P.zip vs) m x = _
    unfold bindC
    exact bindC_get (i := i) (List.nodup_cons.mp nd).2 (by simpa using h1) (by simpa using h2) hk
def start (N : List Str) (vs : List V) : St := vs.map some ++ List.replicate (N.length - vs.length) none
def cxOf (CX : CXT) (P : Program) (w : World) (K : PySem.W.Frag) (mg : Str → Option Value) (base : Heap) (N : List Str) (qual : Str) (scope : Scope) (f : Addr) (cd : Value) (A : Around) (outer : List Env) (s : Shared) (H : Hp) (E : XK) : Cx where
  prog := P
  w := w
  K := K
  mg := mg
  base := base
  A := A.deeper (envOfC qual scope s.heap.objs.size f cd)
  N := N
  s₀ := s
  H₀ := H
  env := envOfC qual scope s.heap.objs.size f cd
  outer := outer
  stack := envOfC qual scope s.heap.objs.size f cd :: outer
  ex := []
  calm := true
  fn := fun _ => true
  pn := []
  xe := fun e s' => wpAny (model P w) (A.deeper (envOfC qual scope s.heap.objs.size f cd)) (leaving (envOfC qual scope s.heap.objs.size f cd) e) (fun _ s'' => CX outer H s E e s'') (fun e' s'' => CX outer H s E e' s'') s'
theorem cell_has {sc : Scope} {n : Nat} {x : Str} (h : sc.names.lookup x = some .cell) : ∃ c, (cellsFrom n sc.names []).lookup x = some c := by
  have q := PySem.W.cellsFrom_some sc.names n [] (.inl h)
  exact Option.isSome_iff_exists.mp q
theorem inv_start {CX : CXT} {P : Program} {w : World} {K : PySem.W.Frag} {mg : Str → Option Value} {base : Heap} {N ps : List Str} {qual : Str} {scope : Scope} {f : Addr} {cd : Value} {A : Around} {outer : List Env} {s s1 : Shared} {H : Hp} {E : XK} {us : List Value} {vs : List V}
    (S : FnScope N ps scope) (hd : A.handled = none) (e0 : Env0 P w K mg base A outer s H) (hl : vs.length = ps.length) (r : Vals vs us)
    (x : InCallC s s.heap.objs.size (bindL (envOfC qual scope s.heap.objs.size f cd).kindOf (ps.zip us) fun _ => none) (cellsFrom (s.heap.objs.size + 1) scope.names []) (bindC (envOfC qual scope s.heap.objs.size f cd).kindOf (ps.zip us) fun _ => none) s1) :
    Inv (cxOf CX P w K mg base N qual scope f cd A outer s H E) [] (start N vs) H s1 := by
  have hpl : ps.length ≤ N.length := by have := congrArg List.length S.pre; rw [List.length_take] at this; omega
  obtain ⟨h1, tk, rfl, hk⟩ := x.done
  have noA : ∀ b : Addr, b ∉ (cxOf CX P w K mg base N qual scope f cd A outer s H E).ex := fun b z => absurd (show b ∈ ([] : List Addr) from z) (by simp)
  refine ⟨⟨e0.mod, S.kind, rfl, rfl, Nat.le_refl _, fun y z c h1 h2 => ?_, fun y hy => ?_, fun y c _ h => ?_, fun _ => hd, Around.frames_deeper e0.frames, .inr ⟨rfl, rfl⟩, fun b z => absurd z (noA b), e0.bs, e0.bsz, fun b _ _ => noA b, fun b z => absurd z (noA b), e0.funs, e0.frf⟩,
    rfl, e0.bare, Un.kept hk, ⟨_, x.toInCall.ns, fun i y v h1 h2 h3 => ?_⟩, fun y c h => ⟨_, x.cell y c h⟩, e0.hok.fresh (Nat.le_refl _), fun y c h => ?_, fun p hp => absurd (show p ∈ ([] : List (Addr × Obj)) from hp) (by simp), e0.hok.kept hk, ?_⟩
  · exact name_of_addr x.apart (PySem.mem_of_lookup h1) (PySem.mem_of_lookup h2)
  · have hy : scope.names.lookup y = some .cell ∨ scope.names.lookup y = some .free := hy
    rcases hy with hy | hy
    · exact cell_has hy
    · exact absurd rfl (S.nofree _ (PySem.mem_of_lookup hy))
  · exact Nat.le_of_lt (x.above y c (PySem.mem_of_lookup h))
  · have hi : i < vs.length := by
      unfold start at h2
      by_cases hi : i < vs.length
      · exact hi
      · rw [List.getElem?_append_right (by simpa using hi)] at h2
        rw [List.getElem?_replicate] at h2
        split at h2 <;> cases h2
    have ha : vs[i]? = some v := by
      unfold start at h2
      rw [List.getElem?_append_left (by simpa using hi), List.getElem?_map] at h2
      cases e : vs[i]? with
      | none => rw [e] at h2; cases h2
      | some a => rw [e] at h2; cases h2; rfl
    obtain ⟨u, hu, rv⟩ := r.get ha
    have hp : ps[i]? = some y := by
      rw [← S.pre, List.getElem?_take_of_lt (by omega)]; exact h1
    have ndP : ps.Nodup := by rw [← S.pre]; exact S.nd.sublist (List.take_sublist _ _)
    refine ⟨u, rv, ?_⟩
    rcases S.par y (List.mem_of_getElem? hp) with k | k
    · exact .inl ⟨k, bindL_get ndP hp hu k⟩
    · obtain ⟨c, e⟩ := cell_has (n := s.heap.objs.size + 1) k
      refine .inr ⟨.inl k, c, e, ?_⟩
      have q := x.cell y c e
      rw [bindC_get ndP hp hu (by show scope.names.lookup y ≠ _; rw [k]; decide)] at q
      exact q
  · exact e0.hok.fresh (Nat.le_of_lt (x.above y c (PySem.mem_of_lookup h)))
  · unfold start
    show _ = N.length
    rw [List.length_append, List.length_map, List.length_replicate]
    omega
theorem fn_of {CX : CXT} {P : Program} {w : World} {K : PySem.W.Frag} {mg : Str → Option Value} {base : Heap} {k : Nat} {f : Addr} {name qual : Str} {params : Arguments} {body : List Stmt} {scope : Scope} {dV kV doc pm cdv ct oc : Value} {an od : Option Addr}
    {osl : Array (Option Value)} {N ps : List Str} {sp : Sp} (lk : K.lookup f = some ⟨oc, od, .func (PySem.W.fnOf name qual params body scope dV kV doc pm an cdv ct), osl⟩) (hcd : PySem.W.codeIn K cdv qual = true) (S : FnScope N ps scope)
    (len : ∀ vs H Q E, sp vs H Q E → vs.length = ps.length)
    (hbody : ∀ (A : Around) (outer : List Env) (s : Shared) (H : Hp) (vs : List V) (Q : VK) (E : XK), Room k (A.deeper (envOfC qual scope s.heap.objs.size f cdv)) → sp vs H Q E →
      ∃ t, PSs (cxOf CX P w K mg base N qual scope f cdv A outer s H E) body t ∧ t { nx := fun _ H' => Q .non H', rt := Q } (start N vs) H) :
    FnOk P w K mg base CX (k + 1) f (PySem.W.fnOf name qual params body scope dV kV doc pm an cdv ct) ps sp := by
  refine ⟨len, fun A outer s H args us vs Q E hr e0 hb r hsp => ?_⟩
  have hl := len _ _ _ _ hsp
  have KX : K.In s.heap := e0.mod.kin.keeps fun b o e => (e0.bs b o e).1
  have lim : s.heap.NoLimit := e0.mod.nolimit.keeps fun b o e => (e0.bs b o e).1
  have hkind : ∀ y ∈ ps.zip us, scope.names.lookup y.1 = some .local ∨ (scope.names.lookup y.1 = some .cell ∧ ((cellsFrom (s.heap.objs.size + 1) scope.names []).lookup y.1).isSome = true) := fun ⟨n, v⟩ hy => by
    rcases S.par n (List.of_mem_zip hy).1 with q | q
    · exact .inl q
    · exact .inr ⟨q, PySem.W.cellsFrom_some _ _ _ (.inl q)⟩
  refine codeAny_call_function hr.depth (KX _ _ lk) rfl S.co S.gen rfl (PySem.W.codeRec_of KX hcd) (hb _ _ _ _ ?_)
  refine wpAny_newFunctionEnv_cells S.kind hkind fun env he s1 x => ?_
  subst he
  refine ⟨lim.keeps x.toInCall.keep, codeAny_func ?_⟩
  obtain ⟨t, ht, hq⟩ := hbody A outer s H vs Q E (hr.deeper _) hsp
  have I : Inv (cxOf CX P w K mg base N qual scope f cdv A outer s H E) [] (start N vs) H s1 := inv_start S hr.hd e0 hl r x
  refine wpAny_mono (ht [] s1 (start N vs) H _ I hq) (fun fl s' hs => ?_) fun e s' hs => hs
  have fin : ∀ {σ' : St} {H' : Hp} {v : V} {u : Value}, Inv (cxOf CX P w K mg base N qual scope f cdv A outer s H E) [] σ' H' s' → RelV v u → Q v H' → CE outer P w H s Q u s' :=
    fun {σ' H' v u} J rv q => ⟨v, H', J.os, J.bare, J.base, J.hok, rv, q⟩
  cases fl with
  | ret u =>
    obtain ⟨v, σ', H', J, rv, q⟩ := hs
    exact fin J rv q
  | next =>
    obtain ⟨σ', H', J, q⟩ := hs
    exact fin (v := V.non) (u := Value.none) J rfl q
  | brk =>
    obtain ⟨_, _, _, q⟩ := hs
    exact False.elim q
  | cont =>
    obtain ⟨_, _, _, q⟩ := hs
    exact False.elim q
end L2
namespace L2
open PySem PySem.Spec PyProof.Rows
section
variable {X : Cx} {x : Str} {p pos : Pos} {e : Expr} {es : List Expr} {t : TA} {id T : String} {r : List V → Hp → VK → Prop}
def tCB (r : List V → Hp → VK → Prop) (t : TA) : TE := fun σ H Q => t σ H fun vs H1 => r vs H1 Q
theorem pe_callB (hc : CallR X (.builtin id) r) (hg : Gl X x) (hm : X.mg x = none) (hv : bootBuiltins x = some (.builtin id)) (ha : PA X (e :: es) t) (hn : x ≠ "__name__" := by decide) (hdb : (x == ("__debug__" : Str)) = false := by decide)
    (he : starEach (e :: es) X.env = (false, eval e X.env) :: starEach es X.env := by rfl) (hpl : (backTo pos (starEach es X.env)).any (·.1) = false := by rfl) : PE X (.Call (.Name x p) (e :: es) [] pos) (tCB r t) := by
  intro pins s σ H Q I h
  refine wpAny_Call_Name_kw (ld_blt I hg hm hv ?_ hn hdb)
  exact PyProof.Rows.callWith_builtin1 (thn (ha pos pins s σ H _ I h) fun us s1 ⟨vs, H1, I1, r1, q1⟩ => hc pins s1 σ H1 vs us Q I1 r1 q1) he hpl
theorem pe_callTy (hc : CallR X (.type T) r) (hg : Gl X x) (hm : X.mg x = none) (hv : bootBuiltins x = some (.type T)) (ha : PA X (e :: es) t) (hn : x ≠ "__name__" := by decide) (hdb : (x == ("__debug__" : Str)) = false := by decide)
    (he : starEach (e :: es) X.env = (false, eval e X.env) :: starEach es X.env := by rfl) (hpl : (backTo pos (starEach es X.env)).any (·.1) = false := by rfl) : PE X (.Call (.Name x p) (e :: es) [] pos) (tCB r t) := by
  intro pins s σ H Q I h
  refine wpAny_Call_Name_kw (ld_blt I hg hm hv ?_ hn hdb)
  exact PyProof.Rows.callWith_type1 (thn (ha pos pins s σ H _ I h) fun us s1 ⟨vs, H1, I1, r1, q1⟩ => hc pins s1 σ H1 vs us Q I1 r1 q1) he hpl
end
end L2
namespace HT
open PySem PyProof.Rows
def lexLt : List Int → List Int → Bool
  | [], [] => false
  | [], _ :: _ => true
  | _ :: _, [] => false
  | x :: xs, y :: ys => if x = y then lexLt xs ys else decide (x < y)
section
open PySem.SeqAt
open PySem.AutoSeq1 (wpAny_loadPart')
open PySem.MeetsSeq PySem.MeetsSeq2 PySem.MeetsSeq3
end
section
variable {prog : Program} {w : World} {A : Around} {E : Value → Shared → Prop} {s : Shared}
def sIx (n d : Nat) : Option Int → Nat
  | none => d
  | some v => if v < 0 then (v + (n : Int)).toNat else min v.toNat n
theorem sIx_none (n d : Nat) : sIx n d none = d := rfl
theorem sIx_nat (n d k : Nat) : sIx n d (some (k : Int)) = min k n := by
  show (if (k : Int) < 0 then ((k : Int) + (n : Int)).toNat else min (k : Int).toNat n) = min k n
  rw [if_neg (by omega), Int.toNat_natCast]
end
end HT
namespace L2
open PySem PySem.Spec PyProof.Rows
abbrev TO := St → Hp → (Option Int → Hp → Prop) → Prop
def PO (X : Cx) (e : Option Expr) (t : TO) : Prop :=
  ∀ (pins : List (Addr × Obj)) (s : Shared) (σ : St) (H : Hp) (Q : Option Int → Hp → Prop), Inv X pins σ H s → t σ H Q →
    wpAny (model X.prog X.w) X.A (evalPart e X.env) (fun u s' => ∃ o H', Inv X pins σ H' s' ∧ IsPart u o ∧ Q o H') X.xe s
def tNoPart : TO := fun _ H Q => Q none H
def tPart (t : TE) : TO := fun σ H Q => t σ H fun x H1 => ∃ i, x = .int i ∧ Q (some i) H1
section
variable {X : Cx} {e : Expr} {te : TE} {lo hi : Option Expr} {tl th : TO} {pos p2 : Pos}
theorem po_none : PO X none tNoPart := by
  intro pins s σ H Q I h
  rw [evalPart_none]
  exact wpAny_pure ⟨none, H, I, .none, h⟩
theorem po_some (h : PE X e te) : PO X (some e) (tPart te) := by
  intro pins s σ H Q I hw
  rw [evalPart_some]
  refine thn (h pins s σ H _ I hw) fun u s1 ⟨x, H1, I1, r1, q1⟩ => ?_
  obtain ⟨i, rfl, q⟩ := q1
  obtain ⟨t, rfl⟩ := r1
  exact ⟨some i, H1, I1, .int i t, q⟩
def SlR (X : Cx) (r : V → Option Int → Option Int → Hp → VK → Prop) : Prop :=
  ∀ (pins : List (Addr × Obj)) (s : Shared) (σ : St) (H : Hp) (x : V) (v vl vu : Value) (lo hi : Option Int) (sl : Addr) (Q : VK), Inv X pins σ H s → RelV x v → s.heap.IsSliceOf sl vl vu .none → IsPart vl lo → IsPart vu hi → r x lo hi H Q →
    ∃ T id, typeLookup (.type T) "__getitem__" = pure (some (.builtin id)) ∧ s.TypeIs v T ∧ wpAny (model X.prog X.w) X.A (getItem v (.ref sl)) (EP X pins σ Q) X.xe s
theorem SlR.or {r r' : V → Option Int → Option Int → Hp → VK → Prop} (h : SlR X r) (h' : SlR X r') : SlR X (fun x lo hi H Q => r x lo hi H Q ∨ r' x lo hi H Q) := by
  intro pins s σ H x v vl vu lo hi sl Q I rx hs pl pu q
  rcases q with q | q
  · exact h pins s σ H x v vl vu lo hi sl Q I rx hs pl pu q
  · exact h' pins s σ H x v vl vu lo hi sl Q I rx hs pl pu q
def tSl (r : V → Option Int → Option Int → Hp → VK → Prop) (te : TE) (tl th : TO) : TE := fun σ H Q => te σ H fun x H1 => tl σ H1 fun l H2 => th σ H2 fun u H3 => r x l u H3 Q
theorem pe_slice {r : V → Option Int → Option Int → Hp → VK → Prop} (hr : SlR X r) (he : PE X e te) (hl : PO X lo tl) (hu : PO X hi th) : PE X (.Subscript e (.Slice lo hi none p2) pos) (tSl r te tl th) := by
  intro pins s σ H Q I h
  refine Subscript_ (thn (he pins s σ H _ I h) fun v s1 ⟨x, H1, I1, r1, q1⟩ => ?_)
  refine wpAny_Slice (thn (hl pins s1 σ H1 _ I1 q1) fun vl s2 ⟨l, H2, I2, pl, q2⟩ => thn (hu pins s2 σ H2 _ I2 q2) fun vu s3 ⟨u, H3, I3, pu, q3⟩ => ?_)
  rw [evalPart_none]
  refine wpAny_pure ?_
  have I4 : Inv X pins σ H3 { s3 with heap := s3.heap.push { cls := .type "slice", data := .fields #[vl, vu, .none] } } := I3.kept (t' := s3.toks) fun b ob q => Heap.get?_push_of_some _ q
  obtain ⟨T, id, hT, ht, hg⟩ := hr pins { s3 with heap := s3.heap.push { cls := .type "slice", data := .fields #[vl, vu, .none] } } σ H3 x v vl vu l u s3.heap.objs.size Q I4 r1 (Heap.IsSliceOf.new ..) pl pu q3
  show wpAny (model X.prog X.w) X.A (subscriptTail e (.Slice lo hi none p2) v (.ref s3.heap.objs.size)) (EP X pins σ Q) X.xe { s3 with heap := s3.heap.push { cls := .type "slice", data := .fields #[vl, vu, .none] } }
  exact tail_any (ops := [.ref s3.heap.objs.size, v]) ht hT hg (by with_unfolding_all rfl)
def cutV (xs : List V) (lo hi : Option Int) : List V := (xs.drop (HT.sIx xs.length 0 lo)).take (HT.sIx xs.length xs.length hi - HT.sIx xs.length 0 lo)
theorem cutV_length (xs : List V) (lo hi : Option Int) : (cutV xs lo hi).length ≤ xs.length := by
  unfold cutV
  rw [List.length_take, List.length_drop]
  omega
def rSlT (K : PySem.W.Frag) : V → Option Int → Option Int → Hp → VK → Prop := fun x lo hi H Q => ∃ a xs, x = .ref a ∧ SqT K H a xs ∧
  ¬ (HT.sIx xs.length 0 lo = 0 ∧ HT.sIx xs.length xs.length hi = xs.length) ∧ ∀ p, H p = none → Q (.ref p) (upd H p (.tup (cutV xs lo hi)))
def rLtT (K : PySem.W.Frag) : R2 := fun x y H Q => ∃ a b ns ms, x = .ref a ∧ y = .ref b ∧ SqT K H a (ns.map V.int) ∧ SqT K H b (ms.map V.int) ∧ Q (.bl (HT.lexLt ns ms)) H
def rCatT (K : PySem.W.Frag) : R2 := fun x y H Q => ∃ a b xs ys, x = .ref a ∧ y = .ref b ∧ SqT K H a xs ∧ SqT K H b ys ∧ xs ≠ [] ∧ xs.length + ys.length ≤ sizeLine ∧
  (ys = [] → Q (.ref a) H) ∧ (ys ≠ [] → ∀ p, H p = none → Q (.ref p) (upd H p (.tup (xs ++ ys))))
end
end L2
namespace L2
open PySem PySem.Spec PyProof.Rows
def ixN (n : Nat) (i : Int) : Option Nat := if 0 ≤ i then (if i < n then some i.toNat else none) else if -(n : Int) ≤ i then some (i + n).toNat else none
def atI {α : Type} (xs : List α) (i : Int) : Option α := (ixN xs.length i).bind fun j => xs[j]?
theorem ixN_seq {n : Nat} {i : Int} {j : Nat} (h : ixN n i = some j) : seqIndex? i n = some j ∧ j < n ∧ -(n : Int) ≤ i ∧ i < n := by
  unfold ixN at h
  by_cases h0 : 0 ≤ i
  · rw [if_pos h0] at h
    by_cases h1 : i < n
    · rw [if_pos h1] at h
      have e : i.toNat = j := Option.some.inj h
      exact ⟨by rw [seqIndex_of h0 h1, e], by omega, by omega, h1⟩
    · rw [if_neg h1] at h; cases h
  · rw [if_neg h0] at h
    by_cases h1 : -(n : Int) ≤ i
    · rw [if_pos h1] at h
      have e : (i + n).toNat = j := Option.some.inj h
      exact ⟨by rw [seqIndex_neg (by omega) h1, e], by omega, h1, by omega⟩
    · rw [if_neg h1] at h; cases h
theorem atI_get {α : Type} {xs : List α} {i : Int} {v : α} (h : atI xs i = some v) : ∃ j, seqIndex? i xs.length = some j ∧ xs[j]? = some v ∧ j < xs.length ∧ -(xs.length : Int) ≤ i ∧ i < xs.length := by
  unfold atI at h
  cases e : ixN xs.length i with
  | none => rw [e] at h; cases h
  | some j =>
    rw [e] at h
    obtain ⟨h1, h2, h3, h4⟩ := ixN_seq e
    exact ⟨j, h1, h, h2, h3, h4⟩
theorem atI_nat {α : Type} {xs : List α} {j : Nat} {v : α} (h : xs[j]? = some v) : atI xs (j : Int) = some v := by
  have hj : j < xs.length := (List.getElem?_eq_some_iff.mp h).1
  have e : ixN xs.length (j : Int) = some j := by
    unfold ixN
    rw [if_pos (by omega), if_pos (by omega)]; simp
  unfold atI; rw [e]; exact h
def PlainIx (b : Expr) : Prop := ∀ o i, subscripted b false o i = operate [o, i] (getItem o i)
def IxR (X : Cx) (r : R2) : Prop :=
  ∀ (value slice : Expr) (pins : List (Addr × Obj)) (s : Shared) (σ : St) (H : Hp) (x y : V) (v u : Value) (Q : VK), Inv X pins σ H s → RelV x v → RelV y u → r x y H Q →
    subscripted slice false v u = operate [v, u] (getItem v u) → wpAny (model X.prog X.w) X.A (subscriptTail value slice v u) (EP X pins σ Q) X.xe s
def MtR (X : Cx) (id : String) (r : V → List V → Hp → VK → Prop) : Prop :=
  ∀ (pins : List (Addr × Obj)) (s : Shared) (σ : St) (H : Hp) (x : V) (xs : List V) (v : Value) (us : List Value) (Q : VK), Inv X pins σ H s → RelV x v → Vals xs us → r x xs H Q →
    wpAny (model X.prog X.w) X.A (call (.builtin id) (v :: us)) (EP X pins σ Q) X.xe s
section
variable {X : Cx} {a b : Expr} {ta tb : TE} {pos : Pos}
theorem IxR.or {r r' : R2} (h : IxR X r) (h' : IxR X r') : IxR X (fun x y H Q => r x y H Q ∨ r' x y H Q) := by
  intro value slice pins s σ H x y v u Q I rx ry q hs
  rcases q with q | q
  · exact h value slice pins s σ H x y v u Q I rx ry q hs
  · exact h' value slice pins s σ H x y v u Q I rx ry q hs
theorem MtR.or {id : String} {r r' : V → List V → Hp → VK → Prop} (h : MtR X id r) (h' : MtR X id r') : MtR X id (fun x xs H Q => r x xs H Q ∨ r' x xs H Q) := by
  intro pins s σ H x xs v us Q I rx rs q
  rcases q with q | q
  · exact h pins s σ H x xs v us Q I rx rs q
  · exact h' pins s σ H x xs v us Q I rx rs q
theorem pe_ix {r : R2} (hr : IxR X r) (ha : PE X a ta) (hb : PE X b tb) (hs : PlainIx b) : PE X (.Subscript a b pos) (tOp r ta tb) := by
  intro pins s σ H Q I h
  exact Subscript_ (binT ha hb I h fun v u s2 x y H2 I2 rx ry q => hr a b pins s2 σ H2 x y v u Q I2 rx ry q (hs _ _))
def rIxL (K : PySem.W.Frag) : R2 := fun x y H Q => ∃ p xs i v, x = .ref p ∧ y = .int i ∧ SqL K H p xs ∧ atI xs i = some v ∧ Q v H
def rIxT (K : PySem.W.Frag) : R2 := fun x y H Q => ∃ p xs i v, x = .ref p ∧ y = .int i ∧ SqT K H p xs ∧ atI xs i = some v ∧ Q v H
def rIxS : R2 := fun x y H Q => ∃ z i c, x = .str z ∧ y = .int i ∧ z.length ≤ sizeLine ∧ atI z.cps.toList i = some c ∧ Q (.str ⟨#[c]⟩) H
theorem ix_list : IxR X (rIxL X.K) := by
  intro value slice pins s σ H x y v u Q I rx ry h hs
  obtain ⟨p, xs, i, z, rfl, rfl, hq, he, q⟩ := h
  cases rx
  obtain ⟨t, rfl⟩ := ry
  obtain ⟨its, r, pl, hz⟩ := I.list hq
  obtain ⟨j, h1, h2, h3, h4, h5⟩ := atI_get he
  obtain ⟨w, ew, rw'⟩ := r.get h2
  have hl := r.length
  have hn := line63
  have fin : EP X pins σ Q w s := ⟨z, H, I, rw', q⟩
  by_cases h0 : 0 ≤ i
  · have hj : i.toNat = j := by
      rw [seqIndex_of h0 h5] at h1
      exact Option.some.inj h1
    exact item_listR pl.isList h0 (by omega) (by rw [hj]; simpa using ew) fin hs
  · have hj : (i + (its.toArray.size : Int)).toNat = j := by
      rw [seqIndex_neg (by omega) h4] at h1
      rw [List.size_toArray, ← hl]
      exact Option.some.inj h1
    exact subscriptTail_builtinR (x := w) pl.isList.typeIs slot_list_getitem.lookup
      (wpAny_getItem_list_neg (Q := fun r s' => r = w ∧ EP X pins σ Q r s') pl.isList (by omega) (by rw [List.size_toArray] <;> omega) (by omega) (by rw [hj]; simpa using ew) ⟨rfl, fin⟩) hs
theorem ix_tup : IxR X (rIxT X.K) := by
  intro value slice pins s σ H x y v u Q I rx ry h hs
  obtain ⟨p, xs, i, z, rfl, rfl, hq, he, q⟩ := h
  cases rx
  obtain ⟨t, rfl⟩ := ry
  obtain ⟨its, r, pl, hz⟩ := I.tuple hq
  obtain ⟨j, h1, h2, h3, h4, h5⟩ := atI_get he
  obtain ⟨w, ew, rw'⟩ := r.get h2
  have hl := r.length
  have hn := line63
  have fin : EP X pins σ Q w s := ⟨z, H, I, rw', q⟩
  exact subscriptTail_builtinR (x := w) pl.typeIs slot_tuple_getitem.lookup
    (getItem_tuple (j := j) (Q := fun r s' => r = w ∧ EP X pins σ Q r s') pl (by omega) (by omega) (by rw [List.size_toArray, ← hl]; exact h1) (by simpa using ew) ⟨rfl, fin⟩) hs
theorem ix_str : IxR X rIxS := by
  intro value slice pins s σ H x y v u Q I rx ry h hs
  obtain ⟨z, i, c, rfl, rfl, hz, he, q⟩ := h
  obtain ⟨t, rfl⟩ := rx
  obtain ⟨t', rfl⟩ := ry
  obtain ⟨j, h1, h2, h3, h4, h5⟩ := atI_get he
  have hl : z.cps.toList.length = z.length := by simp [Str.length]
  rw [hl] at h1 h4 h5
  have hn := line63
  exact tail_any (typeIs_str s z t) slot_str_getitem.lookup (getItem_str (c := c) (by
    have e1 : decide (i < -(2 ^ 63 : Int)) = false := decide_eq_false (by omega)
    have e2 : decide (i ≥ 2 ^ 63) = false := decide_eq_false (by omega)
    rw [e1, e2, Bool.or_false]) (by rw [h1]; simpa using h2) ⟨.str ⟨#[c]⟩, H, I.tok _, ⟨_, rfl⟩, q⟩) hs
def rIx (K : PySem.W.Frag) : R2 := fun x y H Q => rIxL K x y H Q ∨ rIxT K x y H Q ∨ rIxS x y H Q
theorem mapSeq_set (its : List Value) (n j : Nat) (u : Value) : Obj.mapSeq (·.setIfInBounds j u) { cls := .type "list", data := .seq its.toArray n } = { cls := .type "list", data := .seq (its.set j u).toArray n } := by
  simp [Obj.mapSeq]
theorem Inv.lst {pins : List (Addr × Obj)} {σ : St} {H : Hp} {s : Shared} {p : Addr} {xs : List V} (I : Inv X pins σ H s) (h : H p = some (.lst xs)) :
    ∃ (its : List Value) (n : Nat), Vals xs its ∧ s.heap.get? p = some { cls := .type "list", data := .seq its.toArray n } ∧ xs.length ≤ sizeLine := by
  obtain ⟨z, its, n, r, e⟩ := I.hok p _ h
  exact ⟨its, n, r, e, z⟩
theorem Inv.lstUpd {pins : List (Addr × Obj)} {σ : St} {H : Hp} {s : Shared} {p : Addr} {xs ys : List V} {its its' : List Value} {n n' : Nat} {f : Obj → Obj} (I : Inv X pins σ H s) (h : H p = some (.lst xs))
    (ho : s.heap.get? p = some { cls := .type "list", data := .seq its.toArray n }) (hf : f { cls := .type "list", data := .seq its.toArray n } = { cls := .type "list", data := .seq its'.toArray n' }) (r : Vals ys its') (hz : ys.length ≤ sizeLine) (t : Nat) :
    Inv X pins σ (upd H p (.lst ys)) { s with heap := s.heap.update p f, toks := t } := by
  have e : (s.heap.update p f).get? p = some { cls := .type "list", data := .seq its'.toArray n' } := by
    rw [Heap.get?_update_self f ho (by rw [hf] <;> rfl), hf]
  refine I.write (x := p) (e := p) (by rw [h]; trivial) (.inl rfl) (fun b u hb q => (Heap.get?_update_other _ _ (Ne.symm hb)).trans q) ⟨_, e⟩ ?_
  exact ⟨hz, its', n', r, e⟩
def rSetL : V → V → V → Hp → (Hp → Prop) → Prop := fun o i v H Q => ∃ p xs k j, o = .ref p ∧ i = .int k ∧ H p = some (.lst xs) ∧ ixN xs.length k = some j ∧ Q (upd H p (.lst (xs.set j v)))
theorem set_list : PSet X rSetL := by
  intro pins s σ H o i v ov iv u Q I ro ri rv h
  obtain ⟨p, xs, k, j, rfl, rfl, hp, hj, q⟩ := h
  cases ro
  obtain ⟨t, rfl⟩ := ri
  obtain ⟨its, n, r, ho, hz⟩ := I.lst hp
  obtain ⟨h1, h2, h3, h4⟩ := ixN_seq hj
  have hl := r.length
  have hn := line63
  have I' : Inv X pins σ (upd H p (.lst (xs.set j v))) { s with heap := s.heap.update p (Obj.mapSeq (·.setIfInBounds j u)) } :=
    I.lstUpd hp ho (mapSeq_set its n j u) (r.set rv j) (by rw [List.length_set]; exact hz) s.toks
  by_cases h0 : 0 ≤ k
  · have hk : k.toNat = j := by
      rw [seqIndex_of h0 h4] at h1
      exact Option.some.inj h1
    exact PySem.W.ki_setAt ho h0 (by omega) (by rw [List.size_toArray, ← hl]; exact h4) (by rw [hk]; exact ⟨_, I', q⟩)
  · have hk : (k + (its.toArray.size : Int)).toNat = j := by
      rw [seqIndex_neg (by omega) h3] at h1
      rw [List.size_toArray, ← hl]
      exact Option.some.inj h1
    exact PySem.W.ki_setBack ho (by omega) (by rw [List.size_toArray, ← hl]; exact h3) (by omega) (by rw [hk]; exact ⟨_, I', q⟩)
theorem slice_bounds (lo hi : Option Int) (n : Nat) : (sliceBounds lo hi none n).1 = ((HT.sIx n 0 lo : Nat) : Int) ∧ (sliceBounds lo hi none n).2.1 = ((HT.sIx n n hi : Nat) : Int) ∧ (sliceBounds lo hi none n).2.2 = 1 := by
  refine ⟨?_, ?_, rfl⟩
  · cases lo with
    | none => simp [sliceBounds, HT.sIx]
    | some i =>
      simp only [sliceBounds, HT.sIx, Option.getD_none, show (1 : Int) > 0 by decide, if_true]
      by_cases h : i < 0
      · simp only [h, if_true] <;> omega
      · simp only [h, if_false] <;> omega
  · cases hi with
    | none => simp [sliceBounds, HT.sIx]
    | some i =>
      simp only [sliceBounds, HT.sIx, Option.getD_none, show (1 : Int) > 0 by decide, if_true]
      by_cases h : i < 0
      · simp only [h, if_true] <;> omega
      · simp only [h, if_false] <;> omega
theorem slicePick_cut (its : List Value) (lo hi : Option Int) : slicePick its.toArray lo hi none = ((its.drop (HT.sIx its.length 0 lo)).take (HT.sIx its.length its.length hi - HT.sIx its.length 0 lo)).toArray := by
  obtain ⟨h1, h2, h3⟩ := slice_bounds lo hi its.toArray.size
  unfold slicePick
  rw [h1, h2, h3]
  simp only [sliceRange_one, pick_run, List.size_toArray] <;> rfl
def rSlL (K : PySem.W.Frag) : V → Option Int → Option Int → Hp → VK → Prop := fun x lo hi H Q => ∃ a xs, x = .ref a ∧ SqL K H a xs ∧ ∀ p, H p = none → Q (.ref p) (upd H p (.lst (cutV xs lo hi)))
theorem sl_list : SlR X (rSlL X.K) := by
  intro pins s σ H x v vl vu lo hi sl Q I rx hs pl pu h
  obtain ⟨a, xs, rfl, hx, q⟩ := h
  cases rx
  obtain ⟨its, r, ht, hz⟩ := I.list hx
  have hlen := r.length
  refine ⟨"list", _, slot_list_getitem.lookup, ht.isList.typeIs, ?_⟩
  refine wpAny_getItem_list_slice ht.isList hs pl pu .none (by simp) ?_ (by rw [List.size_toArray] <;> omega)
  rw [slicePick_cut, ← hlen]
  refine ⟨.ref s.heap.objs.size, _, I.laid (t' := s.toks) (o := .lst (cutV xs lo hi)) (fun b ob q => Heap.get?_push_of_some _ q) (Nat.le_refl _) ?_, rfl, q _ (I.hok.fresh (Nat.le_refl _))⟩
  exact ⟨Nat.le_trans (cutV_length xs lo hi) hz, _, 0, (r.drop (HT.sIx xs.length 0 lo)).take (HT.sIx xs.length xs.length hi - HT.sIx xs.length 0 lo), Heap.get?_push_size _ rfl⟩
def flatV : V → Bool
  | .non => true
  | .bl _ => true
  | .int _ => true
  | .str _ => true
  | _ => false
def eqV : V → V → Bool
  | .non, .non => true
  | .bl a, .bl b => a == b
  | .bl a, .int b => (if a then 1 else 0) == b
  | .int a, .bl b => a == (if b then 1 else 0)
  | .int a, .int b => a == b
  | .str a, .str b => a == b
  | _, _ => false
theorem eqAt_V {A : Around} {s : Shared} {y x : V} {u v : Value} (ry : RelV y u) (rx : RelV x v) (fy : flatV y = true) (fx : flatV x = true) : SeqAt.EqAt A s u v (eqV y x) := by
  cases y with
  | non =>
    cases ry
    cases x with
    | non => cases rx; exact SeqAt.EqAt.same _
    | bl b => cases rx; exact SeqAt.EqAt.none_bool b
    | int b => obtain ⟨t, rfl⟩ := rx; exact SeqAt.EqAt.none_int b t
    | str b => obtain ⟨t, rfl⟩ := rx; exact SeqAt.EqAt.none_str b t
    | _ => exact absurd (show false = true from fx) Bool.false_ne_true
  | bl a =>
    cases ry
    cases x with
    | non => cases rx; exact SeqAt.EqAt.bool_none a
    | bl b => cases rx; exact SeqAt.EqAt.bool_bool a b
    | int b => obtain ⟨t, rfl⟩ := rx; exact SeqAt.EqAt.bool_int a b t
    | str b => obtain ⟨t, rfl⟩ := rx; exact SeqAt.EqAt.bool_str a b t
    | _ => exact absurd (show false = true from fx) Bool.false_ne_true
  | int a =>
    obtain ⟨t', rfl⟩ := ry
    cases x with
    | non => cases rx; exact SeqAt.EqAt.int_none a t'
    | bl b => cases rx; exact SeqAt.EqAt.int_bool a t' b
    | int b => obtain ⟨t, rfl⟩ := rx; exact SeqAt.EqAt.int_int a t' b t
    | str b => obtain ⟨t, rfl⟩ := rx; exact SeqAt.EqAt.int_str a t' b t
    | _ => exact absurd (show false = true from fx) Bool.false_ne_true
  | str a =>
    obtain ⟨t', rfl⟩ := ry
    cases x with
    | non => cases rx; exact SeqAt.EqAt.str_none a t'
    | bl b => cases rx; exact SeqAt.EqAt.str_bool a t' b
    | int b => obtain ⟨t, rfl⟩ := rx; exact SeqAt.EqAt.str_int a t' b t
    | str b => obtain ⟨t, rfl⟩ := rx; exact SeqAt.EqAt.str_str a t' b t
    | _ => exact absurd (show false = true from fx) Bool.false_ne_true
  | _ => exact absurd (show false = true from fy) Bool.false_ne_true
def eqU (x : V) (u : Value) : Bool := match u with
  | .none => eqV .non x
  | .bool b => eqV (.bl b) x
  | .int i _ => eqV (.int i) x
  | .str z _ => eqV (.str z) x
  | _ => false
theorem eqU_of {x y : V} {u : Value} (r : RelV y u) (f : flatV y = true) : eqU x u = eqV y x := by
  cases y with
  | non => cases r; rfl
  | bl b => cases r; rfl
  | int i => obtain ⟨t, rfl⟩ := r; rfl
  | str z => obtain ⟨t, rfl⟩ := r; rfl
  | _ => exact absurd (show false = true from f) Bool.false_ne_true
theorem any_eqU {x : V} : ∀ {xs : List V} {us : List Value}, Vals xs us → xs.all flatV = true → us.any (eqU x) = xs.any fun y => eqV y x
  | _, _, .nil, _ => rfl
  | y :: xs, u :: us, .cons r t, f => by
    rw [List.all_cons, Bool.and_eq_true] at f
    rw [List.any_cons, List.any_cons, eqU_of r f.1, any_eqU t f.2]
theorem mem_eqAt {A : Around} {s : Shared} {x : V} {v : Value} (rx : RelV x v) (fx : flatV x = true) : ∀ {xs : List V} {us : List Value}, Vals xs us → xs.all flatV = true → ∀ u ∈ us, SeqAt.EqAt A s u v (eqU x u)
  | _, _, .nil, _ => fun u hu => by cases hu
  | y :: xs, u :: us, .cons r t, f => fun u' hu => by
    rw [List.all_cons, Bool.and_eq_true] at f
    rcases List.mem_cons.mp hu with rfl | hu
    · rw [eqU_of r f.1]; exact eqAt_V r rx f.1 fx
    · exact mem_eqAt rx fx t f.2 u' hu
def inV (x : V) (xs : List V) : Bool := xs.any fun y => eqV y x
def rIn (K : PySem.W.Frag) (neg : Bool) : R2 := fun x y H Q => ∃ p xs, y = .ref p ∧ (SqL K H p xs ∨ SqT K H p xs) ∧ flatV x = true ∧ xs.all flatV = true ∧ Q (.bl (if neg then !inV x xs else inV x xs)) H
theorem op_in_seq : OpR X (compareOp .In) (rIn X.K false) := by
  intro pins s σ H x y v u Q I rx ry h
  obtain ⟨p, xs, rfl, hq, fx, fs, q⟩ := h
  cases ry
  rcases hq with hq | hq
  · obtain ⟨its, r, pl, hz⟩ := I.list hq
    refine SeqAt.in_listAt (eqU x) pl.isList (fun w hw => mem_eqAt rx fx r fs w (by simpa using hw)) ⟨.bl _, H, I, rfl, ?_⟩
    rw [show its.toArray.any (eqU x) = its.any (eqU x) by simp, any_eqU r fs]
    exact q
  · obtain ⟨its, r, pl, hz⟩ := I.tuple hq
    refine SeqAt.in_tupleAt (eqU x) pl (fun w hw => mem_eqAt rx fx r fs w (by simpa using hw)) ⟨.bl _, H, I, rfl, ?_⟩
    rw [show its.toArray.any (eqU x) = its.any (eqU x) by simp, any_eqU r fs]
    exact q
theorem op_notIn_seq : OpR X (compareOp .NotIn) (rIn X.K true) := by
  intro pins s σ H x y v u Q I rx ry h
  obtain ⟨p, xs, rfl, hq, fx, fs, q⟩ := h
  cases ry
  rcases hq with hq | hq
  · obtain ⟨its, r, pl, hz⟩ := I.list hq
    refine SeqAt.notIn_listAt (eqU x) pl.isList (fun w hw => mem_eqAt rx fx r fs w (by simpa using hw)) ⟨.bl _, H, I, rfl, ?_⟩
    rw [show its.toArray.any (eqU x) = its.any (eqU x) by simp, any_eqU r fs]
    exact q
  · obtain ⟨its, r, pl, hz⟩ := I.tuple hq
    refine SeqAt.notIn_tupleAt (eqU x) pl (fun w hw => mem_eqAt rx fx r fs w (by simpa using hw)) ⟨.bl _, H, I, rfl, ?_⟩
    rw [show its.toArray.any (eqU x) = its.any (eqU x) by simp, any_eqU r fs]
    exact q
theorem call_len_seq : CallR X (.builtin "len") (fun xs H Q => ∃ p ys, xs = [.ref p] ∧ (SqL X.K H p ys ∨ SqT X.K H p ys) ∧ Q (.int ys.length) H) := by
  intro pins s σ H xs us Q I r h
  obtain ⟨p, ys, rfl, hq, q⟩ := h
  obtain ⟨u, rfl, rx⟩ := vals1 r
  cases rx
  have hn := line63
  rcases hq with hq | hq
  · obtain ⟨its, r', pl, hz⟩ := I.list hq
    have hlen := r'.length
    exact Calls.call_len_list pl.isList (by simp only [List.size_toArray] <;> omega) ⟨.int ys.length, H, I.tok _, ⟨s.toks + 1, by rw [List.size_toArray, hlen]⟩, q⟩
  · obtain ⟨its, r', pl, hz⟩ := I.tuple hq
    have hlen := r'.length
    exact len_tuple pl (by simp only [List.size_toArray] <;> omega) ⟨.int ys.length, H, I.tok _, ⟨s.toks + 1, by rw [List.size_toArray, hlen]⟩, q⟩
theorem call_len_str : CallR X (.builtin "len") (fun xs H Q => ∃ z, xs = [.str z] ∧ z.length ≤ sizeLine ∧ Q (.int z.length) H) := by
  intro pins s σ H xs us Q I r h
  obtain ⟨z, rfl, hz, q⟩ := h
  obtain ⟨u, rfl, t, rfl⟩ := vals1 r
  have hn := line63
  exact len_str (by omega) ⟨.int z.length, H, I.tok _, ⟨_, rfl⟩, q⟩
theorem CallR.or {f : Value} {r r' : List V → Hp → VK → Prop} (h : CallR X f r) (h' : CallR X f r') : CallR X f (fun xs H Q => r xs H Q ∨ r' xs H Q) := by
  intro pins s σ H xs us Q I rs q
  rcases q with q | q
  · exact h pins s σ H xs us Q I rs q
  · exact h' pins s σ H xs us Q I rs q
theorem call_list_of : CallR X (.type "list") (fun xs H Q => ∃ p ys, xs = [.ref p] ∧ (SqL X.K H p ys ∨ SqT X.K H p ys) ∧ ∀ l, H l = none → Q (.ref l) (upd H l (.lst ys))) := by
  intro pins s σ H xs us Q I r h
  obtain ⟨p, ys, rfl, hq, q⟩ := h
  obtain ⟨u, rfl, rx⟩ := vals1 r
  cases rx
  have fin : ∀ (its : List Value), Vals ys its → ys.length ≤ sizeLine → ∀ (h' : Heap) (c' : Nat), (∀ b o', s.heap.get? b = some o' → h'.get? b = some o') →
      h'.get? s.heap.objs.size = some { cls := .type "list", dict := none, data := .seq its.toArray c', slots := #[] } → EP X pins σ Q (.ref s.heap.objs.size) { s with heap := h' } := fun its r' hz h' c' kp e =>
    ⟨.ref s.heap.objs.size, _, I.laid (t' := s.toks) kp (Nat.le_refl _) (show ObjOk X.prog X.w _ h' _ (.lst ys) from ⟨hz, its, c', r', e⟩), rfl, q _ (I.hok.fresh (Nat.le_refl _))⟩
  rcases hq with hq | hq
  · obtain ⟨its, r', pl, hz⟩ := I.list hq
    have hlen := r'.length
    obtain ⟨o, ho, hc, n, hd⟩ := pl.isList
    exact call_list_seq p (.inl rfl) ho hc hd (fun h' c' kp e => fin its r' hz h' c' kp e) (by simp only [List.size_toArray] <;> omega)
  · obtain ⟨its, r', pl, hz⟩ := I.tuple hq
    have hlen := r'.length
    obtain ⟨o, ho, hc, n, hd⟩ := pl
    exact call_list_seq p (.inr rfl) ho hc hd (fun h' c' kp e => fin its r' hz h' c' kp e) (by simp only [List.size_toArray] <;> omega)
def tyV (K : PySem.W.Frag) (T : String) (x : V) (H : Hp) : Prop := match x with
  | .str _ => T = "str"
  | .int _ => T = "int"
  | .ref p => (T = "list" ∧ ∃ xs, SqL K H p xs) ∨ (T = "tuple" ∧ ∃ o, K.lookup p = some o ∧ o.cls = .type "tuple" ∧ o.dict = none) ∨
      (T = "dict" ∧ ((∃ kvs, H p = some (.dK kvs)) ∨ ∃ kvs, H p = some (.dT kvs))) ∨ (T = "set" ∧ ∃ S n, H p = some (.set S n))
  | _ => False
theorem tyV_is {pins : List (Addr × Obj)} {σ : St} {H : Hp} {s : Shared} {T : String} {x : V} {v : Value} (I : Inv X pins σ H s) (r : RelV x v) (ty : tyV X.K T x H) :
    s.TypeIs v T ∧ ∀ a, v = .ref a → ∃ ob, s.heap.get? a = some ob ∧ ob.dict = none := by
  cases x with
  | str z =>
    obtain ⟨t, rfl⟩ := r
    cases (show T = "str" from ty)
    exact ⟨typeIs_str s z t, fun _ e => nomatch e⟩
  | int i =>
    obtain ⟨t, rfl⟩ := r
    cases (show T = "int" from ty)
    exact ⟨typeIs_int s i t, fun _ e => nomatch e⟩
  | ref p =>
    cases r
    rcases ty with ⟨rfl, xs, hq⟩ | ⟨rfl, o, hk, hc, hd⟩ | ⟨rfl, hk⟩ | ⟨rfl, S, n, hk⟩
    · obtain ⟨its, _, pl, _⟩ := I.list hq
      refine ⟨pl.isList.typeIs, fun a e => ?_⟩
      cases e
      obtain ⟨o, n, e, c, hd, _⟩ := pl
      exact ⟨o, e, hd⟩
    · refine ⟨⟨o, I.kIn p o hk, hc⟩, fun a e => ?_⟩
      cases e
      exact ⟨o, I.kIn _ o hk, hd⟩
    · have z : ∃ o, s.heap.get? p = some o ∧ o.ExactDict := by
        rcases hk with ⟨kvs, hk⟩ | ⟨kvs, hk⟩
        · obtain ⟨_, _, _, _, o, _, _, e, ex, _⟩ := I.hok p _ hk
          exact ⟨o, e, ex⟩
        · obtain ⟨_, _, _, _, o, _, _, e, ex, _⟩ := I.hok p _ hk
          exact ⟨o, e, ex⟩
      obtain ⟨o, e, ex⟩ := z
      refine ⟨⟨o, e, ex.1⟩, fun a e2 => ?_⟩
      cases e2
      exact ⟨o, e, ex.2.1⟩
    · obtain ⟨o, _, _, _, e, ex, _⟩ := I.hok p _ hk
      refine ⟨⟨o, e, ex.1⟩, fun a e2 => ?_⟩
      cases e2
      exact ⟨o, e, ex.2.1⟩
  | _ => exact False.elim ty
def tBM0 (K : PySem.W.Frag) (T : String) (r : V → List V → Hp → VK → Prop) (to : TE) : TE := fun σ H Q => to σ H fun x H1 => tyV K T x H1 ∧ r x [] H1 Q
def tBM (K : PySem.W.Frag) (T : String) (r : V → List V → Hp → VK → Prop) (to : TE) (t : TA) : TE := fun σ H Q => to σ H fun x H1 => tyV K T x H1 ∧ t σ H1 fun xs H2 => r x xs H2 Q
variable {o e : Expr} {es : List Expr} {to : TE} {t : TA} {name : Str} {apos cpos : Pos} {T id : String} {r : V → List V → Hp → VK → Prop}
theorem pe_bm (pa : PlainAttrs T) (slot : Slot T name id) (hty : typeOf (.builtin id) = pure (.type "method_descriptor")) (hm : MtR X id r) (ho : PE X o to) (ha : PA X (e :: es) t)
    (hbase : attributeBase o name X.env (eval o X.env) = eval o X.env := by rfl)
    (hfew : ((backTo cpos (starEach (e :: es) X.env)).all (fun x => !x.1) && (backToKw cpos (keywordEach [] X.env)).all (fun x => x.1.isSome)
      && decide ((e :: es).length + ([] : List Keyword).length + (if ([] : List Keyword).isEmpty then 0 else 1) < 30)) = true := by rfl)
    (hline : (apos.endLine == cpos.line) = true := by rfl) (hs : starEach (e :: es) X.env = (false, eval e X.env) :: starEach es X.env := by rfl) (hplain : (backTo cpos (starEach es X.env)).any (·.1) = false := by rfl) :
    PE X (.Call (.Attribute o name apos) (e :: es) [] cpos) (tBM X.K T r to t) := by
  intro pins s σ H Q I h
  refine wpAny_Call_method_late hbase hfew hline rfl (thn (ho pins s σ H _ I h) fun v s1 ⟨x, H1, I1, r1, ty, q1⟩ => ?_)
  obtain ⟨h1, h2⟩ := tyV_is I1 r1 ty
  refine ⟨T, id, pa, slot, hty, h1, h2, ?_⟩
  have hA := ha cpos pins s1 σ H1 _ I1 q1
  rw [hs] at hA ⊢
  refine Calls.callWith_builtin (by show (false || (backTo cpos (starEach es X.env)).any (·.1)) = false; rw [hplain] <;> rfl) (Calls.evalArgs_plain ?_)
  exact thn hA fun us s2 ⟨vs, H2, I2, r2, q2⟩ => hm pins s2 σ H2 x vs v us Q I2 r1 r2 q2
end
end L2
namespace L2
open PySem PySem.Spec PyProof.Rows
def MtM (X : Cx) (id : String) (r : V → List V → Hp → VK → Prop) : Prop :=
  ∀ (pins : List (Addr × Obj)) (s : Shared) (σ : St) (H : Hp) (x : V) (xs : List V) (v : Value) (us : List Value) (Q : VK), Inv X pins σ H s → RelV x v → Vals xs us → r x xs H Q →
    wpAny (model X.prog X.w) X.A (call (.builtin id) (v :: us)) (EP X pins σ Q) X.xe s
theorem Vals.one : ∀ {x : V} {us : List Value}, Vals [x] us → ∃ u, us = [u] ∧ RelV x u
  | _, _, .cons r .nil => ⟨_, rfl, r⟩
theorem Vals.zero : ∀ {us : List Value}, Vals [] us → us = []
  | _, .nil => rfl
theorem Vals.dropLast {xs : List V} {us : List Value} (h : Vals xs us) : Vals xs.dropLast us.dropLast := by
  induction h with
  | nil => exact .nil
  | cons r t ih =>
    cases t with
    | nil => exact .nil
    | cons q t' => exact .cons r ih
theorem Vals.eraseIdx : ∀ {xs : List V} {us : List Value} (i : Nat), Vals xs us → Vals (xs.eraseIdx i) (us.eraseIdx i)
  | _, _, _, .nil => .nil
  | _, _, 0, .cons _ t => t
  | _, _, i + 1, .cons r t => .cons r (Vals.eraseIdx i t)
theorem Vals.reverse {xs : List V} {us : List Value} (h : Vals xs us) : Vals xs.reverse us.reverse := by
  induction h with
  | nil => exact .nil
  | cons r t ih => rw [List.reverse_cons, List.reverse_cons]; exact Vals.append ih (.cons r .nil)
section
variable {X : Cx} {pins : List (Addr × Obj)} {σ : St} {H : Hp} {s : Shared} {l b : Addr} {xs ys zs : List V}
theorem Inv.lset {its its' : List Value} {n : Nat} {f : Array Value → Array Value} {t' : Nat} (I : Inv X pins σ H s) (hH : H l = some (.lst xs))
    (e : s.heap.get? l = some { cls := .type "list", data := .seq its.toArray n }) (hf : f its.toArray = its'.toArray) (hv : Vals ys its') (hz : ys.length ≤ sizeLine) :
    Inv X pins σ (upd H l (.lst ys)) { s with heap := s.heap.update l (Obj.mapSeq f), toks := t' } := by
  have q := PySem.IsL.update e f
  rw [hf] at q
  refine I.write (x := l) (e := l) (by rw [hH]; exact trivial) (.inl rfl) (fun b' u hb hu => (Heap.get?_update_other s.heap (Obj.mapSeq f) (Ne.symm hb)).trans hu) ⟨_, q⟩ ?_
  exact ⟨hz, its', _, hv, q⟩
theorem Inv.lnew {its : List Value} {t' : Nat} (I : Inv X pins σ H s) (hv : Vals ys its) (hz : ys.length ≤ sizeLine) :
    Inv X pins σ (upd H s.heap.objs.size (.lst ys)) { s with heap := s.heap.push { cls := .type "list", data := .seq its.toArray }, toks := t' } :=
  I.laid (fun _ _ q => Heap.get?_push_of_some _ q) (Nat.le_refl _) ⟨hz, its, 0, hv, Heap.get?_push_size _ rfl⟩
theorem Inv.fresh (I : Inv X pins σ H s) : H s.heap.objs.size = none := I.hok.fresh (Nat.le_refl _)
theorem Inv.lstM (I : Inv X pins σ H s) (hH : H l = some (.lst xs)) : xs.length ≤ sizeLine ∧ ∃ (its : List Value) (n : Nat), Vals xs its ∧ xs.length = its.length ∧ s.heap.get? l = some { cls := .type "list", data := .seq its.toArray n } := by
  obtain ⟨z, its, n, r, e⟩ := I.hok l _ hH
  exact ⟨z, its, n, r, r.length, e⟩
end
section
variable {X : Cx}
def rAppend : V → List V → Hp → VK → Prop := fun x vs H Q => ∃ l xs y, x = .ref l ∧ vs = [y] ∧ H l = some (.lst xs) ∧ xs.length < sizeLine ∧ Q .non (upd H l (.lst (xs ++ [y])))
theorem mt_append : MtM X "list.append" rAppend := by
  intro pins s σ H x vs v us Q I rx rv h
  obtain ⟨l, xs, y, rfl, rfl, hH, hz, q⟩ := h
  cases rx
  obtain ⟨u, rfl, ru⟩ := rv.one
  obtain ⟨z, its, n, r, hl, e⟩ := I.lstM hH
  refine call_meets F.slot_list_append ⟨_, e, rfl⟩ F.entry_list_append (F.args_list_append_2 _ _) (PySem.list_append l its.toArray n u (by rw [List.size_toArray]; omega)) ⟨e, ?_⟩
  refine ⟨.non, _, I.lset (its' := its ++ [u]) hH e (by simp) (r.append (.cons ru .nil)) ?_, rfl, q⟩
  rw [List.length_append, List.length_singleton]
  omega
def rExtend : V → List V → Hp → VK → Prop := fun x vs H Q => ∃ l b xs zs, x = .ref l ∧ vs = [.ref b] ∧ H l = some (.lst xs) ∧ H b = some (.lst zs) ∧ xs.length + zs.length ≤ sizeLine ∧ Q .non (upd H l (.lst (xs ++ zs)))
def rPop : V → List V → Hp → VK → Prop := fun x vs H Q => ∃ l xs y, x = .ref l ∧ vs = [] ∧ H l = some (.lst xs) ∧ xs[xs.length - 1]? = some y ∧ Q y (upd H l (.lst xs.dropLast))
def rPopAt : V → List V → Hp → VK → Prop := fun x vs H Q => ∃ l xs i k y, x = .ref l ∧ vs = [.int i] ∧ H l = some (.lst xs) ∧ -(2 ^ 63) ≤ i ∧ i < 2 ^ 63 ∧ seqIndex? i xs.length = some k ∧ xs[k]? = some y ∧ Q y (upd H l (.lst (xs.eraseIdx k)))
def rReverse : V → List V → Hp → VK → Prop := fun x vs H Q => ∃ l xs, x = .ref l ∧ vs = [] ∧ H l = some (.lst xs) ∧ Q .non (upd H l (.lst xs.reverse))
def rClear : V → List V → Hp → VK → Prop := fun x vs H Q => ∃ l xs, x = .ref l ∧ vs = [] ∧ H l = some (.lst xs) ∧ Q .non (upd H l (.lst []))
def rCat : R2 := fun x y H Q => ∃ l b xs zs, x = .ref l ∧ y = .ref b ∧ H l = some (.lst xs) ∧ H b = some (.lst zs) ∧ xs.length + zs.length ≤ sizeLine ∧ ∀ p, H p = none → Q (.ref p) (upd H p (.lst (xs ++ zs)))
theorem op_cat : OpR X (binaryOp .Add) rCat := by
  intro pins s σ H x y v u Q I rx ry h
  obtain ⟨l, b, xs, zs, rfl, rfl, hH, hB, hz, q⟩ := h
  cases rx
  cases ry
  obtain ⟨z, its, n, r, hl, e⟩ := I.lstM hH
  obtain ⟨z2, its2, n2, r2, hl2, e2⟩ := I.lstM hB
  refine PySem.P.add_list e e2 ?_ (by rw [List.size_toArray, List.size_toArray]; omega)
  have ea : its.toArray ++ its2.toArray = (its ++ its2).toArray := by simp
  rw [ea]
  exact ⟨.ref _, _, I.lnew (t' := s.toks) (r.append r2) (by rw [List.length_append]; omega), rfl, q _ I.fresh⟩
def rRep : R2 := fun x y H Q => ∃ l k xs, x = .ref l ∧ y = .int k ∧ H l = some (.lst xs) ∧ -(2 ^ 63) ≤ k ∧ k < 2 ^ 63 ∧ xs.length * k.toNat ≤ sizeLine ∧
  ∀ p, H p = none → Q (.ref p) (upd H p (.lst (List.replicate k.toNat xs).flatten))
end
section
variable {prog : Program} {w : World} {A : Around} {E : Value → Shared → Prop} {s : Shared}
end
section
variable {X : Cx}
end
end L2
namespace L2
open PySem PySem.Spec PyProof.Rows
section
variable {κ : Type} [DecidableEq κ]
def valV (kvs : List (κ × V)) (k : κ) : Option V := (kvs.find? fun kv => decide (kv.1 = k)).map (·.2)
def putK (kvs : List (κ × V)) (k : κ) (v : V) : List (κ × V) :=
  if (kvs.any fun kv => decide (kv.1 = k)) = true then kvs.map (fun kv => if kv.1 = k then (kv.1, v) else kv) else kvs ++ [(k, v)]
def dropK (kvs : List (κ × V)) (k : κ) : List (κ × V) := kvs.filter fun kv => decide (kv.1 ≠ k)
theorem valV_pos {p : κ × V} {r : List (κ × V)} {k : κ} (e : p.1 = k) : valV (p :: r) k = some p.2 := by simp [valV, List.find?_cons, e]
theorem valV_neg {p : κ × V} {r : List (κ × V)} {k : κ} (e : ¬ p.1 = k) : valV (p :: r) k = valV r k := by simp [valV, List.find?_cons, e]
theorem valV_any (k : κ) : ∀ kvs : List (κ × V), (kvs.any fun kv => decide (kv.1 = k)) = (valV kvs k).isSome
  | [] => rfl
  | p :: r => by
    rw [List.any_cons]
    by_cases e : p.1 = k
    · simp only [valV_pos e, decide_eq_true e, Bool.true_or, Option.isSome_some]
    · rw [valV_neg e, decide_eq_false e, Bool.false_or]; exact valV_any k r
theorem length_putK (kvs : List (κ × V)) (k : κ) (v : V) : (putK kvs k v).length ≤ kvs.length + 1 := by
  unfold putK
  split
  · rw [List.length_map]; omega
  · rw [List.length_append, List.length_cons, List.length_nil]; omega
theorem RelO.isSome_eq {o : Option V} {u : Option Value} (r : RelO o u) : o.isSome = u.isSome := by
  cases o with
  | none => cases u with
    | none => rfl
    | some _ => exact (show False from r).elim
  | some _ => cases u with
    | none => exact (show False from r).elim
    | some _ => rfl
theorem RelO.getD {o : Option V} {u : Option Value} {d : V} {d' : Value} (r : RelO o u) (rd : RelV d d') : RelV (o.getD d) (u.getD d') := by
  cases o with
  | none => cases u with
    | none => exact rd
    | some _ => exact (show False from r).elim
  | some _ => cases u with
    | none => exact (show False from r).elim
    | some _ => exact r
theorem KV.val {kvs : List (κ × V)} {vs : List (κ × Value)} (r : KV kvs vs) (k : κ) : RelO (valV kvs k) (valueAt vs k) := by
  unfold KV at r
  induction r with
  | nil => exact True.intro
  | @cons p q ps qs h t ih =>
    obtain ⟨h1, h2⟩ := h
    by_cases e : p.1 = k
    · have e' : q.1 = k := h1.symm.trans e
      have b : valueAt (q :: qs) k = some q.2 := by simp [valueAt, List.find?_cons, e']
      rw [valV_pos e, b]; exact h2
    · have e' : ¬ q.1 = k := fun z => e (h1.trans z)
      have b : valueAt (q :: qs) k = valueAt qs k := by simp [valueAt, List.find?_cons, e']
      rw [valV_neg e, b]; exact ih
theorem KV.any {kvs : List (κ × V)} {vs : List (κ × Value)} (r : KV kvs vs) (k : κ) : (kvs.any fun kv => decide (kv.1 = k)) = vs.any fun kv => decide (kv.1 = k) := by
  unfold KV at r
  induction r with
  | nil => rfl
  | cons h t ih => rw [List.any_cons, List.any_cons, ih, h.1]
theorem KV.repl {kvs : List (κ × V)} {vs : List (κ × Value)} (r : KV kvs vs) (k : κ) {y : V} {u : Value} (ry : RelV y u) :
    KV (kvs.map fun kv => if kv.1 = k then (kv.1, y) else kv) (vs.map fun kv => if kv.1 = k then (kv.1, u) else kv) := by
  unfold KV at r ⊢
  induction r with
  | nil => exact .nil
  | @cons p q ps qs h t ih =>
    rw [List.map_cons, List.map_cons]
    refine .cons ?_ ih
    obtain ⟨h1, h2⟩ := h
    by_cases e : p.1 = k
    · rw [if_pos e, if_pos (h1.symm.trans e)]; exact ⟨h1, ry⟩
    · rw [if_neg e, if_neg (fun z => e (h1.trans z))]; exact ⟨h1, h2⟩
theorem KV.put {kvs : List (κ × V)} {vs : List (κ × Value)} (r : KV kvs vs) (k : κ) {y : V} {u : Value} (ry : RelV y u) : KV (putK kvs k y) (stored vs k u) := by
  unfold putK stored
  rw [r.any k]
  by_cases e : (vs.any fun kv => decide (kv.1 = k)) = true
  · rw [if_pos e, if_pos e]; exact r.repl k ry
  · rw [if_neg e, if_neg e]; exact Paired.snoc r ⟨rfl, ry⟩
theorem KV.drop {kvs : List (κ × V)} {vs : List (κ × Value)} (r : KV kvs vs) (k : κ) : KV (dropK kvs k) (without vs k) := by
  unfold KV at r ⊢
  unfold dropK without
  induction r with
  | nil => exact .nil
  | @cons p q ps qs h t ih =>
    obtain ⟨h1, h2⟩ := h
    rw [List.filter_cons, List.filter_cons]
    by_cases e : p.1 = k
    · have a : ¬ decide (p.1 ≠ k) = true := by simp [e]
      have b : ¬ decide (q.1 ≠ k) = true := by simp [h1.symm.trans e]
      rw [if_neg a, if_neg b]; exact ih
    · have e' : ¬ q.1 = k := fun z => e (h1.trans z)
      have a : decide (p.1 ≠ k) = true := by simp [e]
      have b : decide (q.1 ≠ k) = true := by simp [e']
      rw [if_pos a, if_pos b]; exact .cons ⟨h1, h2⟩ ih
theorem KV.length {kvs : List (κ × V)} {vs : List (κ × Value)} (r : KV kvs vs) : kvs.length = vs.length := Paired.length r
end
theorem kV_is {P : Program} {w : World} {k : Key} {u : Value} (r : RelV (kV k) u) : (mixKind P w).is k u = true := by
  cases k with
  | inl i => obtain ⟨t, e⟩ := (show ∃ t, u = Value.int i t from r); subst e; exact mixKind_int P w i t
  | inr x => obtain ⟨t, e⟩ := (show ∃ t, u = Value.str x t from r); subst e; exact mixKind_str P w x t
theorem items_are {P : Program} {w : World} : ∀ {ks : List Key} {us : List Value}, Vals (ks.map kV) us → ItemsAre (mixKind P w) ks us
  | [], _, r => by rw [List.map_nil] at r; cases r; exact .nil
  | k :: ks, _, r => by
    rw [List.map_cons] at r
    cases r with
    | cons h t => exact .cons (kV_is h) (items_are t)
abbrev KT (H : Hp) : List (List Key × V) → List (List Key × Addr × Value) → Prop := Paired fun p q => p.1 = q.1 ∧ H q.2.1 = some (.tup (p.1.map kV)) ∧ RelV p.2 q.2.2
theorem KT.val {H : Hp} {kvs : List (List Key × V)} {xs : List (List Key × Addr × Value)} (r : KT H kvs xs) (k : List Key) : RelO (valV kvs k) ((atKey xs k).map (·.2)) := by
  induction r with
  | nil => exact True.intro
  | @cons p q ps qs h t ih =>
    obtain ⟨h1, _, h2⟩ := h
    by_cases e : p.1 = k
    · have e' : q.1 = k := h1.symm.trans e
      have b : atKey (q :: qs) k = some q.2 := by simp [atKey, List.find?_cons, e']
      rw [valV_pos e, b]; exact h2
    · have e' : ¬ q.1 = k := fun z => e (h1.trans z)
      have b : atKey (q :: qs) k = atKey qs k := by simp [atKey, List.find?_cons, e']
      rw [valV_neg e, b]; exact ih
theorem KT.repl {H : Hp} {kvs : List (List Key × V)} {xs : List (List Key × Addr × Value)} (r : KT H kvs xs) (k : List Key) {y : V} {u : Value} (ry : RelV y u) :
    KT H (kvs.map fun kv => if kv.1 = k then (kv.1, y) else kv) (xs.map (putAt k u)) := by
  induction r with
  | nil => exact .nil
  | @cons p q ps qs h t ih =>
    rw [List.map_cons, List.map_cons]
    refine .cons ?_ ih
    obtain ⟨h1, h2, h3⟩ := h
    unfold putAt
    by_cases e : p.1 = k
    · rw [if_pos e, if_pos (h1.symm.trans e)]; exact ⟨h1, h2, ry⟩
    · rw [if_neg e, if_neg (fun z => e (h1.trans z))]; exact ⟨h1, h2, h3⟩
theorem KT.put {H : Hp} {kvs : List (List Key × V)} {xs : List (List Key × Addr × Value)} (r : KT H kvs xs) (k : List Key) {b : Addr} {y : V} {u : Value} (hb : H b = some (.tup (k.map kV))) (ry : RelV y u) :
    KT H (putK kvs k y) (storedH xs k b u) := by
  have e : (kvs.any fun kv => decide (kv.1 = k)) = (atKey xs k).isSome := by
    rw [valV_any, (r.val k).isSome_eq, Option.isSome_map]
  unfold putK storedH
  rw [e]
  by_cases q : (atKey xs k).isSome = true
  · rw [if_pos q, if_pos q]; exact r.repl k ry
  · rw [if_neg q, if_neg q]; exact Paired.snoc r ⟨rfl, hb, ry⟩
theorem KT.keeps {H H' : Hp} {kvs : List (List Key × V)} {xs : List (List Key × Addr × Value)} (r : KT H kvs xs) (ht : ∀ b ys, H b = some (.tup ys) → H' b = some (.tup ys)) : KT H' kvs xs :=
  Paired.mapP r fun _ _ z => ⟨z.1, ht _ _ z.2.1, z.2.2⟩
section
variable {P : Program} {w : World} {H : Hp} {h : Heap} {a : Addr}
theorem rd_of {u : HO} (ok : HOk P w H h) (e : Rd H a u) : ObjOk P w H h a u := e.ok ok
theorem dk_rd {kvs : List (Key × V)} (ok : HOk P w H h) (e : Rd H a (.dK kvs)) : kvs.length ≤ sizeLine ∧ (a == sysModules) = false ∧ ∃ vs, KV kvs vs ∧ h.DictOf (mixKind P w) a vs :=
  show ObjOk P w H h a (.dK kvs) from rd_of ok e
theorem dk_of {kvs : List (Key × V)} (ok : HOk P w H h) (e : H a = some (.dK kvs)) : kvs.length ≤ sizeLine ∧ (a == sysModules) = false ∧ ∃ vs, KV kvs vs ∧ h.DictOf (mixKind P w) a vs := dk_rd ok (.inl e)
theorem key_of {ks : List Key} (ok : HOk P w H h) (e : H a = some (.tup (ks.map kV))) : (tupleKind (mixKind P w)).is h ks a := by
  obtain ⟨_, its, r, o, h1, h2, n, h3⟩ := (show ObjOk P w H h a (.tup (ks.map kV)) from ok a _ e)
  exact ⟨o, its.toArray, n, h1, h2, h3, by simpa using items_are r⟩
theorem dt_rd {kvs : List (List Key × V)} (ok : HOk P w H h) (e : Rd H a (.dT kvs)) : kvs.length ≤ sizeLine ∧ (a == sysModules) = false ∧
    ∃ xs, KT H kvs xs ∧ h.DictOfH (tupleKind (mixKind P w)) a xs := by
  obtain ⟨z, y, xs, r, o, es, ep, h1, h2, h3, h4, h5⟩ := (show ObjOk P w H h a (.dT kvs) from rd_of ok e)
  refine ⟨z, y, xs, r, o, es, ep, h1, h2, h3, h4, fun x hx => ?_, h5⟩
  have all : ∀ {l : List (List Key × V)} {m : List (List Key × Addr × Value)}, KT H l m → ∀ x ∈ m, (tupleKind (mixKind P w)).is h x.1 x.2.1 := by
    intro l m q
    induction q with
    | nil => intro x hx; exact nomatch hx
    | @cons p q ps qs hq t ih =>
      intro x hx
      rcases List.mem_cons.mp hx with e | hx
      · subst e
        exact key_of ok (by rw [← hq.1]; exact hq.2.1)
      · exact ih x hx
  exact all r x hx
theorem dt_of {kvs : List (List Key × V)} (ok : HOk P w H h) (e : H a = some (.dT kvs)) : kvs.length ≤ sizeLine ∧ (a == sysModules) = false ∧
    ∃ xs, KT H kvs xs ∧ h.DictOfH (tupleKind (mixKind P w)) a xs := dt_rd ok (.inl e)
end
def DGet (H : Hp) (a : Addr) (y : V) (r : Option V) : Prop :=
  (∃ kvs k, Rd H a (.dK kvs) ∧ y = kV k ∧ r = valV kvs k) ∨ ∃ kvs k b, Rd H a (.dT kvs) ∧ y = .ref b ∧ H b = some (.tup (k.map kV)) ∧ r = valV kvs k
def DPut (H : Hp) (a : Addr) (y v : V) (H' : Hp) : Prop :=
  (∃ kvs k, H a = some (.dK kvs) ∧ y = kV k ∧ kvs.length < sizeLine ∧ H' = upd H a (.dK (putK kvs k v))) ∨
  ∃ kvs k b, H a = some (.dT kvs) ∧ y = .ref b ∧ H b = some (.tup (k.map kV)) ∧ kvs.length < sizeLine ∧ H' = upd H a (.dT (putK kvs k v))
theorem DGet.k {H : Hp} {a : Addr} {kvs : List (Key × V)} {k : Key} (e : H a = some (.dK kvs)) : DGet H a (kV k) (valV kvs k) := .inl ⟨kvs, k, .inl e, rfl, rfl⟩
theorem DGet.t {H : Hp} {a b : Addr} {kvs : List (List Key × V)} {k : List Key} (e : H a = some (.dT kvs)) (eb : H b = some (.tup (k.map kV))) : DGet H a (.ref b) (valV kvs k) := .inr ⟨kvs, k, b, .inl e, rfl, eb, rfl⟩
theorem DPut.k {H : Hp} {a : Addr} {kvs : List (Key × V)} {k : Key} {v : V} (e : H a = some (.dK kvs)) (hl : kvs.length < sizeLine) : DPut H a (kV k) v (upd H a (.dK (putK kvs k v))) := .inl ⟨kvs, k, e, rfl, hl, rfl⟩
theorem DPut.t {H : Hp} {a b : Addr} {kvs : List (List Key × V)} {k : List Key} {v : V} (e : H a = some (.dT kvs)) (eb : H b = some (.tup (k.map kV))) (hl : kvs.length < sizeLine) :
    DPut H a (.ref b) v (upd H a (.dT (putK kvs k v))) := .inr ⟨kvs, k, b, e, rfl, eb, hl, rfl⟩
section
variable {X : Cx} {pins : List (Addr × Obj)} {σ : St} {H : Hp} {s : Shared} {a : Addr} {y v : V} {u r : Value} {o : Option V} {A : Around} {E : Value → Shared → Prop}
theorem Inv.big (I : Inv X pins σ H s) : sysModules < s.heap.objs.size := by
  have h : mainGlobals < s.heap.objs.size := (I.mod.glob.keeps I.bk).lt
  exact Nat.lt_trans (by decide) h
theorem d_getItem {Q : Value → Shared → Prop} (hu : A.units + 1 < cLine) (I : Inv X pins σ H s) (g : DGet H a y (some v)) (ry : RelV y u) (h : ∀ w' s', Inv X pins σ H s' → RelV v w' → Q w' s') :
    wpAny (model X.prog X.w) A (getItem (.ref a) u) Q E s := by
  rcases g with ⟨kvs, k, e, ey, l⟩ | ⟨kvs, k, b, e, ey, eb, l⟩
  · subst ey
    obtain ⟨z, hd, vs, rel, dd⟩ := dk_rd I.hok e
    obtain ⟨w', hw, rw'⟩ := RelO.some_of (v := v) (o := valueAt vs k) (by rw [l]; exact rel.val k)
    exact wpAny_getItem_of (kV_is ry) dd.mapOf hw (h w' _ (I.tok _) rw')
  · subst ey
    cases (show u = Value.ref b from ry)
    obtain ⟨z, hd, xs, rel, dd⟩ := dt_rd I.hok e
    obtain ⟨w', hw, rw'⟩ := RelO.some_of (v := v) (o := (atKey xs k).map (·.2)) (by rw [l]; exact rel.val k)
    obtain ⟨p, hp, hp2⟩ := Option.map_eq_some_iff.mp hw
    refine wpAny_getItem_heap (tupleKind_room_in1 hu) (key_of I.hok eb) dd hp ?_
    rw [hp2]
    exact h w' _ (I.tok _) rw'
theorem d_notIn {Q : Value → Shared → Prop} (hu : A.units + 1 < cLine) (I : Inv X pins σ H s) (g : DGet H a y o) (ry : RelV y u) (h : ∀ s', Inv X pins σ H s' → Q (.bool (!o.isSome)) s') :
    wpAny (model X.prog X.w) A (compareOp .NotIn u (.ref a)) Q E s := by
  rcases g with ⟨kvs, k, e, ey, l⟩ | ⟨kvs, k, b, e, ey, eb, l⟩
  · subst ey
    obtain ⟨z, hd, vs, rel, dd⟩ := dk_rd I.hok e
    refine wpAny_notIn_of (kV_is ry) hd dd.mapOf ?_
    rw [← (rel.val k).isSome_eq, ← l]
    exact h _ (I.tok _)
  · subst ey
    cases (show u = Value.ref b from ry)
    obtain ⟨z, hd, xs, rel, dd⟩ := dt_rd I.hok e
    refine wpAny_notIn_heap (tupleKind_room_in1 hu) (key_of I.hok eb) hd dd ?_
    have q := (rel.val k).isSome_eq
    rw [Option.isSome_map] at q
    rw [← q, ← l]
    exact h _ (I.tok _)
theorem d_write {h' : Heap} {t' : Nat} {ob : HO} (I : Inv X pins σ H s) (mu : Mut (H a)) (hs : Heap.SameBut a s.heap h') (he : ∃ q, h'.get? a = some q) (new : ObjOk X.prog X.w (upd H a ob) h' a ob) :
    Inv X pins σ (upd H a ob) { s with heap := h', toks := t' } :=
  I.write (x := a) (e := a) mu (.inl rfl) (fun b q hb z => (hs.2 b hb).trans z) he new
theorem dk_new {P : Program} {w : World} {H' : Hp} {h' : Heap} {kvs : List (Key × V)} {vs : List (Key × Value)} (z : kvs.length ≤ sizeLine) (hd : (a == sysModules) = false) (rel : KV kvs vs) (dd : h'.DictOf (mixKind P w) a vs) :
    ObjOk P w H' h' a (.dK kvs) := ⟨z, hd, vs, rel, dd⟩
theorem d_setItem {H' : Hp} {Q : Unit → Shared → Prop} (hu : A.units + 1 < cLine) (I : Inv X pins σ H s) (g : DPut H a y v H') (ry : RelV y u) (rv : RelV v r) (h : ∀ s', Inv X pins σ H' s' → Q () s') :
    wpAny (model X.prog X.w) A (setItem (.ref a) u r) Q E s := by
  rcases g with ⟨kvs, k, e, ey, l, eH⟩ | ⟨kvs, k, b, e, ey, eb, l, eH⟩
  · subst ey eH
    obtain ⟨z, hd, vs, rel, dd⟩ := dk_of I.hok e
    have hz : vs.length ≤ sizeLine := by rw [← rel.length]; exact z
    have hl : (putK kvs k v).length ≤ sizeLine := by have := length_putK kvs k v; omega
    refine wpAny_setItem_pairs (hsz := hz) (kV_is ry) dd fun h' dd' hs => h _ ?_
    have he : ∃ q, h'.get? a = some q := let ⟨q, _, _, hq, _⟩ := dd'; ⟨q, hq⟩
    exact d_write I (by rw [e]; exact True.intro) hs he (dk_new hl hd (rel.put k rv) dd')
  · subst ey eH
    cases (show u = Value.ref b from ry)
    obtain ⟨z, hd, xs, rel, dd⟩ := dt_of I.hok e
    have hz : xs.length ≤ sizeLine := by rw [← Paired.length rel]; exact z
    have hl : (putK kvs k v).length ≤ sizeLine := by have := length_putK kvs k v; omega
    refine wpAny_setItem_heap (hsz := hz) (tupleKind_room_in1 hu) (key_of I.hok eb) dd fun h' dd' hs => h _ ?_
    obtain ⟨q, es, ep, hq, h2, h3, h4, _, h5⟩ := dd'
    refine d_write I (by rw [e]; exact True.intro) hs ⟨q, hq⟩ ⟨hl, hd, _, (rel.put k eb rv).keeps fun c ys ec => ?_, q, es, ep, hq, h2, h3, h4, h5⟩
    rw [upd_ne (ne_of ec e (fun z => nomatch z))]
    exact ec
end
section
variable {X : Cx} {pins : List (Addr × Obj)} {σ : St} {H : Hp} {s : Shared} {a : Addr} {kvs : List (Key × V)} {k : Key} {u : Value} {A : Around} {E : Value → Shared → Prop}
end
def NoSl (i : Expr) : Prop := ∀ ov iv, subscripted i false ov iv = operate [ov, iv] (getItem ov iv)
theorem subD_of {prog : Program} {w : World} {A : Around} {E : Value → Shared → Prop} {s : Shared} {env : Env} {value slice : Expr} {pos : Pos} {T id : String} {Q : Value → Shared → Prop}
    (hl : typeLookup (.type T) "__getitem__" = pure (some (.builtin id))) (hs : NoSl slice)
    (h : wpAny (model prog w) A (eval value env) (fun o s₁ => wpAny (model prog w) A (eval slice env) (fun i s₂ => s₂.TypeIs o T ∧ wpAny (model prog w) A (getItem o i) Q E s₂) E s₁) E s) :
    wpAny (model prog w) A (eval (.Subscript value slice pos) env) Q E s := by
  refine Subscript_ (wpAny_mono h (fun o s₁ h₁ => wpAny_mono h₁ (fun i s₂ h₂ => ?_) fun _ _ x => x) fun _ _ x => x)
  obtain ⟨hT, h₂⟩ := h₂
  unfold subscriptTail
  refine wpAny_bind ?_
  rw [getitemInPython_of_ne hT.not_modules]
  refine wpAny_bind (wpAny_specialOf hT hl ?_)
  have fin : wpAny (model prog w) A (subscripted slice false o i) (fun r s₃ => wpAny (model prog w) A (letTemporaryGo value o r >>= fun _ => pure r) Q E s₃) E s₂ := by
    rw [hs o i]
    exact wpAny_operating (wpAny_mono h₂ (fun r s₃ h₃ => wpAny_bind (wpAny_letTemporaryGo (wpAny_pure h₃))) fun _ _ x => x)
  first
    | exact wpAny_pure (wpAny_bind fin)
    | exact wpAny_bind (wpAny_pure (wpAny_bind fin))
    | exact wpAny_bind fin
theorem dict_typeIs {X : Cx} {pins : List (Addr × Obj)} {σ : St} {H : Hp} {s : Shared} {a : Addr} {y : V} {o : Option V} (I : Inv X pins σ H s) (g : DGet H a y o) : s.TypeIs (.ref a) "dict" := by
  rcases g with ⟨kvs, k, e, _, _⟩ | ⟨kvs, k, b, e, _, _, _⟩
  · obtain ⟨_, _, vs, _, dd⟩ := dk_rd I.hok e
    exact dd.typeIs
  · obtain ⟨_, _, xs, _, dd⟩ := dt_rd I.hok e
    exact dd.typeIs
def tDGet (td ty : TE) : TE := fun σ H Q => td σ H fun x H1 => ty σ H1 fun y H2 => ∃ a v, x = .ref a ∧ DGet H2 a y (some v) ∧ Q v H2
def tDIn (ty td : TE) : TE := fun σ H Q => ty σ H fun y H1 => td σ H1 fun x H2 => ∃ a o, x = .ref a ∧ DGet H2 a y o ∧ Q (.bl o.isSome) H2
def tDNotIn (ty td : TE) : TE := fun σ H Q => ty σ H fun y H1 => td σ H1 fun x H2 => ∃ a o, x = .ref a ∧ DGet H2 a y o ∧ Q (.bl (!o.isSome)) H2
def sDPut (td ty tv : TE) : TS := fun D σ H => tv σ H fun v H1 => td σ H1 fun x H2 => ty σ H2 fun y H3 => ∃ a H4, x = .ref a ∧ DPut H3 a y v H4 ∧ D.nx σ H4
def sDAug (td ty tv : TE) (rd : V → V → Hp → VK → Prop) : TS := fun D σ H => td σ H fun x H1 => ty σ H1 fun y H2 => ∃ a v, x = .ref a ∧ DGet H2 a y (some v) ∧
  tv σ H2 fun y2 H3 => rd v y2 H3 fun z H4 => ∃ H5, DPut H4 a y z H5 ∧ D.nx σ H5
def sDDel (td ty : TE) : TS := fun D σ H => td σ H fun x H1 => ty σ H1 fun y H2 => ∃ a kvs k, x = .ref a ∧ H2 a = some (.dK kvs) ∧ y = kV k ∧ (valV kvs k).isSome = true ∧ D.nx σ (upd H2 a (.dK (dropK kvs k)))
section
variable {X : Cx} {o i e value : Expr} {pos pos' tpos : Pos} {td ty tv : TE}
theorem pe_dget (hu : X.A.units + 1 < cLine) (ho : PE X o td) (hi : PE X i ty) (hs : NoSl i) : PE X (.Subscript o i pos) (tDGet td ty) := by
  intro pins s σ H Q I h
  refine subD_of PySem.F.slot_dict_getitem.lookup hs (thn (ho pins s σ H _ I h) fun u s1 ⟨x, H1, I1, rx, q1⟩ => thn (hi pins s1 σ H1 _ I1 q1) fun iv s2 ⟨y, H2, I2, ry, a, v, ex, g, q2⟩ => ?_)
  subst ex
  obtain rfl : u = Value.ref a := rx
  exact ⟨dict_typeIs I2 g, d_getItem hu I2 g ry fun w' s3 I3 rw' => ⟨v, H2, I3, rw', q2⟩⟩
theorem pc_dnotin (hu : X.A.units + 1 < cLine) (hi : PE X i ty) (ho : PE X o td) : PC X .NotIn i o (tDNotIn ty td) := by
  intro pins s σ H Q I h
  refine thn (hi pins s σ H _ I h) fun iv s1 ⟨y, H1, I1, ry, q1⟩ => thn (ho pins s1 σ H1 _ I1 q1) fun u s2 ⟨x, H2, I2, rx, a, ov, ex, g, q2⟩ => ?_
  subst ex
  obtain rfl : u = Value.ref a := rx
  exact d_notIn hu I2 g ry fun s3 I3 => ⟨.bl (!ov.isSome), H2, I3, rfl, q2⟩
theorem ps_dput (hu : X.A.units + 1 < cLine) (ho : PE X o td) (hi : PE X i ty) (hv : PE X value tv) (hs : swapsWith value (some (.Subscript o i pos')) pos.line X.env = pure false) :
    PS X (.Assign [.Subscript o i pos'] value pos) (sDPut td ty tv) := by
  intro pins s σ H D I h
  refine wpAny_Assign_Subscript (thn (hv pins s σ H _ I h) fun r s1 ⟨v, H1, I1, rv, q1⟩ => thn (ho pins s1 σ H1 _ I1 q1) fun u s2 ⟨x, H2, I2, rx, q2⟩ => thn (hi pins s2 σ H2 _ I2 q2) fun iv s3 ⟨y, H3, I3, ry, a, H4, ex, g, q3⟩ => ?_) hs
  subst ex
  obtain rfl : u = Value.ref a := rx
  exact d_setItem hu I3 g ry rv fun s4 I4 => ⟨σ, H4, I4, q3⟩
end
theorem dk_empty {P : Program} {w : World} {H : Hp} (h : Heap) (hb : sysModules < h.objs.size) : ObjOk P w H (h.push { cls := .type "dict", data := .dict #[] }) h.objs.size (.dK []) :=
  ⟨Nat.zero_le _, beq_eq_false_iff_ne.mpr (Ne.symm (Nat.ne_of_lt hb)), [], .nil, Heap.DictOf.new h⟩
def tDNewK : TE := fun _ H Q => ∀ p, H p = none → Q (.ref p) (upd H p (.dK []))
def tDNewT : TE := fun _ H Q => ∀ p, H p = none → Q (.ref p) (upd H p (.dT []))
section
variable {X : Cx} {pos : Pos}
theorem pe_dnewK : PE X (.Dict [] [] pos) tDNewK := fun pins s σ H Q I h =>
  wpAny_Dict_empty ⟨.ref s.heap.objs.size, _, I.laid (a := s.heap.objs.size) (o := .dK []) (t' := s.toks) (fun _ _ q => Heap.get?_push_of_some _ q) (Nat.le_refl _) (dk_empty s.heap I.big), rfl, h _ (I.hok.fresh (Nat.le_refl _))⟩
end
def tPairs : List (TE × TE) → St → Hp → (List (V × V) → Hp → Prop) → Prop
  | [], _, H, Q => Q [] H
  | (tk, tv) :: r, σ, H, Q => tk σ H fun x H1 => tv σ H1 fun y H2 => tPairs r σ H2 fun ps H3 => Q ((x, y) :: ps) H3
def mergeK (kvs more : List (Key × V)) : List (Key × V) := more.foldl (fun acc kv => putK acc kv.1 kv.2) kvs
def tDisp (trs : List (TE × TE)) : TE := fun σ H Q => ∀ p, H p = none → tPairs trs σ (upd H p (.dK [])) fun ps H2 => H2 p = some (.dK []) ∧ ∃ kvs : List (Key × V), ps = kvs.map (fun kv => (kV kv.1, kv.2)) ∧ kvs.length ≤ 15 ∧ Q (.ref p) (upd H2 p (.dK (mergeK [] kvs)))
structure M1 (X : Cx) (o : Expr) (m : Str) (apos : Pos) (e : Expr) (cpos : Pos) : Prop where
  base : attributeBase o m X.env (eval o X.env) = eval o X.env
  few : ((backTo cpos (starEach [e] X.env)).all (fun x => !x.1) && (backToKw cpos (keywordEach [] X.env)).all (fun x => x.1.isSome)
    && decide (([e] : List Expr).length + ([] : List Keyword).length + (if ([] : List Keyword).isEmpty then 0 else 1) < 30)) = true
  line : (apos.endLine == cpos.line) = true
  trees : backTo cpos (starEach [e] X.env) = [(false, eval e X.env)]
structure M2 (X : Cx) (o : Expr) (m : Str) (apos : Pos) (e f : Expr) (cpos : Pos) : Prop where
  base : attributeBase o m X.env (eval o X.env) = eval o X.env
  few : ((backTo cpos (starEach [e, f] X.env)).all (fun x => !x.1) && (backToKw cpos (keywordEach [] X.env)).all (fun x => x.1.isSome)
    && decide (([e, f] : List Expr).length + ([] : List Keyword).length + (if ([] : List Keyword).isEmpty then 0 else 1) < 30)) = true
  line : (apos.endLine == cpos.line) = true
  trees : backTo cpos (starEach [e, f] X.env) = [(false, eval e X.env), (false, eval f X.env)]
def IsD (H : Hp) (a : Addr) : Prop := (∃ kvs, Rd H a (.dK kvs)) ∨ ∃ kvs, Rd H a (.dT kvs)
section
variable {X : Cx} {pins : List (Addr × Obj)} {σ : St} {H : Hp} {s : Shared} {a : Addr} {y d : V} {u r : Value} {o : Option V} {A : Around} {E : Value → Shared → Prop}
end
def tDGet1 (td ty : TE) : TE := fun σ H Q => td σ H fun x H1 => ∃ a, x = .ref a ∧ IsD H1 a ∧ ty σ H1 fun y H2 => ∃ o, DGet H2 a y o ∧ Q (o.getD .non) H2
def tDGet2 (td ty tx : TE) : TE := fun σ H Q => td σ H fun x H1 => ∃ a, x = .ref a ∧ IsD H1 a ∧ ty σ H1 fun y H2 => tx σ H2 fun z H3 => ∃ o, DGet H3 a y o ∧ Q (o.getD z) H3
def tDPop1 (td ty : TE) : TE := fun σ H Q => td σ H fun x H1 => ∃ a, x = .ref a ∧ IsD H1 a ∧ ty σ H1 fun y H2 => ∃ kvs k v, H2 a = some (.dK kvs) ∧ y = kV k ∧ valV kvs k = some v ∧ Q v (upd H2 a (.dK (dropK kvs k)))
def tDPop2 (td ty tx : TE) : TE := fun σ H Q => td σ H fun x H1 => ∃ a, x = .ref a ∧ IsD H1 a ∧ ty σ H1 fun y H2 => tx σ H2 fun z H3 => ∃ kvs k, H3 a = some (.dK kvs) ∧ y = kV k ∧
  (∀ v, valV kvs k = some v → Q v (upd H3 a (.dK (dropK kvs k)))) ∧ (valV kvs k = none → Q z H3)
section
variable {X : Cx} {o e f : Expr} {apos cpos : Pos} {td ty tx : TE}
end
section
variable {X : Cx} {pins : List (Addr × Obj)} {σ : St} {H : Hp} {s : Shared} {a : Addr} {kvs : List (Key × V)} {A : Around} {E : Value → Shared → Prop}
end
section
variable {X : Cx} {pins : List (Addr × Obj)} {σ : St} {H : Hp} {s : Shared} {a : Addr} {y : V} {u : Value} {A : Around} {E : Value → Shared → Prop}
end
end L2
namespace Att
open PySem PySem.W PySem.Calls PyProof.Rows
theorem ints_of_wellAll {P : Params} {h : Heap} : ∀ (ns : List Int) (vs : List Value), WellAll P h vs (ns.map WData.int) → IntsAre vs ns := by
  intro ns
  induction ns with
  | nil =>
    intro vs w
    rw [List.map_nil] at w
    cases w
    exact .nil
  | cons n ns ih =>
    intro vs w
    rw [List.map_cons] at w
    cases w with
    | cons a b =>
      cases a
      exact .cons _ _ (ih _ b)
theorem script_of {l : OpenLaw} {n : Nat} (hn : l.most = some n) {P : Params} {h : Heap} {args : List WData} {vals : List Value}
    (hpre : l.row.toRowW.claim.pre args = true) (hwl : WellAll P h vals args) :
    ∃ a vs ns, vals = [Value.ref a] ∧ args = [WData.list (ns.map WData.int)] ∧ h.get? a = some { cls := .type "list", data := .seq vs.toArray } ∧ IntsAre vs ns ∧ ns.length ≤ n := by
  have hsh : WShape.hasAll [] args [.list .int] = true := (pre_splitW hpre).1
  have hc : l.pre.holds [] { args := args } = true := (pre_splitW hpre).2
  obtain ⟨d, r, rfl, h1, h2⟩ := hasAllW_cons hsh
  obtain rfl := hasAllW_nil h2
  obtain ⟨xs, rfl, h3⟩ := hasW_list h1
  obtain ⟨ns, rfl⟩ := items_int h3
  have hlen : ns.length ≤ n := by
    unfold OpenLaw.pre at hc
    have h4 : (WTm.not (.lt (.lit (.int (n : Int))) (.len (.arg 0)))).holds [] { args := [.list (ns.map .int)] } = true := by
      have h4 := (holds_andW hc).1
      rw [hn] at h4
      exact h4
    have h5 := condW_of h4 (w_not (w_lt w_lit (w_len_list (w_arg rfl))))
    rw [List.length_map] at h5
    refine Nat.le_of_not_lt fun q => ?_
    have q' : (n : Int) < ((ns.length : Nat) : Int) := by omega
    first
      | (rw [decide_eq_true q'] at h5; exact absurd h5 (by decide))
      | (simp at h5; omega)
  cases hwl with
  | cons w1 w2 =>
    cases w2
    cases w1 with
    | list ho hall => exact ⟨_, _, ns, rfl, rfl, ho, ints_of_wellAll ns _ hall, hlen⟩
theorem post_true (l : OpenLaw) (args : List WData) : l.row.toRowW.claim.post args (.bool true) args = true :=
  postW_of (r := l.row.toRowW) (X := (true == true))
    (show WShape.has [] (.bool true) .bool = true by first | rfl | decide | simp [WShape.has, WShape.arms, WShape.armsAll])
    (show (WTm.eq .res (.lit (.bool true))).value [] { args := args, res := some (.bool true), after := args } = some (.bool (true == true)) from w_eq_bool (w_res rfl) w_lit) rfl
theorem attach_call {l : OpenLaw} {n : Nat} {q : Program} {loose : List Str} {XP : (Str → Option Value) → Heap → Prop} {YP : World → Heap → Prop} {d : DefRec}
    (hn : l.most = some n) (hdf : d.params.defaults = [])
    (call : ∀ (w : World) (s₀ s₁ : Shared) (mg mb : Str → Option Value) (fa : Addr) (o : Obj) (pm cd doc : Value) (a : Addr) (vs : List Value) (ns : List Int),
      Ground q loose [] XP w s₀ mg mb s₁.heap → YP w s₁.heap →
      s₁.heap.get? fa = some o → o.data = .func (docDef d.name d.params d.body d.scope pm cd doc) → s₁.heap.CodeRec cd d.name → mg d.name = some (.ref fa) →
      s₁.heap.get? a = some { cls := .type "list", data := .seq vs.toArray } → IntsAre vs ns → ns.length ≤ n → s₁.gens = #[] →
      codeAny (model l.prog w) callerA (.call (.ref fa) ⟨[.ref a], []⟩) (fun r s' => r = .ok (.ret (.bool true)) ∧ OldK s₁.heap s'.heap ∧ s'.os = s₁.os ∧ AllBare s'.gens) s₁) :
    WalkO q loose XP YP l.row.toRowW d [] (fun f vs => PySem.call f vs) := by
  intro w s₀ s₁ mg mb G Y fa o pm cd doc dV kV ho hd hcd hD hmg hg args vals as hpre hlay hrd hwl hlo
  obtain rfl : dV = .none := Dflts.none hD hdf
  obtain rfl : kV = .none := Dflts.noKw hD
  obtain ⟨a, vs, ns, rfl, rfl, hobj, hints, hlen⟩ := script_of hn hpre hwl
  refine enter_call (codeAny_mono (call w s₀ s₁ mg mb fa o pm cd doc a vs ns G Y ho (fd_plain hd) hcd hmg hobj hints hlen hg) fun r s' hq => ?_)
  obtain ⟨rfl, h2, h3, h4⟩ := hq
  exact ⟨.inl ⟨.bool true, .bool true, [], rfl, fun _ => rfl, .bool true, post_true l _, fun _ => ⟨List.Pairwise.nil, fun _ hm => (nomatch hm)⟩⟩, h2, h3, h4⟩
section
variable {prog : Program} {w : World} {A : Around} {E : Value → Shared → Prop} {s : Shared} {K : Frag}
end
end Att
namespace L2
open PySem PySem.Spec PyProof.Rows
theorem vals_ints : ∀ {vs : List Value} {ns : List Int}, IntsAre vs ns → Vals (ns.map V.int) vs
  | _, _, .nil => .nil
  | _, _, .cons n t h => .cons ⟨t, rfl⟩ (vals_ints h)
def Only (H : Hp) : Prop := ∀ b, H b = none ∨ ∃ o xs, H b = some (.frz o (.lst xs))
theorem law_call {P : Program} {w : World} {K : PySem.W.Frag} {mg mb : Str → Option Value} {CX : CXT} {k : Nat} {fa a : Addr} {fd : FuncData} {x : Str} {sp : Sp} {s₁ : Shared} {vs : List Value} {ns : List Int}
    (KX : K.In s₁.heap) (hns : s₁.heap.Ns mainGlobals mg) (hb : s₁.heap.Ns builtinsNs mb) (hbb : ∀ x : Str, x ≠ "__name__" → mb x = bootBuiltins x) (hlim : s₁.heap.NoLimit) (hg : s₁.gens = #[])
    (ha : s₁.heap.get? a = some { cls := .type "list", data := .seq vs.toArray }) (hi : IntsAre vs ns) (hl : ns.length ≤ sizeLine) (hr : Room k callerA)
    (F : ∀ base : Heap, K.In base → base.Ns mainGlobals mg → FnOk P w K mg base CX k fa fd [x] sp) (hbind : ∀ (s : Shared) (u : Value), BindsTo s fd ⟨[u], []⟩ [(x, u)])
    (hsp : ∀ H : Hp, Only H → SqL K H a (ns.map V.int) → sp [.ref a] H (fun v _ => v = .bl true) fun _ _ _ => False)
    (hCX : ∀ H e s', CX [] H s₁ (fun _ _ _ => False) e s' → False) :
    codeAny (model P w) callerA (.call (.ref fa) ⟨[.ref a], []⟩) (fun r s' => r = .ok (.ret (.bool true)) ∧ OldK s₁.heap s'.heap ∧ s'.os = s₁.os ∧ AllBare s'.gens) s₁ := by
  have rv := vals_ints hi
  have lenV := hi.length
  -- from an abstract heap in which nothing but the script may be tracked
  have core : ∀ H : Hp, Only H → SqL K H a (ns.map V.int) → HOk P w H s₁.heap → (∀ b, H b ≠ none → b = a) → (H a ≠ none → K.lookup a = none) →
      codeAny (model P w) callerA (.call (.ref fa) ⟨[.ref a], []⟩) (fun r s' => r = .ok (.ret (.bool true)) ∧ OldK s₁.heap s'.heap ∧ s'.os = s₁.os ∧ AllBare s'.gens) s₁ := by
    intro H hO hS hok hA hK
    have base_of : ∀ {b : Addr} {o : Obj}, s₁.heap.get? b = some o → H b = none → (hidT s₁.heap H).get? b = some o := fun e n => hidT_get e n
    have noA : ∀ {b : Addr} {o : Obj} {es : Array DictEntry} {ep : Nat}, s₁.heap.get? b = some o → o.data = .dict es ep → H b = none := fun {b o es ep} e d => by
      cases q : H b with
      | none => rfl
      | some u =>
        have e' : b = a := hA b (by rw [q]; simp)
        subst e'
        rw [ha] at e; cases e
        have d' : Data.seq vs.toArray _ = Data.dict es ep := d
        cases d'
    have nsK : ∀ {b : Addr} {m : Str → Option Value}, s₁.heap.Ns b m → (hidT s₁.heap H).Ns b m := fun {b m} ⟨o, es, ep, e, d, r⟩ => ⟨o, es, ep, base_of e (noA e d), d, r⟩
    have hKb : K.In (hidT s₁.heap H) := fun b o e => base_of (KX b o e) (by
      cases q : H b with
      | none => rfl
      | some u =>
        have e' : b = a := hA b (by rw [q]; simp)
        subst e'
        rw [hK (by rw [q]; simp)] at e; cases e)
    have hM : Mod K mg (hidT s₁.heap H) := ⟨hKb, nsK hns, ⟨mb, nsK hb, hbb⟩, let ⟨mc, h1, h2⟩ := hlim; ⟨mc, nsK h1, h2⟩⟩
    have e0 : Env0 P w K mg (hidT s₁.heap H) callerA [] s₁ H := ⟨rfl, hM, fun b o e => of_hidT e, Nat.le_of_eq (hidT_size _ _), trivial, fun b hb => absurd (show b ∈ ([] : List Addr) from hb) (by simp), hok, .of_eq hg⟩
    refine codeAny_mono ((F _ hKb (nsK hns)).run callerA [] s₁ H ⟨[.ref a], []⟩ [.ref a] [.ref a] _ _ hr e0 (hbind s₁ (.ref a)) (.cons rfl .nil) (hsp H hO hS)) fun r s' h => ?_
    cases r with
    | error e => exact (hCX H e s' h).elim
    | ok fl =>
      cases fl with
      | next => exact False.elim h
      | brk => exact False.elim h
      | cont => exact False.elim h
      | ret u =>
        obtain ⟨v, H', os, bare, un, hok', r', q⟩ := h
        have q' : v = .bl true := q
        subst q'
        obtain rfl : u = Value.bool true := r'
        refine ⟨rfl, OldK.of_keep fun b o e => ?_, os, bare⟩
        cases q : H b with
        | none => exact un.keep b o e q (by intro z; exact absurd (show b ∈ ([] : List Addr) from z) (by simp)) (by simp)
        | some u =>
          rcases hO b with z | ⟨ob, xs, z⟩
          · rw [q] at z; cases z
          · have z2 := un.frzs b ob _ z
            obtain ⟨e1, _⟩ := hok b _ z
            obtain ⟨e2, _⟩ := hok' b _ z2
            rw [e] at e1; cases e1
            exact e2
  cases hk : K.lookup a with
  | some o =>
    -- the script is one of the module's own objects
    have e := KX a o hk
    rw [ha] at e
    cases e
    refine core (fun _ => none) (fun _ => .inl rfl) (.inr ⟨_, vs.toArray, _, hk, rfl, rfl, rfl, by rw [List.size_toArray, lenV]; exact hl, by simpa using rv⟩) (fun b u z => by have z' : (none : Option HO) = some u := z; cases z') (fun b z => absurd rfl z) fun z => absurd rfl z
  | none =>
    refine core (fun b => if b = a then some (.frz { cls := .type "list", data := .seq vs.toArray } (.lst (ns.map V.int))) else none) (fun b => ?_) (.inl (.inr ⟨{ cls := .type "list", data := .seq vs.toArray }, if_pos rfl⟩)) (fun b u z => ?_) (fun b z => ?_) fun _ => hk
    · by_cases hb : b = a
      · exact .inr ⟨_, _, if_pos hb⟩
      · exact .inl (if_neg hb)
    · by_cases hb : b = a
      · have z' := (if_pos hb).symm.trans z
        cases z'
        subst hb
        exact ⟨ha, by rw [List.length_map]; exact hl, vs, _, rv, ha⟩
      · have z' := (if_neg hb).symm.trans z
        cases z'
    · by_cases hb : b = a
      · exact hb
      · exact absurd (if_neg hb) z
end L2
namespace L2
open PySem PySem.Spec PyProof.Rows
abbrev KOf {K : PySem.W.Frag} {h : Heap} (_ : K.In h) : PySem.W.Frag := K
theorem walk_of {l : PySem.W.OpenLaw} {n k : Nat} {q : Program} {loose : List Str} {XP : (Str → Option Value) → Heap → Prop} {YP : World → Heap → Prop} {d : DefRec} {K : Params → PySem.W.Frag} {CX : World → CXT} {sp : World → Sp} {x : Str}
    (hn : l.most = some n) (hn2 : n ≤ sizeLine) (hdf : d.params.defaults = []) (hr : Room k callerA)
    (hY : ∀ (w : World) (h : Heap), YP w h → (K w.params).In h)
    (F : ∀ (w : World) (mg : Str → Option Value) (fa : Addr) (h : Heap), (K w.params).In h → h.Ns mainGlobals mg → mg d.name = some (.ref fa) →
      ∃ fd : FuncData, (∀ (s : Shared) (u : Value), BindsTo s fd ⟨[u], []⟩ [(x, u)]) ∧
        ∀ base : Heap, (K w.params).In base → base.Ns mainGlobals mg → FnOk l.prog w (K w.params) mg base (CX w) k fa fd [x] (sp w))
    (hsp : ∀ (w : World) (H : Hp) (a : Addr) (ns : List Int), ns.length ≤ n → Only H → SqL (K w.params) H a (ns.map V.int) → sp w [.ref a] H (fun v _ => v = .bl true) fun _ _ _ => False)
    (hCX : ∀ (w : World) (H : Hp) (s : Shared) (e : Value) (s' : Shared), CX w [] H s (fun _ _ _ => False) e s' → False) :
    PySem.W.WalkO q loose XP YP l.row.toRowW d [] (fun f vs => PySem.call f vs) := by
  refine Att.attach_call hn hdf fun w s₀ s₁ mg mb fa o pm cd doc a vs ns G Y ho hd hcd hmg hobj hints hlen hg => ?_
  have KX := hY w _ Y
  obtain ⟨fd, hb, hF⟩ := F w mg fa _ KX G.T.g hmg
  exact law_call KX G.T.g G.T.b G.T.builtins G.T.nolimit hg hobj hints (Nat.le_trans hlen hn2) hr hF hb (fun H hO hS => hsp w H a ns hlen hO hS) fun H e s' => hCX w H s₁ e s'
theorem walk_ofK {l : PySem.W.OpenLaw} {n k : Nat} {q : Program} {loose : List Str} {XP : (Str → Option Value) → Heap → Prop} {YP : World → Heap → Prop} {d : DefRec} {K : Params → PySem.W.Frag} {CX : CXT} {sp : PySem.W.Frag → Sp} {x : Str}
    (hn : l.most = some n) (hn2 : n ≤ sizeLine) (hdf : d.params.defaults = []) (hr : Room k callerA)
    (hY : ∀ (w : World) (h : Heap), YP w h → (K w.params).In h)
    (F : ∀ (w : World) (mg : Str → Option Value) (fa : Addr) (h : Heap), (K w.params).In h → h.Ns mainGlobals mg → mg d.name = some (.ref fa) →
      ∃ fd : FuncData, (∀ (s : Shared) (u : Value), BindsTo s fd ⟨[u], []⟩ [(x, u)]) ∧
        ∀ base : Heap, (K w.params).In base → base.Ns mainGlobals mg → FnOk l.prog w (K w.params) mg base CX k fa fd [x] (sp (K w.params)))
    (hsp : ∀ (K : PySem.W.Frag) (H : Hp) (a : Addr) (ns : List Int), ns.length ≤ n → Only H → SqL K H a (ns.map V.int) → sp K [.ref a] H (fun v _ => v = .bl true) fun _ _ _ => False)
    (hCX : ∀ (H : Hp) (s : Shared) (e : Value) (s' : Shared), CX [] H s (fun _ _ _ => False) e s' → False) :
    PySem.W.WalkO q loose XP YP l.row.toRowW d [] (fun f vs => PySem.call f vs) :=
  walk_of (K := K) (CX := fun _ => CX) (sp := fun w => sp (K w.params)) hn hn2 hdf hr hY F (fun w H a ns h1 h2 h3 => hsp (K w.params) H a ns h1 h2 h3) fun _ H s e s' => hCX H s e s'
end L2
namespace L2
open PySem PySem.Spec PyProof.Rows
def inClass (s : Stmt) (j : Nat) : Stmt := match s with
  | .ClassDef _ _ _ body _ _ _ _ _ _ _ => body.getD j (.Pass ⟨0, 0, 0, 0⟩)
  | _ => .Pass ⟨0, 0, 0, 0⟩
def defArgs (s : Stmt) : Arguments := match s with
  | .FunctionDef _ a _ _ _ _ _ _ _ _ => a
  | _ => { posonlyargs := [], args := [], vararg := none, kwonlyargs := [], kw_defaults := [], kwarg := none, defaults := [] }
def defBody (s : Stmt) : List Stmt := match s with
  | .FunctionDef _ _ b _ _ _ _ _ _ _ => b
  | _ => []
def defScope (s : Stmt) : Scope := match s with
  | .FunctionDef _ _ _ _ _ _ sc _ _ _ => sc
  | _ => { kind := .function, names := [], isGenerator := false, isCoroutine := false }
abbrev CX0 : CXT := fun _ _ _ _ _ _ => False
abbrev E0 : XK := fun _ _ _ => False
theorem pass0 {X : Cx} : Passes CX0 X E0 := fun _ _ _ _ _ _ _ h => h.elim
structure Fun (K : PySem.W.Frag) (x qual : Str) (st : Stmt) (f : Addr) (fd : FuncData) : Prop where
  ex : ∃ (oc : Value) (od : Option Addr) (kV doc pm : Value) (an : Option Addr) (cdv ct : Value) (osl : Array (Option Value)),
    fd = PySem.W.fnOf x qual (defArgs st) (defBody st) (defScope st) .none kV doc pm an cdv ct ∧ K.lookup f = some ⟨oc, od, .func fd, osl⟩ ∧ PySem.W.codeIn K cdv qual = true
  kp : PySem.W.keepIn K (.ref f) = true
section
variable {P : Program} {w : World} {K : PySem.W.Frag} {mg : Str → Option Value} {base : Heap}
theorem Fun.ok {x qual : Str} {st : Stmt} {f : Addr} {fd : FuncData} {N ps : List Str} {k : Nat} {sp : Sp} (F : Fun K x qual st f fd) (S : FnScope N ps (defScope st)) (len : ∀ vs H Q E, sp vs H Q E → vs.length = ps.length)
    (hbody : ∀ (cdv : Value) (A : Around) (outer : List Env) (s : Shared) (H : Hp) (vs : List V) (Q : VK) (E : XK), Room k (A.deeper (envOfC qual (defScope st) s.heap.objs.size f cdv)) → sp vs H Q E →
      ∃ t, PSs (cxOf CX0 P w K mg base N qual (defScope st) f cdv A outer s H E).nox (defBody st) t ∧ t { nx := fun _ H' => Q .non H', rt := Q } (start N vs) H) : FnOk P w K mg base CX0 (k + 1) f fd ps sp := by
  obtain ⟨oc, od, kV, doc, pm, an, cdv, ct, osl, rfl, lk, hcd⟩ := F.ex
  refine fn_of lk hcd S len fun A outer s H vs Q E hr hsp => ?_
  obtain ⟨t, h, q⟩ := hbody cdv A outer s H vs Q E hr hsp
  exact ⟨t, h.nox, q⟩
theorem Fun.binds {x qual : Str} {st : Stmt} {f : Addr} {fd : FuncData} {ps : List Str} (F : Fun K x qual st f fd)
    (h : ∀ (kV doc pm : Value) (an : Option Addr) (cdv ct : Value) (us : List Value), us.length = ps.length → bindArgs (PySem.W.fnOf x qual (defArgs st) (defBody st) (defScope st) .none kV doc pm an cdv ct) ⟨us, []⟩ = pure (ps.zip us)) : Binds K fd ps [] := by
  obtain ⟨oc, od, kV, doc, pm, an, cdv, ct, osl, rfl, lk, hcd⟩ := F.ex
  exact .all (h kV doc pm an cdv ct)
theorem fun_mk {x qual : Str} {st : Stmt} {f : Addr} {oc : Value} {od an : Option Addr} {osl : Array (Option Value)} {kV doc pm cdv ct : Value} (l : K.lookup f = some ⟨oc, od, .func (PySem.W.fnOf x qual (defArgs st) (defBody st) (defScope st) .none kV doc pm an cdv ct), osl⟩)
    (c : PySem.W.codeIn K cdv qual = true) (k : PySem.W.keepIn K (.ref f) = true) : Fun K x qual st f (PySem.W.fnOf x qual (defArgs st) (defBody st) (defScope st) .none kV doc pm an cdv ct) := ⟨⟨oc, od, kV, doc, pm, an, cdv, ct, osl, rfl, l, c⟩, k⟩
end
theorem hu_of {A : Around} {k : Nat} (hr : Room k A) : A.units + 1 < cLine := Nat.lt_of_le_of_lt (Nat.add_le_add_left (by decide : 1 ≤ 64) _) hr.units
section
variable {X : Cx}
theorem pv (i : Nat) {x : Str} {pos : Pos} (hN : X.N[i]? = some x := by rfl) (hv : Vis X.env.scope x := by first | exact Or.inl rfl | exact Or.inr (Or.inl rfl) | exact Or.inr (Or.inr rfl)) (hd : (x == ("__debug__" : Str)) = false := by decide)
    (hcd : (x == ("__classdict__" : Str)) = false := by decide) : PE X (.Name x pos) (tVar i) := pe_var hN hv hd hcd
end
def Same (H H' : Hp) : Prop := ∀ b o, H b = some o → H' b = some o
theorem Same.refl (H : Hp) : Same H H := fun _ _ h => h
theorem Same.trans {H H1 H2 : Hp} (a : Same H H1) (b : Same H1 H2) : Same H H2 := fun c o h => b c o (a c o h)
theorem Same.free {H H' : Hp} (e : Same H H') {l : Addr} (h : H' l = Option.none) : H l = Option.none := by
  cases q : H l with
  | none => rfl
  | some o =>
    rw [e l o q] at h
    cases h
theorem Same.seq {K : PySem.W.Frag} {H H' : Hp} {a : Addr} {xs : List V} (e : Same H H') (h : SqL K H a xs) : SqL K H' a xs := by
  rcases h with (h | ⟨o, h⟩) | h
  · exact .inl (.inl (e _ _ h))
  · exact .inl (.inr ⟨o, e _ _ h⟩)
  · exact .inr h
section
variable {κ : Type} [DecidableEq κ]
end
end L2
set_option maxHeartbeats 4000000
namespace L2
open PySem PySem.Spec PyProof.Rows
def clOf (cells : List (Str × Addr)) : List (Str × NameKind) → List (Str × Addr) → List (Str × Addr)
  | [], acc => acc
  | (n, k) :: r, acc => if k == .free then (match cells.lookup n with | some c => clOf cells r ((n, c) :: acc) | none => clOf cells r acc) else clOf cells r acc
theorem clOf_go {env : Env} : ∀ (names : List (Str × NameKind)) (acc : List (Str × Addr)), (∀ y ∈ names, y.2 = .free → ∃ c, env.cells.lookup y.1 = some c) →
    (forIn names acc (fun (x : Str × NameKind) (cs : List (Str × Addr)) => (if (x.2 == .free) = true then do let a ← cellOf env x.1; pure (ForInStep.yield ((x.1, a) :: cs)) else pure (ForInStep.yield cs) : Sem (ForInStep (List (Str × Addr)))))) = pure (clOf env.cells names acc)
  | [], acc, _ => rfl
  | (n, k) :: r, acc, h => by
    have hr : ∀ y ∈ r, y.2 = .free → ∃ c, env.cells.lookup y.1 = some c := fun y hy => h y (List.mem_cons_of_mem _ hy)
    rw [List.forIn_cons]
    by_cases hk : (k == NameKind.free) = true
    · have e : k = .free := by simpa using hk
      obtain ⟨c, hc⟩ := h (n, k) List.mem_cons_self e
      have hc' : env.cells.lookup n = some c := hc
      simp only [clOf, hk, if_true, hc', cellOf]
      exact clOf_go r _ hr
    · simp only [clOf, hk]
      exact clOf_go r _ hr
theorem clOf_ok {scope : Scope} {env : Env} (h : ∀ y ∈ scope.names, y.2 = .free → ∃ c, env.cells.lookup y.1 = some c) : closureFor scope env = pure (clOf env.cells scope.names []) := by
  unfold closureFor
  exact congrArg (fun t => t >>= pure) (clOf_go scope.names [] h)
theorem clOf_sub {cells : List (Str × Addr)} : ∀ (names : List (Str × NameKind)) (acc : List (Str × Addr)) {x : Str} {c : Addr}, (clOf cells names acc).lookup x = some c → acc.lookup x = some c ∨ cells.lookup x = some c
  | [], acc, x, c, h => .inl h
  | (n, k) :: r, acc, x, c, h => by
    unfold clOf at h
    split at h
    · cases q : cells.lookup n with
      | none => rw [q] at h; exact clOf_sub r acc h
      | some d =>
        rw [q] at h
        rcases clOf_sub r _ h with z | z
        · rw [List.lookup_cons] at z
          by_cases hx : (x == n) = true
          · rw [hx] at z
            have e : x = n := by simpa using hx
            subst e
            right; rw [q]; exact z
          · have hx' : (x == n) = false := by simpa using hx
            rw [hx'] at z; exact .inl z
        · exact .inr z
    · exact clOf_sub r acc h
theorem clOf_keep {cells : List (Str × Addr)} : ∀ (names : List (Str × NameKind)) (acc : List (Str × Addr)) {x : Str} {c : Addr}, acc.lookup x = some c → cells.lookup x = some c → (clOf cells names acc).lookup x = some c
  | [], acc, x, c, h, _ => h
  | (n, k) :: r, acc, x, c, h, hc => by
    unfold clOf
    split
    · cases q : cells.lookup n with
      | none => exact clOf_keep r acc h hc
      | some d =>
        refine clOf_keep r _ ?_ hc
        rw [List.lookup_cons]
        by_cases hx : (x == n) = true
        · have e : x = n := by simpa using hx
          subst e
          rw [hx]; rw [q] at hc; exact hc
        · have hx' : (x == n) = false := by simpa using hx
          rw [hx']; exact h
    · exact clOf_keep r acc h hc
theorem clOf_has {cells : List (Str × Addr)} : ∀ (names : List (Str × NameKind)) (acc : List (Str × Addr)) {x : Str} {c : Addr}, (x, NameKind.free) ∈ names → cells.lookup x = some c → (clOf cells names acc).lookup x = some c
  | [], _, _, _, h, _ => nomatch h
  | (n, k) :: r, acc, x, c, h, hc => by
    rcases List.mem_cons.mp h with e | h
    · cases e
      unfold clOf
      rw [if_pos (by decide), hc]
      refine clOf_keep r _ ?_ hc
      rw [List.lookup_cons]; simp
    · unfold clOf
      split
      · cases q : cells.lookup n with
        | none => exact clOf_has r acc h hc
        | some d => exact clOf_has r _ h hc
      · exact clOf_has r acc h hc
theorem lookup_mem {α : Type} : ∀ {l : List (Str × α)} {x : Str} {a : α}, l.lookup x = some a → (x, a) ∈ l
  | [], _, _, h => by simp at h
  | (n, b) :: r, x, a, h => by
    rw [List.lookup_cons] at h
    by_cases hx : (x == n) = true
    · have e : x = n := by simpa using hx
      subst e
      rw [hx] at h
      have e2 : b = a := Option.some.inj h
      subst e2
      exact List.mem_cons_self
    · have hx' : (x == n) = false := by simpa using hx
      rw [hx'] at h
      exact List.mem_cons_of_mem _ (lookup_mem h)
theorem relabel_mem {env : Env} {scope : Scope} {x : Str} {k : NameKind} (h : (relabel scope env).names.lookup x = some k) (hk : k = .cell ∨ k = .free) (hc : ∀ y ∈ scope.names, y.2 ≠ .cell) : (x, NameKind.free) ∈ scope.names := by
  have h1 := lookup_mem h
  obtain ⟨⟨n, j⟩, hm, e⟩ := List.mem_map.mp h1
  have e' : (if (j == NameKind.free && env.scope.kind == .function && env.kindOf n == some .cell) = true then (n, NameKind.cell) else (n, j)) = (x, k) := e
  split at e'
  · rename_i hcond
    have e1 : n = x := (Prod.mk.inj e').1
    subst e1
    have hj : j = .free := by
      simp only [Bool.and_eq_true] at hcond
      simpa using hcond.1.1
    subst hj
    exact hm
  · have e1 : n = x := (Prod.mk.inj e').1
    have e2 : j = k := (Prod.mk.inj e').2
    subst e1; subst e2
    rcases hk with z | z
    · exact absurd z (hc _ hm)
    · subst z; exact hm
theorem lookup_relabel_free {env : Env} {scope : Scope} {x : Str} (h : scope.names.lookup x = some .free) : (relabel scope env).names.lookup x = some .cell ∨ (relabel scope env).names.lookup x = some .free := by
  have all : ∀ (names : List (Str × NameKind)), names.lookup x = some .free →
      (names.map fun (n, k) => if (k == NameKind.free && env.scope.kind == .function && env.kindOf n == some .cell) then (n, NameKind.cell) else (n, k)).lookup x = some .cell ∨
      (names.map fun (n, k) => if (k == NameKind.free && env.scope.kind == .function && env.kindOf n == some .cell) then (n, NameKind.cell) else (n, k)).lookup x = some .free := by
    intro names
    induction names with
    | nil => intro h; simp at h
    | cons p r ih =>
      obtain ⟨n, k⟩ := p
      intro h
      rw [List.map_cons]
      by_cases hx : (x == n) = true
      · simp only [List.lookup_cons, hx] at h
        have hk : k = .free := Option.some.inj h
        subst hk
        by_cases hc : (NameKind.free == NameKind.free && env.scope.kind == .function && env.kindOf n == some .cell) = true
        · left; simp only [if_pos hc, List.lookup_cons, hx]
        · right; simp only [if_neg hc, List.lookup_cons, hx]
      · have hx' : (x == n) = false := by simpa using hx
        simp only [List.lookup_cons, hx'] at h
        by_cases hc : (k == NameKind.free && env.scope.kind == .function && env.kindOf n == some .cell) = true
        · simp only [if_pos hc, List.lookup_cons, hx']; exact ih h
        · simp only [if_neg hc, List.lookup_cons, hx']; exact ih h
  exact all scope.names h
abbrev Cx.block (X : Cx) (scope : Scope) (C : Addr) (N : List Str) (s : Shared) (H : Hp) (fp : List Addr) : Cx where
  prog := X.prog
  w := X.w
  K := X.K
  mg := X.mg
  base := X.base
  A := X.A
  N := N
  s₀ := s
  H₀ := H
  env := compEnvC scope (clOf X.env.cells scope.names []) C X.env
  outer := X.stack
  stack := X.stack
  ex := fp
  fn := fun _ => false
  calm := X.calm
  pn := []
  xe := fun _ _ => False
structure CScope (env : Env) (scope : Scope) : Prop where
  kind : scope.kind = .function
  nocell : ∀ y ∈ scope.names, y.2 ≠ .cell
  fr : ∀ y ∈ scope.names, y.2 = .free → env.kindOf y.1 = some .cell ∨ env.kindOf y.1 = some .free
  loc : ∀ x ∈ scope.names, x.2 = .local → scope.names.lookup x.1 = some .local
def blk (sel : List (Option Nat)) (σ : St) : St := sel.map fun o => o.bind fun j => (σ[j]?).join
def SelOk (M : List Str) (scope : Scope) (N : List Str) (sel : List (Option Nat)) : Prop :=
  sel.length = N.length ∧ ∀ (i j : Nat) (x : Str), sel[i]? = some (some j) → N[i]? = some x → M[j]? = some x ∧ scope.names.lookup x = some .free
section
variable {X : Cx} {pins : List (Addr × Obj)} {σ : St} {H : Hp} {s : Shared} {scope : Scope} {fp : List Addr} {C : Addr} {N : List Str}
theorem CScope.cells (S : CScope X.env scope) (ok : X.Ok) : ∀ y ∈ scope.names, y.2 = .free → ∃ c, X.env.cells.lookup y.1 = some c := fun y hy e => ok.has y.1 (S.fr y hy e)
theorem cl_sub {x : Str} {c : Addr} (h : (clOf X.env.cells scope.names []).lookup x = some c) : X.env.cells.lookup x = some c := by
  rcases clOf_sub _ _ h with z | z
  · simp at z
  · exact z
theorem block_ok (I : Inv X pins σ H s) (S : CScope X.env scope) (hf : ∀ b ∈ fp, FpOk X pins H b) (hs : ∀ b ∈ fp, b < s.heap.objs.size) (hC : s.heap.objs.size ≤ C) : (X.block scope C N s H fp).Ok where
  mod := I.ok.mod
  kind := S.kind
  glob := I.ok.glob
  blt := I.ok.blt
  above := hC
  inj := fun x y c h1 h2 => I.ok.inj x y c (cl_sub h1) (cl_sub h2)
  has := fun x h => by
    have hk : ∃ k, (relabel scope X.env).names.lookup x = some k ∧ (k = .cell ∨ k = .free) := by
      rcases h with h | h
      · exact ⟨_, h, .inl rfl⟩
      · exact ⟨_, h, .inr rfl⟩
    obtain ⟨k, h1, h2⟩ := hk
    have hm := relabel_mem h1 h2 S.nocell
    obtain ⟨c, hc⟩ := S.cells I.ok _ hm rfl
    exact ⟨c, clOf_has _ _ hm hc⟩
  cab := fun _ _ h _ => nomatch h
  hd := I.ok.hd
  frames := I.ok.frames
  stk := .inl rfl
  exf := fun b hb => ⟨Nat.ne_of_lt (Nat.lt_of_lt_of_le (hs b hb) hC), fun x c e => (hf b hb).2.2.2.2.1 x c (cl_sub e)⟩
  bs := I.bs
  bsz := Nat.le_trans I.ok.bsz I.sz
  noex := fun b o e hb => by
    rcases (hf b hb).2.2.2.1 with z | z
    · exact I.ok.noex b o e z
    · exact absurd (Nat.lt_of_lt_of_le (Nat.lt_of_lt_of_le (Heap.lt_size e) I.ok.bsz) z) (Nat.lt_irrefl _)
  exfs := fun b hb hz => by
    rcases List.mem_cons.mp (I.stkSub b hz) with z | z
    · exact (hf b hb).2.1 z
    · exact (hf b hb).2.2.1 z
  funs := I.stack
  frf := I.stkFree
theorem block_inv {h' : Heap} {t' : Nat} {m : Str → Option Value} {sel : List (Option Nat)} (I : Inv X pins σ H s) (S : CScope X.env scope) (hf : ∀ b ∈ fp, FpOk X pins H b) (hs : ∀ b ∈ fp, b < s.heap.objs.size) (hC : s.heap.objs.size ≤ C)
    (k : ∀ b o, s.heap.get? b = some o → h'.get? b = some o) (hn : h'.Ns C m) (hsel : SelOk X.N scope N sel) : Inv (X.block scope C N s H fp) [] (blk sel σ) H { s with heap := h', toks := t' } where
  ok := block_ok I S hf hs hC
  os := rfl
  bare := I.bare
  base := Un.kept k
  loc := by
    refine ⟨m, hn, fun i x v e1 e2 e3 => ?_⟩
    obtain ⟨m0, hn0, hl⟩ := I.loc
    obtain ⟨j, ej, eσ⟩ : ∃ j, sel[i]? = some (some j) ∧ σ[j]? = some (some v) := by
      unfold blk at e2
      rw [List.getElem?_map] at e2
      cases q : sel[i]? with
      | none => rw [q] at e2; cases e2
      | some o =>
        rw [q] at e2
        cases o with
        | none => cases e2
        | some j =>
          refine ⟨j, rfl, ?_⟩
          have e2' : (σ[j]?).join = some v := Option.some.inj e2
          cases r : σ[j]? with
          | none => rw [r] at e2'; cases e2'
          | some z => rw [r] at e2'; exact congrArg some e2'
    obtain ⟨eN, hfr⟩ := hsel.2 i j x ej e1
    have hm := lookup_mem hfr
    have hk := S.fr _ hm rfl
    have hv : Vis X.env.scope x := hk.elim (fun z => .inr (.inl z)) fun z => .inr (.inr z)
    obtain ⟨u, r, l⟩ := hl j x v eN eσ hv
    refine ⟨u, r, ?_⟩
    rcases l with ⟨hloc, _⟩ | ⟨_, c, hc, hcell⟩
    · rcases hk with z | z <;> (have z' : X.env.kindOf x = _ := z; rw [hloc] at z'; cases z')
    · refine .inr ⟨?_, c, clOf_has _ _ hm hc, ?_⟩
      · exact lookup_relabel_free hfr
      · obtain ⟨o, ho, hd⟩ := hcell
        exact ⟨o, k _ _ ho, hd⟩
  cell := fun x c e => by
    obtain ⟨v, o, ho, hd⟩ := I.cell x c (cl_sub e)
    exact ⟨v, o, k _ _ ho, hd⟩
  free := I.hok.fresh hC
  freeC := fun x c e => I.freeC x c (cl_sub e)
  pin := fun p hp => nomatch hp
  hok := I.hok.kept k
  len := by unfold blk; rw [List.length_map]; exact hsel.1
theorem Inv.adopt {a : Addr} {o : HO} (I : Inv X pins σ H s) (fo : FpOk X pins H a) (new : ObjOk X.prog X.w (upd H a o) s.heap a o) : Inv X pins σ (upd H a o) s := by
  obtain ⟨hn, hL, hfs, hex, hcl, hpn⟩ := fo
  refine I.step (g' := s.gens) (d' := s.drawn) (t' := s.toks) (h' := s.heap) (ch := [a]) (fun b hb => ?_) (fun b o _ _ _ e _ => e) (fun b o _ _ _ e _ => ⟨o.slots, e⟩) (fun b o hb e n => ?_) (fun b o _ e => ⟨o, e⟩)
    (fun b xs e => ?_) (fun b o u e => ?_) (fun b ps e => ⟨#[], ?_⟩) (fun m hm => hm) (fun b u e => ?_) I.bare
  · have e : b = a := by simpa using hb
    subst e
    exact ⟨hex, hL, hcl, hpn⟩
  · rw [upd_ne (fun z => hb (by simp [z]))]; exact n
  · rw [upd_ne (ne_of_none e hn)]; exact e
  · rw [upd_ne (ne_of_none e hn)]; exact e
  · rw [upd_ne (ne_of_none e hn), e]; simp
  · by_cases hb : b = a
    · subst hb; rw [upd_same] at e; cases e; exact new
    · rw [upd_ne hb] at e
      exact (I.hok b u e).stay (fun c v _ q => q) (fun c q => by rw [upd_ne (ne_of_none q hn)]; exact q) fun c xs q => by rw [upd_ne (ne_of_none q hn)]; exact q
end
theorem codeAny_compLoop_all {prog : Program} {w : World} {A : Around} {R : Result → Shared → Prop} {s : Shared} {elt target iter : Expr} {ifs : List Expr} {scope : Scope} {pos : Pos} {it acc : Value} {env : Env} (I : Nat → Shared → Prop)
    (turn : ∀ n s, I n s → wpAny (model prog w) A (pyNext it) (fun r s₁ => match r with
      | none => R (.ok .next) s₁
      | some v => wpAny (model prog w) A (letOwnedTupleGo target it v) (fun _ s₀ => wpAny (model prog w) A (assign target env v) (fun _ s₂ =>
          wpAny (model prog w) A (forIn ifs true fun c r => if r = true then do let ok ← isTrue c env (eval c env); pure (ForInStep.yield ok) else pure (ForInStep.yield r)) (fun ok s₃ =>
            if ok = true then wpAny (model prog w) A (eval elt env) (fun x s₄ =>
              wpAny (model prog w) A (call (.builtin "list.append") [acc, x]) (fun _ s₅ => ∃ m, m < n ∧ I m s₅) (fun _ _ => False) s₄) (fun _ _ => False) s₃
            else ∃ m, m < n ∧ I m s₃) (fun _ _ => False) s₂) (fun _ _ => False) s₀) (fun _ _ => False) s₁) (fun _ _ => False) s)
    (n : Nat) (h : I n s) :
    codeAny (model prog w) A (.compLoop (.ListComp elt [⟨target, iter, ifs, 0⟩] scope pos) 0 it acc env) R s := by
  refine codeAny_loop rfl I (fun n s hI => ?_) n h
  show wpAny _ A ((compTurn (.ListComp elt [⟨target, iter, ifs, 0⟩] scope pos) 0 it acc env).onRaise (fun x => do noteFrame x env; theTreesLotGoes x)) _ _ s
  refine wpAny_noted (wpAny_noRaise ?_)
  rw [compTurn_list]
  refine wpAny_bind (wpAny_standAt (wpAny_bind (wpAny_mono (turn n s hI) (fun r s₁ h₁ => ?_) fun _ _ h' => h')))
  cases r with
  | none => exact wpAny_pure h₁
  | some v =>
    refine wpAny_bind (wpAny_mono h₁ (fun _ s₀ h₀ => ?_) fun _ _ h' => h')
    refine wpAny_bind (wpAny_mono h₀ (fun _ s₂ h₂ => wpAny_bind (wpAny_mono h₂ (fun ok s₃ h₃ => ?_) fun _ _ h' => h')) fun _ _ h' => h')
    cases ok with
    | false => exact wpAny_pure ⟨rfl, h₃⟩
    | true =>
      exact wpAny_bind (wpAny_bind (wpAny_mono h₃ (fun x s₄ h₄ => wpAny_bind (wpAny_mono h₄ (fun _ s₅ h₅ => wpAny_pure (wpAny_pure ⟨rfl, h₅⟩)) fun _ _ h' => h')) fun _ _ h' => h'))
def PTs (X : Cx) (ifs : List Expr) (t : TT) : Prop :=
  ∀ (pins : List (Addr × Obj)) (s : Shared) (σ : St) (H : Hp) (Q : Bool → Hp → Prop), Inv X pins σ H s → t σ H Q →
    wpAny (model X.prog X.w) X.A (forIn ifs true fun c r => if r = true then do let ok ← isTrue c X.env (eval c X.env); pure (ForInStep.yield ok) else pure (ForInStep.yield r)) (TP X pins σ Q) X.xe s
def tTrue : TT := fun _ H Q => Q true H
theorem pts_nil {X : Cx} : PTs X [] tTrue := fun _ _ _ H _ I h => wpAny_tests_nil ⟨H, I, h⟩
def Sub (σ σ' : St) : Prop := σ'.length = σ.length ∧ ∀ (i : Nat) (v : V), σ[i]? = some (some v) → σ'[i]? = some (some v)
theorem Sub.refl (σ : St) : Sub σ σ := ⟨rfl, fun _ _ h => h⟩
theorem Sub.set {σ σ' : St} {i : Nat} {x : Option V} (h : Sub σ σ') (e : σ[i]? = some none) : Sub σ (σ'.set i x) := by
  refine ⟨by rw [List.length_set]; exact h.1, fun j v q => ?_⟩
  have hj : i ≠ j := fun z => by subst z; rw [e] at q; cases q
  rw [List.getElem?_set_ne hj]
  exact h.2 j v q
def CompW (J : It) (g : TG) (tc : TT) (te : TE) (σb : St) (Q : VK) (W : Nat → Nat → List V → Hp → Prop) : Prop := ∀ i m ys H, W i m ys H →
  (J.stop i H ∧ ∀ p, H p = none → Q (.ref p) (upd H p (.lst ys))) ∨
  (J.go i H ∧ ys.length < sizeLine ∧ ∀ x H', J.yld i H x H' → g x σb H' fun σ2 H2 => Sub σb σ2 ∧ tc σ2 H2 fun c H3 => if c = true then te σ2 H3 fun y H4 => ∃ m', m' < m ∧ W (i + 1) m' (ys ++ [y]) H4 else ∃ m', m' < m ∧ W (i + 1) m' ys H3)
def tComp (wi : TI) (g : TG) (tc : TT) (te : TE) (sel : List (Option Nat)) : TE := fun σ H Q => wi σ H fun J H1 => ∃ W : Nat → Nat → List V → Hp → Prop, (∃ m, W 0 m [] H1) ∧ CompW J g tc te (blk sel σ) Q W
section
variable {X : Cx} {elt tg iter : Expr} {ifs : List Expr} {scope : Scope} {pos : Pos} {wi : TI} {g : TG} {tc : TT} {te : TE} {N : List Str} {sel : List (Option Nat)}
structure Blk (X : Cx) (scope : Scope) (N : List Str) (tg elt : Expr) (ifs : List Expr) (g : TG) (tc : TT) (te : TE) : Prop where
  tgt : ∀ C s H fp, PG (X.block scope C N s H fp) tg g
  tests : ∀ C s H fp, PTs (X.block scope C N s H fp) ifs tc
  elem : ∀ C s H fp, PE (X.block scope C N s H fp) elt te
theorem Blk.of {X : Cx} {scope : Scope} {N : List Str} {tg elt : Expr} {ifs : List Expr} {g : TG} {tc : TT} {te : TE} (h1 : ∀ C s H fp, PG (X.block scope C N s H fp) tg g)
    (h2 : ∀ C s H fp, ∃ t, PTs (X.block scope C N s H fp) ifs t ∧ t = tc) (h3 : ∀ C s H fp, ∃ t, PE (X.block scope C N s H fp) elt t ∧ t = te) : Blk X scope N tg elt ifs g tc te :=
  ⟨h1, fun C s H fp => by obtain ⟨t, h, rfl⟩ := h2 C s H fp; exact h, fun C s H fp => by obtain ⟨t, h, rfl⟩ := h3 C s H fp; exact h⟩
theorem comp_core {pins : List (Addr × Obj)} {s₂ : Shared} {σ : St} {H₂ : Hp} {Q : VK} {it : Addr} {fp : List Addr} {tn : Nat → Heap → Prop} {J : It} {W : Nat → Nat → List V → Hp → Prop} {E : Value → Shared → Prop} {RR : Value → Addr → Result → Shared → Prop}
    (hc : X.calm = true) (S : CScope X.env scope) (hsel : SelOk X.N scope N sel) (B : Blk X scope N tg elt ifs g tc te) (I2 : Inv X pins σ H₂ s₂) (T : Turn X.prog X.w X.K tg J fp it tn) (st2 : tn 0 s₂.heap) (f2 : ∀ b ∈ fp, FpOk X pins H₂ b)
    (w0 : ∃ m, W 0 m [] H₂) (hW : CompW J g tc te (blk sel σ) Q W)
    (fin : ∀ D C ys H' s', Inv X pins σ (upd H' D (.lst ys)) s' → (∃ m, s'.heap.Ns C m) → FpOk X pins (upd H' D (.lst ys)) C → Q (.ref D) (upd H' D (.lst ys)) → RR (.ref D) C (.ok .next) s') :
    wpAny (model X.prog X.w) X.A (newList []) (fun acc s₃ => wpAny (model X.prog X.w) X.A (newFunctionEnv scope X.env.globals (clOf X.env.cells scope.names []) [] X.env.qual none .none (some X.env)) (fun cenv s₄ =>
      codeAny (model X.prog X.w) X.A (.compStart (.ListComp elt [⟨tg, iter, ifs, 0⟩] scope pos) 0 (.ref it) acc { cenv with scope := relabel scope X.env }) (RR acc cenv.locals) s₄) E s₃) E s₂ := by
  refine wpAny_newObj_type (wpAny_newFunctionEnv S.nocell (by intro y hy; simp at hy) (fun h₁ hns₁ hsb₁ => ?_) S.kind)
  dsimp only at hns₁ hsb₁ ⊢
  generalize hH2 : s₂.heap.push { cls := .type "list", dict := none, data := .seq ([] : List Value).toArray } = H2 at hns₁ hsb₁ ⊢
  have hC : H2.objs.size = s₂.heap.objs.size + 1 := by rw [← hH2, Heap.size_push]
  have hDC : s₂.heap.objs.size ≠ H2.objs.size := by rw [hC]; exact Nat.ne_of_lt (Nat.lt_succ_self _)
  have hCle : s₂.heap.objs.size ≤ H2.objs.size := by rw [hC]; exact Nat.le_succ _
  have below : ∀ b, b < s₂.heap.objs.size → b ≠ H2.objs.size ∧ b ≠ s₂.heap.objs.size := fun b hb => ⟨by rw [hC]; exact Nat.ne_of_lt (Nat.lt_succ_of_lt hb), Nat.ne_of_lt hb⟩
  have old : ∀ b o, s₂.heap.get? b = some o → h₁.get? b = some o := fun b o e => hsb₁.extBut b o (below b (Heap.lt_size e)).1 (Heap.get?_push_of_some _ (hH2 ▸ Heap.get?_push_of_some _ e))
  have hacc : h₁.get? s₂.heap.objs.size = some { cls := .type "list", data := .seq ([] : List Value).toArray } := hsb₁.extBut _ _ hDC (Heap.get?_push_of_some _ (hH2 ▸ Heap.get?_push_size _ rfl))
  have fps : ∀ b ∈ fp, b < s₂.heap.objs.size := fun b hb => by
    obtain ⟨o, e, _⟩ := T.obj _ _ st2 b hb
    exact Heap.lt_size e
  generalize hCe : H2.objs.size = C at *
  generalize hDe : s₂.heap.objs.size = D at *
  have st1 : tn 0 h₁ := T.keep _ _ _ st2 fun b _ o e => old b o e
  have IB0 : Inv (X.block scope C N s₂ H₂ fp) [] (blk sel σ) H₂ { s₂ with heap := h₁, toks := s₂.toks + ([] : List (Str × Value)).length } :=
    block_inv I2 S f2 (fun b hb => by rw [hDe]; exact fps b hb) (by rw [hDe]; exact hCle) old hns₁ hsel
  have hDfs : D ∉ (X.block scope C N s₂ H₂ fp).fs := fun z => by
    have z' := I2.stkSub D z
    rcases List.mem_cons.mp z' with e | e
    · exact absurd I2.lt (by rw [← e, hDe]; exact Nat.lt_irrefl _)
    · exact I2.nofs (by rw [hDe]; exact Nat.le_refl _) e
  have loop : ∀ s₃ : Shared, s₃ = { s₂ with heap := h₁, toks := s₂.toks + ([] : List (Str × Value)).length } →
      codeAny (model X.prog X.w) X.A (.compLoop (.ListComp elt [⟨tg, iter, ifs, 0⟩] scope pos) 0 (.ref it) (.ref D) (compEnvC scope (clOf X.env.cells scope.names []) C X.env)) (RR (.ref D) C) s₃ := by
    rintro s₃ rfl
    obtain ⟨m0, w0⟩ := w0
    refine codeAny_compLoop_all (fun k s' => ∃ i ys us n H', Inv (X.block scope C N s₂ H₂ fp) [(D, { cls := .type "list", data := .seq us n })] (blk sel σ) H' s' ∧ (∃ vs : List Value, us = vs.toArray ∧ Vals ys vs) ∧ ys.length ≤ sizeLine ∧ tn i s'.heap ∧ (∀ b ∈ fp, H' b = none) ∧ W i k ys H') ?_ m0
      ⟨0, [], _, 0, H₂, IB0.pins_of fun p hp => ?_, ⟨[], rfl, .nil⟩, Nat.zero_le _, st1, fun b hb => (f2 b hb).1, w0⟩
    · rintro k s' ⟨i, ys, us, n, H', IB, ⟨vs, rfl, rv⟩, hyz, st, fr, w⟩
      have fpB : ∀ {pl : List (Addr × Obj)} {H'' : Hp}, (∀ p ∈ pl, p.1 = D) → (∀ b ∈ fp, H'' b = none) → ∀ b ∈ fp, FpOk (X.block scope C N s₂ H₂ fp) pl H'' b := fun {pl H''} hp hn b hb =>
        ⟨hn b hb, (below b (fps b hb)).1, (block_ok (N := N) (C := C) I2 S f2 (fun b hb => by rw [hDe]; exact fps b hb) (by rw [hDe]; exact hCle)).exfs b hb, .inl hb, fun x c e => (f2 b hb).2.2.2.2.1 x c (cl_sub e), fun p hpp z => by
          have hpp' : p ∈ pl := by simpa using hpp
          exact (below b (fps b hb)).2 (by rw [← z]; exact hp p hpp')⟩
      have hD1 : ∀ p ∈ [((D, { cls := .type "list", data := .seq vs.toArray n }) : Addr × Obj)], p.1 = D := fun p hp => by
        have e : p = (D, { cls := .type "list", data := .seq vs.toArray n }) := by simpa using hp
        rw [e]
      rcases hW i k ys H' w with ⟨stop, qn⟩ | ⟨go, hlen, step⟩
      · refine thn (T.done (X.block scope C N s₂ H₂ fp) rfl rfl rfl hc i _ s' _ H' _ IB (fpB hD1 fr) st stop) fun r s4 ⟨hr, I4⟩ => ?_
        subst hr
        -- the block is left
        have pD := I4.pin (D, { cls := .type "list", data := .seq vs.toArray n }) (by simp)
        have hDn : H' D = none := pD.2.1
        have IX : Inv X pins σ H' s4 := I2.call' (ch := fp) I4.os I4.base I4.hok I4.bare fun b hb => ⟨(f2 b hb).2.2.2.1, (f2 b hb).2.1, (f2 b hb).2.2.2.2.1, (f2 b hb).2.2.2.2.2⟩
        have foD : FpOk X pins H' D := I2.fpOk (by rw [hDe]; exact Nat.le_refl _) hDn
        have IA : Inv X pins σ (upd H' D (.lst ys)) s4 := IX.adopt foD ⟨hyz, vs, n, rv, pD.1⟩
        obtain ⟨mC, hnC, _⟩ := I4.loc
        refine fin D C ys H' s4 IA ⟨mC, hnC⟩ (I2.fpOk (by rw [hDe]; exact hCle) ?_) (qn D hDn)
        rw [upd_ne (Ne.symm hDC)]
        exact I4.free
      · refine thn (T.item (X.block scope C N s₂ H₂ fp) rfl rfl rfl hc i _ s' _ H' _ IB (fpB hD1 fr) st go) fun r s4 ⟨u, hr, h4⟩ => ?_
        subst hr
        refine thn h4 fun _ s5 ⟨x, H5, I5, r5, y5, st5, fr5⟩ => ?_
        have I5' := I5.pinned (fpB hD1 fr5) (T.obj _ _ st5)
        refine thn (B.tgt C s₂ H₂ fp _ s5 _ H5 x u _ I5' r5 (step x H5 y5)) fun _ s6 ⟨σ6, H6, I6, sb, q6⟩ => ?_
        refine thn (B.tests C s₂ H₂ fp _ s6 σ6 H6 _ I6 q6) fun c s7 ⟨H7, I7, q7⟩ => ?_
        have again : ∀ {σ8 : St} {H8 : Hp} {s8 : Shared}, Inv (X.block scope C N s₂ H₂ fp) ([(D, { cls := .type "list", data := .seq vs.toArray n })] ++ pinsAt fp s5.heap) σ8 H8 s8 → tn (i + 1) s8.heap ∧ (∀ b ∈ fp, H8 b = none) := fun {σ8 H8 s8} I8 => by
          refine ⟨T.keep _ _ _ st5 fun b hb o e => (I8.pin (b, o) (List.mem_append_right _ (List.mem_append_right _ (mem_pinsAt hb e)))).1, fun b hb => ?_⟩
          obtain ⟨o, e, d⟩ := T.obj _ _ st5 b hb
          exact (I8.pin (b, o) (List.mem_append_right _ (List.mem_append_right _ (mem_pinsAt hb e)))).2.1
        have back : ∀ {H8 : Hp} {s8 : Shared} {pl : List (Addr × Obj)}, Inv (X.block scope C N s₂ H₂ fp) pl σ6 H8 s8 → Inv (X.block scope C N s₂ H₂ fp) pl (blk sel σ) H8 s8 := fun {H8 s8 pl} I8 => I8.weak sb.1.symm sb.2
        cases c with
        | false =>
          obtain ⟨m', hm, w'⟩ := q7
          obtain ⟨t1, t2⟩ := again I7
          exact ⟨m', hm, i + 1, ys, _, n, H7, back I7.unpinned, ⟨vs, rfl, rv⟩, hyz, t1, t2, w'⟩
        | true =>
          refine thn (B.elem C s₂ H₂ fp _ s7 σ6 H7 _ I7 q7) fun v s8 ⟨y, H8, I8, r8, m', hm, w'⟩ => ?_
          obtain ⟨t1, t2⟩ := again I8
          have pD := I8.pin (D, { cls := .type "list", data := .seq vs.toArray n }) (by simp)
          refine append_at (hsz := by have := rv.length; rw [List.size_toArray]; omega) pD.1 fun h9 hs9 hD9 => ?_
          have IB' : Inv (X.block scope C N s₂ H₂ fp) [] (blk sel σ) H8 s8 := (back I8).pins_of fun p hp => nomatch hp
          have foD : FpOk (X.block scope C N s₂ H₂ fp) [] H8 D := ⟨pD.2.1, hDC, hDfs, .inr (by show s₂.heap.objs.size ≤ D; rw [hDe]; exact Nat.le_refl _), (fun x c e z => by
            obtain ⟨cv, o, ho, hd⟩ := I8.cell x c e
            rw [z, pD.1] at ho
            cases ho
            cases hd), (fun p hp => nomatch hp)⟩
          have I9 : Inv (X.block scope C N s₂ H₂ fp) [] (blk sel σ) H8 { s8 with heap := h9 } := IB'.turned (t' := s8.toks) (it := D) (fun b o hb e => (hs9.2 b hb).trans e) foD.1 foD.2.1 foD.2.2.2.1 foD.2.2.2.2.1 foD.2.2.2.2.2
          refine ⟨m', hm, i + 1, ys ++ [y], vs.toArray.push v, n + 1, H8, I9.pins_of fun p hp => ?_, ⟨vs ++ [v], by simp, Paired.snoc rv r8⟩, by rw [List.length_append, List.length_singleton]; omega, T.keep _ _ _ t1 fun b hb o e => (hs9.2 b (below b (fps b hb)).2).trans e, t2, w'⟩
          have e : p = (D, { cls := .type "list", data := .seq (vs.toArray.push v) (n + 1) }) := by simpa using hp
          subst e
          exact ⟨hD9, pD.2.1, hDC, hDfs, fun v z => by cases z⟩
    · have e : p = (D, { cls := .type "list", data := .seq ([] : List Value).toArray }) := by simpa using hp
      subst e
      exact ⟨hacc, I2.hok.fresh (by rw [hDe]; exact Nat.le_refl _), hDC, hDfs, fun v z => by cases z⟩
  exact codeAny_compStart_list (loop _ rfl) (T.self _ 0 _ _ _ st1 (loop _ rfl))
theorem pe_comp (hc : X.calm = true) (hi : PI X tg iter wi) (S : CScope X.env scope) (hsel : SelOk X.N scope N sel) (B : Blk X scope N tg elt ifs g tc te)
    (hs : ∀ x, foldedSetIterable iter X.env x = pure x := by intro _; rfl) : PE X (.ListComp elt [⟨tg, iter, ifs, 0⟩] scope pos) (tComp wi g tc te sel) := by
  intro pins s σ H Q I h
  rw [eval_ListComp]
  refine wpAny_comprehension_free (use := none) rfl hs (clOf_ok (S.cells I.ok)) S.kind S.loc ?_
  refine thn (hi pins s σ H _ I h) fun v s1 h1 => thn h1 fun itv s2 h2 => ?_
  obtain ⟨it, fp, tn, J, H2, e, I2, T, st2, f2, W, w0, hW⟩ := h2
  subst e
  refine comp_core (RR := fun acc C => compPost (model X.prog X.w) X.A X.xe none (EP X pins σ Q) acc C) hc S hsel B I2 T st2 f2 w0 hW fun D C ys H' s' I' ⟨m, hm⟩ fo q => ?_
  exact ⟨m, hm, fun h' hsb => ⟨.ref D, _, I'.turned (t' := s'.toks) (it := C) (fun b o hb e => (hsb.2 b hb).trans e) fo.1 fo.2.1 fo.2.2.2.1 fo.2.2.2.2.1 fo.2.2.2.2.2, rfl, q⟩⟩
theorem ps_setComp {i : Nat} {y : Str} {py spos : Pos} (hN : X.N.Nodup) (hi : X.N[i]? = some y) (hx : Loc X.env.scope y) (hc : X.calm = true) (hit : PI X tg iter wi) (S : CScope X.env scope) (hsel : SelOk X.N scope N sel) (B : Blk X scope N tg elt ifs g tc te)
    (hsw : swapsWith (.ListComp elt [⟨tg, iter, ifs, 0⟩] scope pos) (some (.Name y py)) spos.line X.env = pure true) (hf : X.fn y = true ∨ X.env.scope.names.lookup y = some .local := by first | exact .inl rfl | exact .inr rfl | assumption)
    (hs : ∀ x, foldedSetIterable iter X.env x = pure x := by intro _; rfl) : PS X (.Assign [.Name y py] (.ListComp elt [⟨tg, iter, ifs, 0⟩] scope pos) spos) (tAsg (tComp wi g tc te sel) (gName i)) := by
  intro pins s σ H D I h
  rw [exec_Assign_Name_used _ _ _ _ hsw]
  refine wpAny_bind (wpAny_standAt (wpAny_bind ?_))
  show wpAny _ X.A (do let _ ← comprehension (.ListComp elt [⟨tg, iter, ifs, 0⟩] scope pos) scope X.env _ (newList []) false (eval iter X.env) (some (assign (.Name y py) X.env))) _ _ s
  refine wpAny_bind (wpAny_mono (wpAny_comprehension_free (use := some (assign (.Name y py) X.env)) (Q := fun _ s' => SP X pins D .next s') rfl hs (clOf_ok (S.cells I.ok)) S.kind S.loc ?_) (fun _ s' hq => wpAny_pure (wpAny_pure hq)) fun _ _ e => e)
  refine thn (hit pins s σ H _ I h) fun v s1 h1 => thn h1 fun itv s2 h2 => ?_
  obtain ⟨it, fp, tn, J, H2, e, I2, T, st2, f2, W, w0, hW⟩ := h2
  subst e
  refine comp_core (RR := fun acc C => compPost (model X.prog X.w) X.A X.xe (some (assign (.Name y py) X.env)) (fun _ s' => SP X pins D .next s') acc C) hc S hsel B I2 T st2 f2 w0 hW fun Da C ys H' s' I' ⟨m, hm⟩ fo q => ?_
  show wpAny _ X.A (assign (.Name y py) X.env (.ref Da)) _ _ _
  refine wpAny_assign_Name (store_ok2 I' hN hi hx (show RelV (.ref Da) (.ref Da) from rfl) (fun s3 I3 ⟨a, hsb, ha⟩ => ?_) hf)
  have hCa : C ≠ a := by
    rcases ha with z | z
    · rw [z]; exact fo.2.1
    · exact fun w => fo.2.2.2.2.1 y a z w.symm
  refine ⟨m, hm.sameBut hsb hCa, fun h' hsb' => ⟨_, _, I3.turned (t' := s3.toks) (it := C) (fun b o hb e => (hsb'.2 b hb).trans e) fo.1 fo.2.1 fo.2.2.2.1 fo.2.2.2.2.1 fo.2.2.2.2.2, q⟩⟩
end
def CompTurn (Pv : Nat → List V → Hp → Prop) (g : TG) (tc : TT) (te : TE) (σb : St) (i : Nat) (x : V) (ys : List V) (H : Hp) : Prop :=
  ∀ N : List V → Hp → Prop, (∀ ys' H', Pv (i + 1) ys' H' → N ys' H') → g x σb H fun σ2 H2 => Sub σb σ2 ∧ tc σ2 H2 fun c H3 => if c = true then te σ2 H3 fun y H4 => N (ys ++ [y]) H4 else N ys H3
theorem comp_list {K : PySem.W.Frag} {a : Addr} {xs : List V} {g : TG} {tc : TT} {te : TE} {σb : St} {Q : VK} {H : Hp} (Pv : Nat → List V → Hp → Prop) (hz : xs.length ≤ sizeLine) (h0 : Pv 0 [] H) (hl : ∀ i ys H, i ≤ xs.length → Pv i ys H → SqL K H a xs ∧ ys.length ≤ i)
    (hs : ∀ i x ys H, xs[i]? = some x → Pv i ys H → CompTurn Pv g tc te σb i x ys H) (hd : ∀ ys H, Pv xs.length ys H → ∀ p, H p = none → Q (.ref p) (upd H p (.lst ys))) :
    ∃ W : Nat → Nat → List V → Hp → Prop, (∃ m, W 0 m [] H) ∧ CompW (Itl K a) g tc te σb Q W := by
  refine ⟨fun i m ys H => m = xs.length - i ∧ i ≤ xs.length ∧ Pv i ys H, ⟨xs.length, by simp, Nat.zero_le _, h0⟩, ?_⟩
  rintro i m ys H ⟨rfl, hi, p⟩
  have q := (hl i ys H hi p).1
  have hyl := (hl i ys H hi p).2
  by_cases hlt : i < xs.length
  · refine .inr ⟨⟨xs, xs[i], q, by simp [hlt]⟩, by omega, fun x H' y => ?_⟩
    obtain ⟨e, y⟩ := y
    subst e
    exact hs i x ys _ (y xs q) p (fun ys' H' => ∃ m', m' < xs.length - i ∧ m' = xs.length - (i + 1) ∧ i + 1 ≤ xs.length ∧ Pv (i + 1) ys' H') fun ys' H' r => ⟨xs.length - (i + 1), by omega, rfl, hlt, r⟩
  · have e : i = xs.length := by omega
    subst e
    exact .inl ⟨⟨xs, q, Nat.le_refl _⟩, hd ys H p⟩
theorem comp_range {lo : Int} {n : Nat} {g : TG} {tc : TT} {te : TE} {σb : St} {Q : VK} {H : Hp} (Pv : Nat → List V → Hp → Prop) (hz : n ≤ sizeLine) (h0 : Pv 0 [] H) (hl : ∀ i ys H, i ≤ n → Pv i ys H → ys.length ≤ i)
    (hs : ∀ i ys H, i < n → Pv i ys H → CompTurn Pv g tc te σb i (.int (lo + i)) ys H) (hd : ∀ ys H, Pv n ys H → ∀ p, H p = none → Q (.ref p) (upd H p (.lst ys))) :
    ∃ W : Nat → Nat → List V → Hp → Prop, (∃ m, W 0 m [] H) ∧ CompW (Itr lo n) g tc te σb Q W := by
  refine ⟨fun i m ys H => m = n - i ∧ i ≤ n ∧ Pv i ys H, ⟨n, by simp, Nat.zero_le _, h0⟩, ?_⟩
  rintro i m ys H ⟨rfl, hi, p⟩
  have hyl := hl i ys H hi p
  by_cases hlt : i < n
  · refine .inr ⟨hlt, by omega, fun x H' y => ?_⟩
    obtain ⟨e, y⟩ := y
    subst e y
    exact hs i ys _ hlt p (fun ys' H' => ∃ m', m' < n - i ∧ m' = n - (i + 1) ∧ i + 1 ≤ n ∧ Pv (i + 1) ys' H') fun ys' H' r => ⟨n - (i + 1), by omega, rfl, hlt, r⟩
  · have e : i = n := by omega
    subst e
    exact .inl ⟨Nat.le_refl _, hd ys H p⟩
end L2
namespace L2
open PySem PySem.Spec PyProof.Rows
def Its (xs : List V) : It := ⟨fun i _ => i < xs.length, fun i H x H' => H' = H ∧ xs[i]? = some x, fun i _ => xs.length ≤ i⟩
theorem turn_walks {P : Program} {w : World} {K : PySem.W.Frag} {tg : Expr} {it : Addr} {xs : List V} {PV : Nat → Value → Prop} {St : Nat → Heap → Prop} (hW : ∀ A : Around, A.handled = none → Walks P w A it [it] [it] xs.length PV St)
    (hP : ∀ i v, PV i v → ∃ x, xs[i]? = some x ∧ RelV x v)
    (hgo : ∀ i h, St i h → ∃ o n vs, h.get? it = some o ∧ o.cls = .type n ∧ o.data = .fields vs ∧ ["enumerate", "zip", "dict_itemiterator", "dict_reverseitemiterator", "odict_iterator", "itertools.zip_longest", "itertools.pairwise"].contains n = false)
    (hfr : ∀ i h h', St i h → (∀ o, h.get? it = some o → h'.get? it = some o) → St i h')
    (hself : ∀ (A : Around) (i : Nat) (s : Shared) (Q : Value → Shared → Prop) (E : Value → Shared → Prop), St i s.heap → Q (.ref it) s → wpAny (model P w) A (pyIter (.ref it)) Q E s) :
    Turn P w K tg (Its xs) [it] it (fun i h => i ≤ xs.length ∧ St i h) where
  mem := by simp
  obj := fun i h st b hb => by
    have e : b = it := by simpa using hb
    subst e
    obtain ⟨o, n, vs, e, _, d, _⟩ := hgo i h st.2
    exact ⟨o, e, fun v z => by rw [d] at z; cases z⟩
  keep := fun i h h' st k => ⟨st.1, hfr i h h' st.2 fun o e => k it (by simp) o e⟩
  item := by
    intro X hP' hw hK hc i pins s σ H E I hf st hg
    subst hP' hw hK
    obtain ⟨f0, f1, f2, f3, f4, f5⟩ := hf it (by simp)
    refine (hW X.A (I.ok.hd hc)).item i s _ _ hg st.2 fun v h' tk hv st' kk => ?_
    obtain ⟨x, hx, rx⟩ := hP i v hv
    have I1 : Inv X pins σ H { s with heap := h', toks := tk } := I.turned (fun b o hb e => kk b o (by simpa using hb) e) f0 f1 f3 f4 f5
    obtain ⟨o, n, vs, e, c, d, nm⟩ := hgo _ _ st'
    exact ⟨v, rfl, go_of (s := { s with heap := h', toks := tk }) e c d nm ⟨x, H, I1, rx, ⟨rfl, hx⟩, ⟨hg, st'⟩, fun b hb => (hf b hb).1⟩⟩
  done := by
    intro X hP' hw hK hc i pins s σ H E I hf st hg
    subst hP' hw hK
    obtain ⟨f0, f1, f2, f3, f4, f5⟩ := hf it (by simp)
    have e : i = xs.length := Nat.le_antisymm st.1 hg
    subst e
    exact (hW X.A (I.ok.hd hc)).done s _ _ st.2 fun h' tk kk => ⟨rfl, I.turned (fun b o hb e => kk b o (by simpa using hb) e) f0 f1 f3 f4 f5⟩
  self := fun A i s Q E st h => hself A i s Q E st.2 h
def sign (c : Nat) : Str := ⟨#[c]⟩
def signsV (x : Str) : List V := x.cps.toList.map fun c => V.str (sign c)
theorem signsV_length (x : Str) : (signsV x).length = x.cps.size := by unfold signsV; simp
theorem signsV_at {x : Str} {i c : Nat} (h : x.cps[i]? = some c) : (signsV x)[i]? = some (.str (sign c)) := by
  unfold signsV
  rw [List.getElem?_map, Array.getElem?_toList, h]
  rfl
theorem signAt_rel {x : Str} {i : Nat} {v : Value} (h : SignAt x i v) : ∃ y, (signsV x)[i]? = some y ∧ RelV y v := by
  obtain ⟨c, u, hc, rfl⟩ := h
  exact ⟨.str (sign c), signsV_at hc, u, rfl⟩
section
variable {X : Cx} {tg : Expr}
def iStr (tl : TE) : TI := fun σ H R => tl σ H fun x H1 => ∃ z, x = .str z ∧ R (Its (signsV z)) H1
theorem pi_str {l : Expr} {tl : TE} (hl : PE X l tl) : PI X tg l (iStr tl) := by
  intro pins s σ H R I h
  refine thn (hl pins s σ H _ I h) fun v s1 ⟨x, H1, I1, r1, q1⟩ => ?_
  obtain ⟨z, e, q⟩ := q1
  subst e
  obtain ⟨t, rfl⟩ := r1
  have fo : ∀ b ∈ [s1.heap.objs.size], FpOk X pins H1 b := fun b hb => by
    have e : b = s1.heap.objs.size := by simpa using hb
    subst e
    exact I1.fpOk (Nat.le_refl _) (I1.hok.fresh (Nat.le_refl _))
  have hz := signsV_length z
  cases ha : z.cps.all (· < 128) with
  | false =>
    refine wpAny_pyIter_wide ha ⟨s1.heap.objs.size, [s1.heap.objs.size], fun i h => i ≤ (signsV z).length ∧ h.IsStrIter s1.heap.objs.size "str_iterator" z t i, _, H1, rfl, I1.kept (t' := s1.toks) fun b o e => Heap.get?_push_of_some _ e,
      turn_walks (fun A hA => by rw [hz]; exact Walks.strWide hA _ z t) (fun i v => signAt_rel) (fun i h ⟨o, e, c, d⟩ => ⟨o, _, _, e, c, d, by decide⟩) (fun i h h' ⟨o, e, r⟩ k => ⟨o, k o e, r⟩) (fun A i s Q E st q => wpAny_pyIter_striter_wide st q),
      ⟨Nat.zero_le _, _, Heap.get?_push_size _ rfl, rfl, rfl⟩, fo, q⟩
  | true =>
    refine wpAny_pyIter_ascii ha ⟨s1.heap.objs.size, [s1.heap.objs.size], fun i h => i ≤ (signsV z).length ∧ h.IsStrIter s1.heap.objs.size "str_ascii_iterator" z t i, _, H1, rfl, I1.kept (t' := s1.toks) fun b o e => Heap.get?_push_of_some _ e,
      turn_walks (fun A hA => by rw [hz]; exact Walks.strAscii hA _ z t) (fun i v => signAt_rel) (fun i h ⟨o, e, c, d⟩ => ⟨o, _, _, e, c, d, by decide⟩) (fun i h h' ⟨o, e, r⟩ k => ⟨o, k o e, r⟩) (fun A i s Q E st q => wpAny_pyIter_striter_ascii st q),
      ⟨Nat.zero_le _, _, Heap.get?_push_size _ rfl, rfl, rfl⟩, fo, q⟩
end
theorem for_its {xs : List V} {g : TG} {tb : TS} {D : Ends} {σ : St} {H : Hp} (Pv : Nat → St → Hp → Prop) (h0 : Pv 0 σ H)
    (hs : ∀ i x σ H, xs[i]? = some x → Pv i σ H → g x σ H fun σ2 H2 => tb { D with nx := Pv (i + 1), ct := Pv (i + 1), bk := D.nx } σ2 H2) (hd : ∀ σ H, Pv xs.length σ H → D.nx σ H) :
    ∃ W : Nat → Nat → St → Hp → Prop, (∃ m, W 0 m σ H) ∧ ∀ i m σ H, W i m σ H →
      ((Its xs).stop i H ∧ D.nx σ H) ∨ ((Its xs).go i H ∧ ∃ N : St → Hp → Prop, (∀ σ' H', N σ' H' → ∃ m', m' < m ∧ W (i + 1) m' σ' H') ∧ ∀ x H', (Its xs).yld i H x H' → g x σ H' fun σ2 H2 => tb { D with nx := N, ct := N, bk := D.nx } σ2 H2) := by
  refine ⟨fun i m σ H => m = xs.length - i ∧ i ≤ xs.length ∧ Pv i σ H, ⟨xs.length, by simp, Nat.zero_le _, h0⟩, ?_⟩
  rintro i m σ H ⟨rfl, hi, p⟩
  by_cases hlt : i < xs.length
  · refine .inr ⟨hlt, Pv (i + 1), fun σ' H' p' => ⟨xs.length - (i + 1), by omega, rfl, hlt, p'⟩, fun x H' y => ?_⟩
    obtain ⟨e, y⟩ := y
    subst e
    exact hs i x σ _ y p
  · have e : i = xs.length := by omega
    subst e
    exact .inl ⟨Nat.le_refl _, hd σ H p⟩
theorem comp_its {xs : List V} {g : TG} {tc : TT} {te : TE} {σb : St} {Q : VK} {H : Hp} (Pv : Nat → List V → Hp → Prop) (hz : xs.length ≤ sizeLine) (h0 : Pv 0 [] H) (hl : ∀ i ys H, i ≤ xs.length → Pv i ys H → ys.length ≤ i)
    (hs : ∀ i x ys H, xs[i]? = some x → Pv i ys H → CompTurn Pv g tc te σb i x ys H) (hd : ∀ ys H, Pv xs.length ys H → ∀ p, H p = none → Q (.ref p) (upd H p (.lst ys))) :
    ∃ W : Nat → Nat → List V → Hp → Prop, (∃ m, W 0 m [] H) ∧ CompW (Its xs) g tc te σb Q W := by
  refine ⟨fun i m ys H => m = xs.length - i ∧ i ≤ xs.length ∧ Pv i ys H, ⟨xs.length, by simp, Nat.zero_le _, h0⟩, ?_⟩
  rintro i m ys H ⟨rfl, hi, p⟩
  have hyl := hl i ys H hi p
  by_cases hlt : i < xs.length
  · refine .inr ⟨hlt, by omega, fun x H' y => ?_⟩
    obtain ⟨e, y⟩ := y
    subst e
    exact hs i x ys _ y p (fun ys' H' => ∃ m', m' < xs.length - i ∧ m' = xs.length - (i + 1) ∧ i + 1 ≤ xs.length ∧ Pv (i + 1) ys' H') fun ys' H' r => ⟨xs.length - (i + 1), by omega, rfl, hlt, r⟩
  · have e : i = xs.length := by omega
    subst e
    exact .inl ⟨Nat.le_refl _, hd ys H p⟩
section
variable {X : Cx}
def rSlS : V → Option Int → Option Int → Hp → VK → Prop := fun x lo hi H Q => ∃ z, x = .str z ∧ z.length ≤ sizeLine ∧ Q (.str (Txt.slice z lo hi)) H
theorem sl_str : SlR X rSlS := by
  intro pins s σ H x v vl vu lo hi sl Q I rx hs pl pu h
  obtain ⟨z, rfl, hz, q⟩ := h
  obtain ⟨t, rfl⟩ := rx
  refine ⟨"str", _, F.slot_str_getitem.lookup, typeIs_str s z t, ?_⟩
  have fin : ∀ t' k, EP X pins σ Q (.str (Txt.slice z lo hi) t') { s with toks := k } := fun t' k => ⟨.str _, H, I.tok _, ⟨_, rfl⟩, q⟩
  cases pl with
  | none =>
    cases pu with
    | none => exact wpAny_getItem_str_slice (l := none) (u := none) (st := none) hs rfl (post_val_or_str ⟨Nat.le_trans (Txt.slice_le z _ _) hz, fin⟩)
    | int j uj => exact wpAny_getItem_str_slice (l := none) (u := some (j, uj)) (st := none) hs rfl (post_val_or_str ⟨Nat.le_trans (Txt.slice_le z _ _) hz, fin⟩)
  | int i ui =>
    cases pu with
    | none => exact wpAny_getItem_str_slice (l := some (i, ui)) (u := none) (st := none) hs rfl (post_val_or_str ⟨Nat.le_trans (Txt.slice_le z _ _) hz, fin⟩)
    | int j uj => exact wpAny_getItem_str_slice (l := some (i, ui)) (u := some (j, uj)) (st := none) hs rfl (post_val_or_str ⟨Nat.le_trans (Txt.slice_le z _ _) hz, fin⟩)
def strsV (ys : List Str) : List V := ys.map V.str
theorem strsAre_of : ∀ {ys : List Str} {us : List Value}, Vals (strsV ys) us → StrsAre us ys := by
  intro ys
  induction ys with
  | nil => intro us r; cases r; exact .nil
  | cons y ys ih =>
    intro us r
    cases r with
    | cons r1 r2 =>
      obtain ⟨t, rfl⟩ := r1
      exact .cons y t (ih r2)
theorem vals_strs : ∀ (l : List (Str × Tok)), Vals (strsV (l.map (·.1))) (strValues l)
  | [] => .nil
  | (x, t) :: r => .cons ⟨t, rfl⟩ (vals_strs r)
def rJoin (K : PySem.W.Frag) : V → List V → Hp → VK → Prop := fun x vs H Q => ∃ sep p ys, x = .str sep ∧ vs = [.ref p] ∧ SqL K H p (strsV ys) ∧ (ys.map (·.length)).sum + ys.length * sep.length ≤ 16777216 ∧ Q (.str (Txt.join sep ys)) H
theorem mt_join : MtR X "str.join" (rJoin X.K) := by
  intro pins s σ H x xs v us Q I rx rv h
  obtain ⟨sep, p, ys, rfl, rfl, hq, hz, q⟩ := h
  obtain ⟨t, rfl⟩ := rx
  obtain ⟨u, rfl, ru⟩ := vals1 rv
  cases ru
  obtain ⟨its, r, pl, _⟩ := I.list hq
  exact join_list pl.isList (by simpa using strsAre_of r) hz fun t' k => ⟨.str _, H, I.tok _, ⟨_, rfl⟩, q⟩
end
theorem split_push {prog : Program} {w : World} {A : Around} {E : Value → Shared → Prop} {s : Shared} {x y : Str} {t u : Tok} {Q : Value → Shared → Prop} (hy : (y.length == 0) = false)
    (h : ∀ l k, l.map (·.1) = Txt.split x y → Q (.ref s.heap.objs.size) { s with heap := s.heap.push { cls := .type "list", data := .seq (strValues l).toArray }, toks := k }) (hsz : x.length + 2 ≤ sizeLine) :
    wpAny (model prog w) A (call (.builtin "str.split") [.str x t, .str y u]) Q E s := by
  have hn : (Builtin.Str.partsBetween x (Builtin.Str.occurrences x y 0 x.length (x.length + 1)) y.length).length ≤ sizeLine := by
    have e1 := StrLaws.occ_length_le x y 0 x.length (x.length + 1)
    rw [length_partsBetween]; omega
  cases h1 : (decide (x.length < y.length) || decide (Builtin.Str.strKind x < Builtin.Str.strKind y))
  · cases hf : (Builtin.Str.occurrences x y 0 x.length (x.length + 1)).isEmpty
    · refine call_meets F.slot_str_split (typeIs_str _ _ _) F.entry_str_split (F.args_str_split_2 _ _) (meets_str_split_sep x y t u h1 hy hf (by omega) hn) ?_
      show wants Q E _ { s with toks := _, heap := s.heap.push { cls := .type "list", data := .seq (strsFrom s.toks (Builtin.Str.partsBetween x (Builtin.Str.occurrences x y 0 x.length (x.length + 1)) y.length)).toArray } }
      rw [strsFrom_eq]
      exact h (numbered s.toks _) _ ((numbered_texts _ _).trans ((if_neg (ne_true_of_eq_false h1)).trans (if_neg (ne_true_of_eq_false hf))).symm)
    · exact call_meets F.slot_str_split (typeIs_str _ _ _) F.entry_str_split (F.args_str_split_2 _ _) (meets_str_split_not_found x y t u h1 hy hf)
        (h [(x, t)] s.toks ((if_neg (ne_true_of_eq_false h1)).trans (if_pos hf)).symm)
  · exact call_meets F.slot_str_split (typeIs_str _ _ _) F.entry_str_split (F.args_str_split_2 _ _) (meets_str_split_cannot_occur x y t u h1)
      (h [(x, t)] s.toks (if_pos h1).symm)
section
variable {X : Cx}
def rSplit : V → List V → Hp → VK → Prop := fun x vs H Q => ∃ z y, x = .str z ∧ vs = [.str y] ∧ y.length ≠ 0 ∧ z.length + 2 ≤ sizeLine ∧ (Txt.split z y).length ≤ sizeLine ∧ ∀ p, H p = none → Q (.ref p) (upd H p (.lst (strsV (Txt.split z y))))
theorem mt_split : MtR X "str.split" rSplit := by
  intro pins s σ H x xs v us Q I rx rv h
  obtain ⟨z, y, rfl, rfl, hy, hz, hn, q⟩ := h
  obtain ⟨t, rfl⟩ := rx
  obtain ⟨u, rfl, ru⟩ := vals1 rv
  obtain ⟨tu, rfl⟩ := ru
  refine split_push (by simpa using hy) (fun l k hl => ?_) hz
  refine ⟨.ref s.heap.objs.size, _, I.laid (t' := k) (o := .lst (strsV (Txt.split z y))) (fun b o e => Heap.get?_push_of_some _ e) (Nat.le_refl _) ⟨by unfold strsV; rw [List.length_map]; exact hn, strValues l, 0, by rw [← hl]; exact vals_strs l, Heap.get?_push_size _ rfl⟩, rfl, q _ (I.hok.fresh (Nat.le_refl _))⟩
def rIndexS : V → List V → Hp → VK → Prop := fun x vs H Q => ∃ z y i rest, x = .str z ∧ vs = [.str y] ∧ Builtin.Str.occurrences z y 0 z.length 1 = i :: rest ∧ Q (.int (i : Nat)) H
theorem call_intS : CallR X (.type "int") (fun xs H Q => ∃ z n, xs = [.str z] ∧ intText? z = some n ∧ z.length ≤ 640 ∧ Q (.int n) H) := by
  intro pins s σ H xs us Q I r h
  obtain ⟨z, n, rfl, hn, hz, q⟩ := h
  obtain ⟨u, rfl, t, rfl⟩ := vals1 r
  exact PySem.W.KIN.call_text hn hz ⟨.int n, H, I.tok _, ⟨_, rfl⟩, q⟩
theorem vals_bool : ∀ {bs : List Bool} {us : List Value}, Vals (bs.map V.bl) us → us = bs.map Value.bool
  | [], _, .nil => rfl
  | b :: bs, _, .cons r t => by
    have e : _ = Value.bool b := r
    rw [e, vals_bool t]; rfl
theorem truth_bools {A : Around} (bs : List Bool) : TruthOf X.prog X.w A (fun i v => (bs.map Value.bool).toArray[i]? = some v) (fun i => bs.getD i true) := by
  intro i v s Q E hP hQ
  have e : (bs.map Value.bool)[i]? = some v := by simpa using hP
  rw [List.getElem?_map] at e
  cases q : bs[i]? with
  | none => rw [q] at e; cases e
  | some b =>
    rw [q] at e
    have e' : Value.bool b = v := Option.some.inj e
    subst e'
    refine wpAny_truthy_bool ?_
    have : bs.getD i true = b := by simp [List.getD, q]
    have hQ' : Q (bs.getD i true) s := hQ
    rw [this] at hQ'
    exact hQ'
theorem range_all (bs : List Bool) : (List.range bs.length).all (fun i => bs.getD i true) = bs.all id := by
  rw [Bool.eq_iff_iff]
  simp only [List.all_eq_true, List.mem_range, id]
  constructor
  · intro h b hb
    obtain ⟨i, hi, e⟩ := List.mem_iff_getElem.mp hb
    have := h i hi
    simp [List.getD, hi, e] at this
    exact this
  · intro h i hi
    simp [List.getD, hi]
    exact h _ (List.getElem_mem hi)
theorem call_all (hc : X.calm = true) : CallR X (.builtin "all") (fun xs H Q => ∃ (p : Addr) (bs : List Bool), xs = [.ref p] ∧ SqL X.K H p (bs.map V.bl) ∧ Q (.bl (bs.all id)) H) := by
  intro pins s σ H xs us Q I r h
  obtain ⟨p, bs, rfl, hq, q⟩ := h
  obtain ⟨u, rfl, ru⟩ := vals1 r
  cases ru
  obtain ⟨its, rv, pl, _⟩ := I.list hq
  have e := vals_bool rv
  subst e
  refine call_all_walk (wpAny_pyIter_list pl.isList ?_)
  have hne : p ≠ s.heap.objs.size := Nat.ne_of_lt (by obtain ⟨o, _, ho, _⟩ := pl; exact Heap.lt_size ho)
  refine ⟨s.heap.objs.size, _, _, _, _, _, fun i => bs.getD i true, rfl, Walks.list (show X.A.in1.handled = none from I.ok.hd hc) _ p hne (bs.map Value.bool).toArray, ⟨⟨_, Heap.get?_push_size _ rfl, rfl, rfl⟩, pl.isList.at fun o e => Heap.get?_push_of_some _ e⟩, truth_bools bs, fun h' tk kk => ?_⟩
  refine ⟨.bl (bs.all id), H, I.kept fun b o e => kk b o (by simpa using Nat.ne_of_lt (Heap.lt_size e)) (Heap.get?_push_of_some _ e), ?_, q⟩
  show Value.bool _ = Value.bool _
  rw [show (bs.map Value.bool).toArray.size = bs.length by simp, range_all]
theorem call_isi : CallR X (.builtin "isinstance") (fun xs H Q => ∃ x T t b, xs = [x, .ty T] ∧ TyOf X.K H x t ∧ PySem.W.kitOne X.K t (.type T) = some b ∧ Q (.bl b) H) := by
  intro pins s σ H xs us Q I r h
  obtain ⟨x, T, t, b, rfl, ty, e, q⟩ := h
  obtain ⟨u, u2, rfl, rx, r2⟩ := vals2 r
  cases r2
  exact isinst_ok I rx ty e fun tk => ⟨.bl b, H, I.tok _, rfl, q⟩
end
end L2
namespace L2
open PySem PySem.Spec PyProof.Rows
theorem nd_of {X : Cx} {N : List Str} (h : N.Nodup) (e : X.N = N) : X.N.Nodup := e ▸ h
def cscopeB (sc scope : Scope) : Bool :=
  (scope.kind == .function) && scope.names.all (fun y => y.2 != .cell) && scope.names.all (fun y => y.2 != .free || sc.names.lookup y.1 == some .cell || sc.names.lookup y.1 == some .free) &&
    scope.names.all (fun y => y.2 != .local || scope.names.lookup y.1 == some .local)
theorem cscope_of {env : Env} {sc scope : Scope} (he : env.scope = sc) (h : cscopeB sc scope = true) : CScope env scope := by
  subst he
  unfold cscopeB at h
  simp only [Bool.and_eq_true, List.all_eq_true] at h
  obtain ⟨⟨⟨h1, h2⟩, h3⟩, h4⟩ := h
  refine ⟨by simpa using h1, fun y hy e => ?_, fun y hy e => ?_, fun y hy e => ?_⟩
  · have := h2 y hy
    rw [e] at this
    exact absurd this (by decide)
  · have := h3 y hy
    rw [e] at this
    simp only [Bool.or_eq_true] at this
    rcases this with (z | z) | z
    · exact absurd z (by decide)
    · exact .inl (show env.scope.names.lookup y.1 = some .cell by simpa using z)
    · exact .inr (show env.scope.names.lookup y.1 = some .free by simpa using z)
  · have := h4 y hy
    rw [e] at this
    simp only [Bool.or_eq_true] at this
    rcases this with z | z
    · exact absurd z (by decide)
    · simpa using z
def selB (M : List Str) (scope : Scope) (N : List Str) (sel : List (Option Nat)) : Bool :=
  sel.length == N.length && (sel.zip N).all fun p => match p.1 with | none => true | some j => M[j]? == some p.2 && scope.names.lookup p.2 == some .free
theorem selOk_of {M : List Str} {scope : Scope} {N : List Str} {sel : List (Option Nat)} (h : selB M scope N sel = true) : SelOk M scope N sel := by
  unfold selB at h
  simp only [Bool.and_eq_true, List.all_eq_true] at h
  refine ⟨by simpa using h.1, fun i j x e1 e2 => ?_⟩
  have hm : (some j, x) ∈ sel.zip N := by
    rw [List.mem_iff_getElem?]
    exact ⟨i, by rw [List.getElem?_zip_eq_some]; exact ⟨e1, e2⟩⟩
  have := h.2 _ hm
  simp only [Bool.and_eq_true] at this
  exact ⟨by simpa using this.1, by simpa using this.2⟩
def noT : HO → Bool
  | .dT _ => false
  | .frz _ u => noT u
  | _ => true
def NoT (H : Hp) : Prop := ∀ b o, H b = some o → noT o = true
theorem ObjOk.back {P : Program} {w : World} {H H' : Hp} {h h' : Heap} {a : Addr} : ∀ (o : HO), noT o = true → ObjOk P w H' h' a o → ObjOk P w H h a o → ObjOk P w H h' a o
  | .lst _, _, x, _ => x
  | .tup _, _, x, _ => x
  | .dK _, _, x, _ => x
  | .dT _, e, _, _ => absurd e (by unfold noT; decide)
  | .set _ _, _, x, _ => x
  | .ins _ _ _, _, x, y => ⟨y.1, x.2⟩
  | .own _, _, x, _ => x
  | .xd _, _, x, _ => x
  | .met _ _, _, x, _ => x
  | .rng _ _, _, x, _ => x
  | .frz ob u, e, x, y => ⟨x.1, ObjOk.back u (by unfold noT at e; exact e) x.2 y.2⟩
  | .tbl _, _, x, _ => x
  | .ext _, _, x, _ => x
section
variable {P : Program} {w : World} {K : PySem.W.Frag} {mg : Str → Option Value} {base : Heap}
theorem FnOk.forget {k : Nat} {f : Addr} {fd : FuncData} {ps : List Str} {sp sp' : Sp} (F : FnOk P w K mg base CX0 k f fd ps sp)
    (h : ∀ vs H Q E, sp' vs H Q E → NoT H ∧ sp vs H (fun v H' => Same H H' ∧ Q v H) E) : FnOk P w K mg base CX0 k f fd ps sp' := by
  refine ⟨fun vs H Q E q => F.len vs H _ E (h vs H Q E q).2, fun A outer s H args us vs Q E hr he hb hv hs => ?_⟩
  obtain ⟨nt, q⟩ := h vs H Q E hs
  refine codeAny_mono (F.run A outer s H args us vs _ E hr he hb hv q) fun r s' hq => ?_
  cases r with
  | error e => exact hq
  | ok fl =>
    cases fl with
    | next => exact hq
    | brk => exact hq
    | cont => exact hq
    | ret u =>
      obtain ⟨v, H', os, bare, un, hok, rv, sm, q'⟩ := hq
      exact ⟨v, H, os, bare, ⟨un.keep, un.slot, fun _ _ _ n _ => n, un.there, fun _ _ z => z, fun _ _ _ z => z, fun _ ps z => ⟨#[], by rw [z]; simp⟩⟩, fun a o e => (hok a o (sm a o e)).back o (nt a o e) (he.hok a o e), rv, q'⟩
end
theorem same_new {H : Hp} {p : Addr} {o : HO} (h : H p = none) : Same H (upd H p o) := fun b u q => by rw [upd_ne (ne_of_none q h)]; exact q
theorem Same.updN {H H1 : Hp} {p : Addr} {o : HO} (s : Same H H1) (h : H p = none) : Same H (upd H1 p o) := fun b u q => by rw [upd_ne (ne_of_none q h)]; exact s b u q
structure Sc (K : PySem.W.Frag) (a : Addr) (ns : List Int) (H : Hp) : Prop where
  sq : (∃ o, H a = some (.frz o (.lst (ns.map V.int)))) ∨ ∃ (o : Obj) (its : Array Value) (n : Nat), K.lookup a = some o ∧ o.cls = .type "list" ∧ o.dict = none ∧ o.data = .seq its n ∧ its.size ≤ sizeLine ∧ Vals (ns.map V.int) its.toList
  nt : NoT H
section
variable {K : PySem.W.Frag} {a p : Addr} {ns : List Int} {H H' : Hp} {o : HO}
theorem Sc.seq (s : Sc K a ns H) : SqL K H a (ns.map V.int) := by
  rcases s.sq with ⟨o, h⟩ | h
  · exact .inl (.inr ⟨o, h⟩)
  · exact .inr h
theorem Sc.new (s : Sc K a ns H) (hp : H p = none) (ho : noT o = true := by rfl) : Sc K a ns (upd H p o) := by
  refine ⟨?_, fun b u e => ?_⟩
  · rcases s.sq with ⟨ob, h⟩ | h
    · exact .inl ⟨ob, by rw [upd_ne (ne_of_none h hp)]; exact h⟩
    · exact .inr h
  · by_cases hb : b = p
    · subst hb; rw [upd_same] at e; cases e; exact ho
    · rw [upd_ne hb] at e; exact s.nt b u e
theorem Sc.set {u : HO} (s : Sc K a ns H) (hp : H p = some u) (hu : ∀ ob z, u ≠ .frz ob z) (ho : noT o = true := by rfl) : Sc K a ns (upd H p o) := by
  refine ⟨?_, fun b x e => ?_⟩
  · rcases s.sq with ⟨ob, h⟩ | h
    · refine .inl ⟨ob, ?_⟩
      have hne : a ≠ p := fun z => by subst z; rw [hp] at h; exact hu _ _ (Option.some.inj h)
      rw [upd_ne hne]; exact h
    · exact .inr h
  · by_cases hb : b = p
    · subst hb; rw [upd_same] at e; cases e; exact ho
    · rw [upd_ne hb] at e; exact s.nt b x e
theorem Sc.of_only (hO : Only H) (hS : SqL K H a (ns.map V.int)) : Sc K a ns H := by
  refine ⟨?_, fun b u e => ?_⟩
  · rcases hS with (h | ⟨o, h⟩) | h
    · rcases hO a with z | ⟨ob, xs, z⟩
      · rw [h] at z; cases z
      · rw [h] at z; cases z
    · exact .inl ⟨o, h⟩
    · exact .inr h
  · rcases hO b with z | ⟨ob, xs, z⟩
    · rw [e] at z; cases z
    · rw [e] at z; cases z; rfl
end
def spLaw (K : PySem.W.Frag) : Sp := fun vs H Q _ => ∃ (a : Addr) (ns : List Int), vs = [.ref a] ∧ Sc K a ns H ∧ ns.length ≤ 63 ∧ ∀ H', Q (.bl true) H'
theorem boot_b_len : bootBuiltins "len" = some (.builtin "len") := PySem.boot_len
theorem boot_b_all : bootBuiltins "all" = some (.builtin "all") := by decide +kernel
theorem boot_b_isinstance : bootBuiltins "isinstance" = some (.builtin "isinstance") := by decide +kernel
theorem boot_t_int : bootBuiltins "int" = some (.type "int") := by decide +kernel
theorem boot_t_str : bootBuiltins "str" = some (.type "str") := by decide +kernel
theorem boot_t_bool : bootBuiltins "bool" = some (.type "bool") := by decide +kernel
theorem boot_t_list : bootBuiltins "list" = some (.type "list") := by decide +kernel
theorem Rd.same {H H' : Hp} {a : Addr} {o : HO} (h : Rd H a o) (s : Same H H') : Rd H' a o := by
  rcases h with h | ⟨ob, h⟩
  · exact .inl (s _ _ h)
  · exact .inr ⟨ob, s _ _ h⟩
theorem SqL.same {K : PySem.W.Frag} {H H' : Hp} {a : Addr} {xs : List V} (h : SqL K H a xs) (s : Same H H') : SqL K H' a xs := by
  rcases h with h | h
  · exact .inl (h.same s)
  · exact .inr h
theorem SqT.same {K : PySem.W.Frag} {H H' : Hp} {a : Addr} {xs : List V} (h : SqT K H a xs) (s : Same H H') : SqT K H' a xs := by
  rcases h with h | h
  · exact .inl (h.same s)
  · exact .inr h
theorem NoT.upd {H : Hp} {p : Addr} {o : HO} (h : NoT H) (ho : noT o = true := by rfl) : NoT (upd H p o) := fun b u e => by
  by_cases hb : b = p
  · subst hb; rw [upd_same] at e; cases e; exact ho
  · rw [upd_ne hb] at e; exact h b u e
theorem Sc.same {K : PySem.W.Frag} {a : Addr} {ns : List Int} {H H' : Hp} (s : Sc K a ns H) (sm : Same H H') (nt : NoT H') : Sc K a ns H' := by
  refine ⟨?_, nt⟩
  rcases s.sq with ⟨o, h⟩ | h
  · exact .inl ⟨o, sm _ _ h⟩
  · exact .inr h
end L2
namespace L2
open PySem PySem.Spec PyProof.Rows
structure ClsM (K : PySem.W.Frag) (C : Addr) (m : Str) (f : Addr) : Prop where
  rd : PySem.W.readsIn K C (.type "type") = true
  fd : PySem.W.findCls K (.ref C) (.type "type") m = some (.val (.ref f))
  ga : PySem.W.specialIn K (.ref C) "__getattribute__" = some (some (.builtin "type.__getattribute__"))
  kp : PySem.W.keepIn K (.ref f) = true
structure Virt (P : Program) (w : World) (K : PySem.W.Frag) (mg : Str → Option Value) (base : Heap) (CX : CXT) (k : Nat) (OK : Addr → Prop) (m : Str) (ps : List Str) (SPV : Addr → Sp) : Prop where
  ok : ∀ C, OK C → ∃ f fd, Cls K C ∧ Meth K C m f ∧ FnOk P w K mg base CX k f fd ps (SPV C) ∧ Binds K fd ps []
def tMethV (OK : Addr → Prop) (m : Str) (SPV : Addr → Sp) (E : XK) (ta : TE) (t : TA) : TE := fun σ H Q => ta σ H fun x H1 => ∃ a C dx fs, x = .ref a ∧ H1 a = some (.ins C dx fs) ∧ OK C ∧ fs.lookup m = none ∧
  t σ H1 fun vs H2 => SPV C (x :: vs) H2 Q E
section
variable {X : Cx} {CX : CXT} {k : Nat} {f C : Addr} {fd : FuncData} {ps : List Str} {sp : Sp} {dvs : List V} {ds : List Value} {E : XK} {x m : Str} {p pos apos : Pos} {e o : Expr} {es : List Expr} {ta : TE} {t : TA}
theorem pe_callC {pl : Sem Bool} (hg : Gl X x) (hm : X.mg x = some (.ref C)) (c : ClsM X.K C m f) (F : FnOk X.prog X.w X.K X.mg X.base CX k f fd ps sp) (hr : Room k X.A) (hb : Binds X.K fd ps ds) (hd : Vals dvs ds) (hx : Passes CX X E) (ha : PA X (e :: es) t)
    (hdb : (x == ("__debug__" : Str)) = false := by decide) (hst : starEach (e :: es) X.env = (false, eval e X.env) :: starEach es X.env := by rfl) (hpl : (backTo pos (starEach es X.env)).any (·.1) = false := by rfl)
    (ht : eval (.Call (.Attribute (.Name x p) m apos) (e :: es) [] pos) X.env = (do
      let ov ← eval (.Name x p) X.env
      standAt apos.atName
      let (f, first) ← holding [ov] (getMethod ov m pl)
      callWith pos f first (backTo pos (starEach (e :: es) X.env)) (backToKw pos (keywordEach [] X.env))) := by rfl) :
    PE X (.Call (.Attribute (.Name x p) m apos) (e :: es) [] pos) (tCall sp dvs E t) := by
  intro pins s σ H Q I h
  refine PySem.W.methodCall_KW (pl := pl) (ld_glob I hg hm ?_ hdb) ht
  refine PySem.W.method_cls I.kIn c.ga (PySem.W.cls_value I.kIn c.rd c.fd rfl ?_)
  have I1 := I.tok (s.toks + 1)
  refine PySem.W.callWith_K (first := []) (h₀ := X.base) I.ok.mod.kin c.kp (thn (ha pos pins _ σ H _ I1 h) fun us s2 ⟨vs, H2, I2, r, q2⟩ => ⟨I2.kIn, ?_⟩) hst hpl
  exact run_fn F hr hb hd hx I2 r q2
variable {OK : Addr → Prop} {SPV : Addr → Sp}
end
abbrev SVs := List (Str × V)
def tDGetK (kvs : SVs) (ty : TE) : TE := fun σ H Q => ty σ H fun y H1 => ∃ x v, y = .str x ∧ kvs.lookup x = some v ∧ Q v H1
section
variable {X : Cx} {x : Str} {p pos : Pos} {i : Expr} {ty : TE} {u : Value} {kvs : List (Str × V)}
end
def FldAt (K : PySem.W.Frag) (H : Hp) (a : Addr) (f : Str) (v : V) : Prop := ∃ C dx fs, H a = some (.ins C dx fs) ∧ Cls K C ∧ NoAttr K C f ∧ fs.lookup f = some v
theorem putF_new {f : Str} {v : V} : ∀ {fs : List (Str × V)} (ks : List Str), fs.map (·.1) = ks → ks.contains f = false → putF f v fs = fs ++ [(f, v)]
  | [], _, _, _ => rfl
  | (g, y) :: r, ks, e, h => by
    cases e
    rw [List.map_cons, List.contains_cons] at h
    have h1 := (Bool.or_eq_false_iff.mp h)
    have hne : ¬ g = f := fun z => by
      have := h1.1
      rw [z] at this
      simp at this
    show (if g = f then _ else _) = _
    rw [if_neg hne, putF_new _ rfl h1.2]
    rfl
theorem lenP {f : Str} {v : V} {fs : List (Str × V)} {n : Nat} (h : fs.length < n) : (putF f v fs).length < n + 1 := Nat.lt_of_le_of_lt (length_putF f v fs) (by omega)
theorem lookup_at {f : Str} {v : V} : ∀ {fs : List (Str × V)} (ks : List Str) (i : Nat), fs.map (·.1) = ks → ks.findIdx? (· == f) = some i → fs[i]? = some (f, v) → fs.lookup f = some v
  | [], _, _, _, _, h => by simp at h
  | (g, y) :: r, ks, i, e, h, hv => by
    cases e
    rw [List.map_cons, List.findIdx?_cons] at h
    rw [List.lookup]
    by_cases e : g = f
    · subst e
      rw [beq_self_eq_true, if_pos rfl] at h
      cases h
      have : (g, y) = (g, v) := by simpa using hv
      cases this
      rw [beq_self_eq_true]
    · rw [beq_eq_false_iff_ne.mpr e, if_neg (by decide)] at h
      obtain ⟨j, hj, rfl⟩ := Option.map_eq_some_iff.mp h
      rw [beq_eq_false_iff_ne.mpr (fun z => e z.symm)]
      exact lookup_at _ j rfl hj (by simpa using hv)
theorem lookup_no {f : Str} : ∀ {fs : List (Str × V)} (ks : List Str), fs.map (·.1) = ks → ks.contains f = false → fs.lookup f = none
  | [], _, _, _ => rfl
  | (g, y) :: r, ks, e, h => by
    cases e
    rw [List.map_cons, List.contains_cons] at h
    have h1 := (Bool.or_eq_false_iff.mp h)
    rw [List.lookup, h1.1]
    exact lookup_no _ rfl h1.2
end L2
namespace L2
open PySem PySem.Spec PyProof.Rows
theorem Inv.turnedL {X : Cx} {pins : List (Addr × Obj)} {σ : St} {H : Hp} {s : Shared} {h' : Heap} {t' : Nat} {fp : List Addr} (I : Inv X pins σ H s) (k : ∀ b o, b ∉ fp → s.heap.get? b = some o → h'.get? b = some o)
    (hf : ∀ b ∈ fp, FpOk X pins H b) : Inv X pins σ H { s with heap := h', toks := t' } := by
  have nit : ∀ b u, H b = some u → b ∉ fp := fun b u e z => by rw [(hf b z).1] at e; cases e
  refine I.step (g' := s.gens) (d' := s.drawn) (ch := fp) (fun b hb => ?_) (fun b o _ _ hc e _ => k b o hc e) (fun b o _ _ hc e _ => ⟨o.slots, k b o hc e⟩) (fun _ _ _ _ n => n)
    (fun b o hc e => ⟨o, k b o hc e⟩) (fun _ _ e => e) (fun _ _ _ e => e) (fun b ps e => ⟨#[], by rw [e]; simp⟩) (fun m hm => ?_) (fun b u e => ?_) I.bare
  · obtain ⟨f0, f1, f2, f3, f4, f5⟩ := hf b hb
    exact ⟨f3, f1, f4, f5⟩
  · obtain ⟨o, es, ep, ho, r⟩ := hm
    exact ⟨o, es, ep, k _ o (fun z => (hf _ z).2.1 rfl) ho, r⟩
  · refine (I.hok b u e).stay (fun c v hc q => k c v ?_ q) (fun _ q => q) fun _ _ q => q
    rcases hc with z | z
    · rw [z]; exact nit b u e
    · exact nit c _ z
def Ite (K : PySem.W.Frag) (a : Addr) : It :=
  ⟨fun i H => ∃ xs x, SqL K H a xs ∧ xs[i]? = some x, fun i H v H' => ∃ p y, H p = none ∧ v = .ref p ∧ (∀ xs, SqL K H a xs → xs[i]? = some y) ∧ H' = upd H p (.tup [.int i, y]), fun i H => ∃ xs, SqL K H a xs ∧ xs.length ≤ i⟩
theorem turn_enum {P : Program} {w : World} {K : PySem.W.Frag} {es : List Expr} {k} {pos : Pos} (a e it : Addr) (hne : e ≠ it) :
    Turn P w K (.Tuple es k pos) (Ite K a) [e, it] e (fun i h => ∃ old, IsEnum h e it ((i : Nat) : Int) old ∧ h.IsListIter it a i) where
  mem := by simp
  obj := fun i h ⟨old, he, hi⟩ b hb => by
    simp only [List.mem_cons, List.not_mem_nil, or_false] at hb
    rcases hb with rfl | rfl
    · exact ⟨_, he, fun v z => by
        have z' : Data.fields _ = Data.cell v := z
        cases z'⟩
    · obtain ⟨o, q, c, d⟩ := hi
      exact ⟨o, q, fun v z => by rw [d] at z; cases z⟩
  keep := fun i h h' ⟨old, he, hi⟩ k => ⟨old, k e (by simp) _ he, hi.at fun o q => k it (by simp) o q⟩
  item := by
    intro X hP hw hK hc i pins s σ H E I hf ⟨old, he, hi⟩ hg
    subst hP hw hK
    obtain ⟨xs, x, hq, hx⟩ := hg
    obtain ⟨its, rv, p, hz⟩ := I.list hq
    obtain ⟨u, hu, ru⟩ := rv.get hx
    refine wpAny_pyNext_enum_item he hi p.isList (x := u) (by simpa using hu) hne fun h1 he1 hi1 ht1 hz1 hk1 => ⟨_, rfl, ?_⟩
    refine wpAny_letOwnedTupleGo_enum he1 fun h2 he2 hs2 => ?_
    replace hs2 : Heap.SameBut e h1 h2 := hs2
    have hel : e < s.heap.objs.size := Heap.lt_size he
    have hk : ∀ b o, b ∉ [e, it] → s.heap.get? b = some o → h2.get? b = some o := fun b o hb q => by
      simp only [List.mem_cons, List.not_mem_nil, or_false, not_or] at hb
      exact hs2.extBut _ _ hb.1 (hk1 b o hb.1 hb.2 q)
    have I1 : Inv X pins σ H { s with heap := h2, toks := s.toks + 1 } := I.turnedL hk hf
    have fo : FpOk X pins H s.heap.objs.size := I.fpOk (Nat.le_refl _) (I.hok.fresh (Nat.le_refl _))
    have ht2 : h2.get? s.heap.objs.size = some { cls := .type "tuple", data := .seq #[.int i s.toks, u] } := (hs2.2 _ (Nat.ne_of_gt hel)).trans ht1
    have I2 := I1.adopt (o := .tup [.int i, x]) fo ⟨by show 2 ≤ sizeLine; decide, [.int i s.toks, u], .cons ⟨_, rfl⟩ (.cons ru .nil), ⟨_, ht2, rfl, _, rfl⟩⟩
    refine ⟨.ref s.heap.objs.size, _, I2, rfl, ⟨_, x, fo.1, rfl, fun ys hy => by rw [I.list_inj hy hq]; exact hx, rfl⟩, ⟨u, ?_, ?_⟩, fun b hb => ?_⟩
    · have e1 : ((i + 1 : Nat) : Int) = (i : Int) + 1 := by omega
      rw [e1]; exact he2
    · exact hi1.extBut hs2.extBut (Ne.symm hne)
    · have hlt : b < s.heap.objs.size := by
        simp only [List.mem_cons, List.not_mem_nil, or_false] at hb
        rcases hb with rfl | rfl
        · exact hel
        · obtain ⟨o, q, _⟩ := hi
          exact Heap.lt_size q
      rw [upd_ne (Nat.ne_of_lt hlt)]; exact (hf b hb).1
  done := by
    intro X hP hw hK hc i pins s σ H E I hf ⟨old, he, hi⟩ hg
    subst hP hw hK
    obtain ⟨xs, hq, hx⟩ := hg
    obtain ⟨its, rv, p, hz⟩ := I.list hq
    have hl := rv.length
    exact wpAny_pyNext_enum_end (I.ok.hd hc) he hi p.isList (by simp; omega) fun h' eb => ⟨rfl, I.turnedL (t' := s.toks) (fun b o hb q => eb b o (fun z => hb (by simp [z])) q) hf⟩
  self := fun _ _ _ _ _ ⟨_, he, _⟩ h => wpAny_pyIter_enum he h
theorem boot_enumerate : bootBuiltins "enumerate" = some (.type "enumerate") := by decide +kernel
def Itz (K : PySem.W.Frag) (a b : Addr) : It :=
  ⟨fun i H => ∃ xs ys x y, SqL K H a xs ∧ SqL K H b ys ∧ xs[i]? = some x ∧ ys[i]? = some y,
   fun i H v H' => ∃ p x y, H p = none ∧ v = .ref p ∧ (∀ xs, SqL K H a xs → xs[i]? = some x) ∧ (∀ ys, SqL K H b ys → ys[i]? = some y) ∧ H' = upd H p (.tup [x, y]),
   fun i H => ∃ xs ys, SqL K H a xs ∧ SqL K H b ys ∧ (xs.length ≤ i ∨ ys.length ≤ i)⟩
def Itv (K : PySem.W.Frag) (a : Addr) (n : Nat) : It :=
  ⟨fun i H => i < n ∧ ∃ xs, SqL K H a xs ∧ xs.length = n, fun i H x H' => H' = H ∧ ∀ xs, SqL K H a xs → xs[n - 1 - i]? = some x, fun i _ => n ≤ i⟩
section
variable {X : Cx}
def iEnum (K : PySem.W.Frag) (ta : TA) : TI := fun σ H R => ta σ H fun vs H1 => ∃ a, vs = [.ref a] ∧ (∃ xs, SqL K H1 a xs) ∧ R (Ite K a) H1
theorem pi_enum {es : List Expr} {k} {tpos : Pos} {a : Expr} {ta : TA} {p pos : Pos} (hg : Gl X "enumerate") (hm : X.mg "enumerate" = none) (ha : PA X [a] ta) (hs : starEach [a] X.env = [(false, eval a X.env)] := by rfl) :
    PI X (.Tuple es k tpos) (.Call (.Name "enumerate" p) [a] [] pos) (iEnum X.K ta) := by
  intro pins s σ H R I h
  refine Call_ (ld_blt I hg hm boot_enumerate (PyProof.Rows.callWith_type1 (thn (ha pos pins s σ H _ I h) fun us s1 ⟨vs, H1, I1, r1, q1⟩ => ?_) hs rfl))
  obtain ⟨a, e, ⟨xs, hq⟩, q⟩ := q1
  subst e
  cases r1 with
  | cons r rr =>
    cases rr
    cases r
    obtain ⟨its, rv, pl, hz⟩ := I1.list hq
    refine call_enumerate_list pl.isList fun h' hE hI hsz hk => wpAny_pyIter_enum hE ?_
    refine ⟨s1.heap.objs.size + 1, [s1.heap.objs.size + 1, s1.heap.objs.size], _, _, H1, rfl, I1.kept (t' := s1.toks) hk, turn_enum a _ _ (Nat.succ_ne_self _), ⟨_, hE, hI⟩, fun b hb => ?_, q⟩
    have hb' : s1.heap.objs.size ≤ b := by
      simp only [List.mem_cons, List.not_mem_nil, or_false] at hb
      rcases hb with rfl | rfl
      · exact Nat.le_succ _
      · exact Nat.le_refl _
    exact I1.fpOk hb' (I1.hok.fresh hb')
def iZip (K : PySem.W.Frag) (ta : TA) : TI := fun σ H R => ta σ H fun vs H1 => ∃ a b, vs = [.ref a, .ref b] ∧ (∃ xs, SqL K H1 a xs) ∧ (∃ ys, SqL K H1 b ys) ∧ R (Itz K a b) H1
def iRev (K : PySem.W.Frag) (ta : TA) : TI := fun σ H R => ta σ H fun vs H1 => ∃ a xs, vs = [.ref a] ∧ SqL K H1 a xs ∧ R (Itv K a xs.length) H1
end
theorem pg_tupK {X : Cx} {es : List Expr} {k : Nat} {pos : Pos} {t : TGs} {n : Nat} {K : PySem.W.Frag} (hK : X.K = K) (hc : X.calm = true) (h : PGs X es t)
    (hn : (assignEach es X.env).length = n := by rfl) (hst : (assignEach es X.env).findIdx? (·.1) = none := by rfl) : PG X (.Tuple es k pos) (gTup K n t) := by
  subst hK
  exact pg_tup hc h hn hst
section
variable {X : Cx}
def rInsert : V → List V → Hp → VK → Prop := fun x vs H Q => ∃ l xs i y, x = .ref l ∧ vs = [.int i, y] ∧ H l = some (.lst xs) ∧ 0 ≤ i ∧ i < 2 ^ 62 ∧ i ≤ (xs.length : Int) ∧ xs.length < sizeLine ∧ Q .non (upd H l (.lst (xs.take i.toNat ++ y :: xs.drop i.toNat)))
end
end L2
namespace L2
open PySem PySem.Spec PyProof.Rows
inductive EqH (K : PySem.W.Frag) (H : Hp) : Nat → V → V → Bool → Prop
  | flat {k : Nat} {x y : V} (hx : flatV x = true) (hy : flatV y = true) : EqH K H k x y (eqV x y)
  | lst {k : Nat} {p q : Addr} {xs ys : List V} {e : Nat → Bool} (hp : SqL K H p xs) (hq : SqL K H q ys) (hl : xs.length = ys.length) (he : ∀ (j : Nat) (x y : V), xs[j]? = some x → ys[j]? = some y → EqH K H k x y (e j)) : EqH K H (k + 1) (.ref p) (.ref q) ((List.range xs.length).all e)
  | lstN {k : Nat} {p q : Addr} {xs ys : List V} (hp : SqL K H p xs) (hq : SqL K H q ys) (hl : xs.length ≠ ys.length) : EqH K H (k + 1) (.ref p) (.ref q) false
  | tup {k : Nat} {p q : Addr} {xs ys : List V} {e : Nat → Bool} (hp : SqT K H p xs) (hq : SqT K H q ys) (he : ∀ (j : Nat) (x y : V), xs[j]? = some x → ys[j]? = some y → EqH K H k x y (e j)) : EqH K H (k + 1) (.ref p) (.ref q) ((List.range (min xs.length ys.length)).all e && xs.length == ys.length)
theorem eqV_self {x : V} (h : flatV x = true) : eqV x x = true := by
  cases x <;> first | rfl | (simp [eqV]; done) | cases h
theorem all_of_get {n : Nat} {e : Nat → Bool} (h : ∀ j, j < n → e j = true) : (List.range n).all e = true := by
  rw [List.all_eq_true]
  exact fun j hj => h j (List.mem_range.mp hj)
section
variable {X : Cx} {pins : List (Addr × Obj)} {σ : St} {H : Hp} {s : Shared}
theorem EqH.self (I : Inv X pins σ H s) {k : Nat} {x y : V} {b : Bool} (h : EqH X.K H k x y b) (e : x = y) : b = true := by
  induction h with
  | flat hx hy => subst e; exact eqV_self hx
  | @lst k p q xs ys f hp hq hl he ih =>
    injection e with e
    subst e
    have := I.list_inj hp hq
    subst this
    refine all_of_get fun j hj => ?_
    exact ih j xs[j] xs[j] (List.getElem?_eq_getElem hj) (List.getElem?_eq_getElem hj) rfl
  | lstN hp hq hl =>
    injection e with e
    subst e
    have := I.list_inj hp hq
    subst this
    exact absurd rfl hl
  | @tup k p q xs ys f hp hq he ih =>
    injection e with e
    subst e
    have := I.tuple_inj hp hq
    subst this
    rw [Bool.and_eq_true]
    refine ⟨all_of_get fun j hj => ?_, by simp⟩
    have hj' : j < xs.length := by omega
    exact ih j xs[j] xs[j] (List.getElem?_eq_getElem hj') (List.getElem?_eq_getElem hj') rfl
theorem units_in1 (A : Around) : A.in1.units = A.units + 1 := rfl
theorem eqH_both (I : Inv X pins σ H s) {k : Nat} {x y : V} {b : Bool} (h : EqH X.K H k x y b) : ∀ (A : Around) (v u : Value), A.units + k < cLine → RelV x v → RelV y u →
    SeqAt.EqAt A s v u b ∧ (∀ p q, x = .ref p → y = .ref q → SeqAt.RcAt A s v u b) := by
  induction h with
  | flat hx hy =>
    intro A v u hu rx ry
    refine ⟨eqAt_V rx ry hx hy, fun p q e _ => ?_⟩
    subst e
    cases hx
  | @lst k p q xs ys f hp hq hl he ih =>
    intro A v u hu rx ry
    cases rx
    cases ry
    obtain ⟨its, r, pl, hz⟩ := I.list hp
    obtain ⟨jts, r', pl', hz'⟩ := I.list hq
    have l1 := r.length
    have l2 := r'.length
    have rc : SeqAt.RcAt A s (.ref p) (.ref q) ((List.range xs.length).all f) := by
      have := SeqAt.RcAt.lists (A := A) (e := f) pl.isList pl'.isList (by simp only [List.size_toArray]; omega) (by omega) fun j h1 h2 => by
        simp only [List.size_toArray] at h1 h2
        have hj : j < xs.length := by omega
        have hj' : j < ys.length := by omega
        obtain ⟨a, ha, ra⟩ := r.get (List.getElem?_eq_getElem hj)
        obtain ⟨c, hc, rc⟩ := r'.get (List.getElem?_eq_getElem hj')
        have ea : its.toArray[j] = a := by
          have := List.getElem?_eq_getElem h1
          rw [ha] at this
          simpa using (Option.some.inj this).symm
        have ec : jts.toArray[j] = c := by
          have := List.getElem?_eq_getElem h2
          rw [hc] at this
          simpa using (Option.some.inj this).symm
        rw [ea, ec]
        exact (ih j _ _ (List.getElem?_eq_getElem hj) (List.getElem?_eq_getElem hj') A.in1 a c (by rw [units_in1]; omega) ra rc).1
      rwa [List.size_toArray, ← l1] at this
    refine ⟨?_, fun _ _ _ _ => rc⟩
    by_cases hne : p = q
    · have hb := (EqH.lst hp hq hl he).self I (congrArg V.ref hne)
      rw [hb, hne]
      exact SeqAt.EqAt.same _
    · exact SeqAt.EqAt.of_refs hne rc
  | @lstN k p q xs ys hp hq hl =>
    intro A v u hu rx ry
    cases rx
    cases ry
    obtain ⟨its, r, pl, hz⟩ := I.list hp
    obtain ⟨jts, r', pl', hz'⟩ := I.list hq
    have l1 := r.length
    have l2 := r'.length
    have rc : SeqAt.RcAt A s (.ref p) (.ref q) false := SeqAt.RcAt.lists_lengths pl.isList pl'.isList (by simp only [List.size_toArray, bne_iff_ne, ne_eq]; omega) (by omega)
    refine ⟨SeqAt.EqAt.of_refs (fun e => hl ?_) rc, fun _ _ _ _ => rc⟩
    subst e
    rw [I.list_inj hp hq]
  | @tup k p q xs ys f hp hq he ih =>
    intro A v u hu rx ry
    cases rx
    cases ry
    obtain ⟨its, r, pl, hz⟩ := I.tuple hp
    obtain ⟨jts, r', pl', hz'⟩ := I.tuple hq
    have l1 := r.length
    have l2 := r'.length
    have rc : SeqAt.RcAt A s (.ref p) (.ref q) ((List.range (min xs.length ys.length)).all f && xs.length == ys.length) := by
      have := SeqAt.RcAt.tuples (A := A) (e := f) pl pl' (by omega) fun j h1 h2 => by
        simp only [List.size_toArray] at h1 h2
        have hj : j < xs.length := by omega
        have hj' : j < ys.length := by omega
        obtain ⟨a, ha, ra⟩ := r.get (List.getElem?_eq_getElem hj)
        obtain ⟨c, hc, rc⟩ := r'.get (List.getElem?_eq_getElem hj')
        have ea : its.toArray[j] = a := by
          have := List.getElem?_eq_getElem h1
          rw [ha] at this
          simpa using (Option.some.inj this).symm
        have ec : jts.toArray[j] = c := by
          have := List.getElem?_eq_getElem h2
          rw [hc] at this
          simpa using (Option.some.inj this).symm
        rw [ea, ec]
        exact (ih j _ _ (List.getElem?_eq_getElem hj) (List.getElem?_eq_getElem hj') A.in1 a c (by rw [units_in1]; omega) ra rc).1
      rwa [List.size_toArray, List.size_toArray, ← l1, ← l2] at this
    refine ⟨?_, fun _ _ _ _ => rc⟩
    by_cases hne : p = q
    · have hb := (EqH.tup hp hq he).self I (congrArg V.ref hne)
      rw [hb, hne]
      exact SeqAt.EqAt.same _
    · exact SeqAt.EqAt.of_refs hne rc
end
section
variable {X : Cx} {pins : List (Addr × Obj)} {σ : St} {H : Hp} {s : Shared}
theorem eqH_items (I : Inv X pins σ H s) {k : Nat} {A : Around} {xs ys : List V} {its jts : List Value} {f : Nat → Bool} (hu : A.units + k < cLine) (r : Vals xs its) (r' : Vals ys jts)
    (he : ∀ (j : Nat) (x y : V), xs[j]? = some x → ys[j]? = some y → EqH X.K H k x y (f j)) : ∀ j (h1 : j < its.toArray.size) (h2 : j < jts.toArray.size), SeqAt.EqAt A s its.toArray[j] jts.toArray[j] (f j) := fun j h1 h2 => by
  simp only [List.size_toArray] at h1 h2
  have l1 := r.length
  have l2 := r'.length
  have hj : j < xs.length := by omega
  have hj' : j < ys.length := by omega
  obtain ⟨a, ha, ra⟩ := r.get (List.getElem?_eq_getElem hj)
  obtain ⟨c, hc, rc⟩ := r'.get (List.getElem?_eq_getElem hj')
  have ea : its.toArray[j] = a := by
    have := List.getElem?_eq_getElem h1
    rw [ha] at this
    simpa using (Option.some.inj this).symm
  have ec : jts.toArray[j] = c := by
    have := List.getElem?_eq_getElem h2
    rw [hc] at this
    simpa using (Option.some.inj this).symm
  rw [ea, ec]
  exact (eqH_both I (he j _ _ (List.getElem?_eq_getElem hj) (List.getElem?_eq_getElem hj')) A a c hu ra rc).1
theorem eqH_ne (I : Inv X pins σ H s) {k : Nat} {p q : Addr} {b : Bool} (h : EqH X.K H k (.ref p) (.ref q) b) (A : Around) (hu : A.units + k < cLine) : SeqAt.RcNeAt A s (.ref p) (.ref q) (!b) := by
  cases h with
  | flat hx hy => cases hx
  | @lst k _ _ xs ys f hp hq hl he =>
    obtain ⟨its, r, pl, hz⟩ := I.list hp
    obtain ⟨jts, r', pl', hz'⟩ := I.list hq
    have l1 := r.length
    have l2 := r'.length
    have := SeqAt.RcNeAt.lists (A := A) (e := f) pl.isList pl'.isList (by simp only [List.size_toArray]; omega) (by omega) (eqH_items I (A := A.in1) (k := k) (by rw [units_in1]; omega) r r' he)
    rwa [List.size_toArray, ← l1] at this
  | @lstN k _ _ xs ys hp hq hl =>
    obtain ⟨its, r, pl, hz⟩ := I.list hp
    obtain ⟨jts, r', pl', hz'⟩ := I.list hq
    have l1 := r.length
    have l2 := r'.length
    exact SeqAt.RcNeAt.lists_lengths pl.isList pl'.isList (by simp only [List.size_toArray, bne_iff_ne, ne_eq]; omega) (by omega)
  | @tup k _ _ xs ys f hp hq he =>
    obtain ⟨its, r, pl, hz⟩ := I.tuple hp
    obtain ⟨jts, r', pl', hz'⟩ := I.tuple hq
    have l1 := r.length
    have l2 := r'.length
    have := SeqAt.RcNeAt.tuples (A := A) (e := f) pl pl' (by omega) (eqH_items I (A := A.in1) (k := k) (by rw [units_in1]; omega) r r' he)
    rwa [List.size_toArray, List.size_toArray, ← l1, ← l2] at this
end
section
variable {X : Cx}
def rNeL (K : PySem.W.Frag) : R2 := fun x y H Q => ∃ p q b, x = .ref p ∧ y = .ref q ∧ EqH K H 8 (.ref p) (.ref q) b ∧ Q (.bl (!b)) H
theorem op_neL (hU : X.A.units + 64 < cLine) : OpR X (compareOp .NotEq) (rNeL X.K) := by
  intro pins s σ H x y v u Q I rx ry h
  obtain ⟨p, q, b, rfl, rfl, hE, q'⟩ := h
  cases rx
  cases ry
  exact eqH_ne I hE X.A (by omega) _ _ _ _ ⟨.bl (!b), H, I, rfl, q'⟩
def rEqL (K : PySem.W.Frag) : R2 := fun x y H Q => ∃ p q b, x = .ref p ∧ y = .ref q ∧ EqH K H 8 (.ref p) (.ref q) b ∧ Q (.bl b) H
theorem op_eqL (hU : X.A.units + 64 < cLine) : OpR X (compareOp .Eq) (rEqL X.K) := by
  intro pins s σ H x y v u Q I rx ry h
  obtain ⟨p, q, b, rfl, rfl, hE, q'⟩ := h
  exact (eqH_both I hE X.A v u (by omega) rx ry).2 p q rfl rfl _ _ _ _ ⟨.bl b, H, I, rfl, q'⟩
end
theorem EqH.mono {K : PySem.W.Frag} {H : Hp} {j k : Nat} {x y : V} {b : Bool} (h : EqH K H j x y b) : j ≤ k → EqH K H k x y b := by
  induction h generalizing k with
  | flat hx hy => exact fun _ => .flat hx hy
  | lst hp hq hl he ih =>
    intro hk
    obtain ⟨m, rfl⟩ : ∃ m, k = m + 1 := ⟨k - 1, by omega⟩
    exact .lst hp hq hl fun j x y h1 h2 => ih j x y h1 h2 (by omega)
  | lstN hp hq hl =>
    intro hk
    obtain ⟨m, rfl⟩ : ∃ m, k = m + 1 := ⟨k - 1, by omega⟩
    exact .lstN hp hq hl
  | tup hp hq he ih =>
    intro hk
    obtain ⟨m, rfl⟩ : ∃ m, k = m + 1 := ⟨k - 1, by omega⟩
    exact .tup hp hq fun j x y h1 h2 => ih j x y h1 h2 (by omega)
def oneK : V → V → Bool
  | .int _, .int _ => true
  | .str _, .str _ => true
  | .bl _, .bl _ => true
  | .non, .non => true
  | _, _ => false
theorem oneK_eq {x y : V} (h : oneK x y = true) : flatV x = true ∧ flatV y = true ∧ eqV x y = decide (x = y) := by
  cases x <;> cases y <;> first | (exfalso; simp [oneK] at h; done) | (refine ⟨rfl, rfl, ?_⟩; rfl) | (refine ⟨rfl, rfl, ?_⟩; rw [Bool.eq_iff_iff]; simp [eqV]; done)
theorem EqH.flats {K : PySem.W.Frag} {H : Hp} {k : Nat} {p q : Addr} {xs ys : List V} (hp : SqL K H p xs) (hq : SqL K H q ys) (h : ∀ x ∈ xs, ∀ y ∈ ys, oneK x y = true) : EqH K H (k + 1) (.ref p) (.ref q) (decide (xs = ys)) := by
  by_cases hl : xs.length = ys.length
  · have hd : decide (xs = ys) = (List.range xs.length).all fun j => eqV (xs.getD j .non) (ys.getD j .non) := by
      rw [Bool.eq_iff_iff, decide_eq_true_eq, List.all_eq_true]
      constructor
      · rintro rfl j hj
        have hj' := List.mem_range.mp hj
        have hm : xs.getD j .non ∈ xs := by rw [List.getD_eq_getElem?_getD, List.getElem?_eq_getElem hj']; exact List.getElem_mem hj'
        rw [(oneK_eq (h _ hm _ hm)).2.2, decide_eq_true rfl]
      · intro z
        refine List.ext_getElem hl fun j h1 h2 => ?_
        have := z j (List.mem_range.mpr h1)
        rw [List.getD_eq_getElem?_getD, List.getD_eq_getElem?_getD, List.getElem?_eq_getElem h1, List.getElem?_eq_getElem h2] at this
        have w : eqV xs[j] ys[j] = true := this
        rw [(oneK_eq (h _ (List.getElem_mem h1) _ (List.getElem_mem h2))).2.2, decide_eq_true_eq] at w
        exact w
    rw [hd]
    refine .lst hp hq hl fun j x y h1 h2 => ?_
    have e := oneK_eq (h x (List.mem_of_getElem? h1) y (List.mem_of_getElem? h2))
    rw [List.getD_eq_getElem?_getD, List.getD_eq_getElem?_getD, h1, h2]
    exact .flat e.1 e.2.1
  · rw [decide_eq_false (fun z => hl (by rw [z]))]
    exact .lstN hp hq hl
end L2
namespace L2
open PySem PySem.Spec PyProof.Rows PySem.Builtin PySem.Builtin.ObjectAttr
theorem upd_id {H : Hp} {a : Addr} {o : HO} (h : H a = some o) : upd H a o = H := by
  funext b
  unfold upd
  by_cases e : b = a
  · rw [if_pos e, e, h]
  · rw [if_neg e]
abbrev bmV : List Value := [.type "ValueError", .type "Exception", .type "BaseException", .type "object"]
def excInI (K : PySem.W.Frag) (C fI : Addr) : Bool :=
  match K.lookup C with
  | some ⟨.type "type", _, .cls cd, sl⟩ =>
    match cd.mro, sl.toList with
    | .ref D :: tl, [_, _, _, _, some (.builtin n), _] =>
      (D == C) && (n == "ValueError.__new__") && (cd.hasDel == false) && (cd.hasDict == true) && PySem.W.tailIn K bmV tl && PySem.W.nsOkIn K cd.ns && (PySem.W.nsIn K cd.ns "__init__" == some (some (.ref fI)))
    | _, _ => false
  | _ => false
theorem ns_some {K : PySem.W.Frag} {h : Heap} {N : Addr} {mN : Str → Option Value} {x : Str} {v : Value} (KX : K.In h) (G : h.Ns N mN) (e : PySem.W.nsIn K N x = some (some v)) : mN x = some v := by
  obtain ⟨ob, rows, ep, e1, e2, _, look⟩ := G
  unfold PySem.W.nsIn at e
  split at e
  · rename_i ho
    have z := KX _ _ ho
    rw [e1] at z
    cases z
    cases e2
    split at e
    · rename_i en he
      cases e
      rw [← look]
      unfold nsFind findBy
      rw [← Array.find?_toList, he]; rfl
    · split at e <;> cases e
  · cases e
theorem excI_obj {K : PySem.W.Frag} {h : Heap} {C fI : Addr} (KX : K.In h) (e : excInI K C fI = true) :
    ∃ tl N nm q bs sn sub ab co dd k0 k1 k2 k3 k5 mN, h.get? C = some (excClassObj nm q C N bs tl true sn sub ab co dd k0 k1 k2 k3 k5 "ValueError.__new__") ∧ h.Ns N mN ∧ mN "__init__" = some (.ref fI) ∧ OwnTail h bmV tl := by
  unfold excInI at e
  split at e
  · rename_i dd cd sl ho
    split at e
    · rename_i D tl k0 k1 k2 k3 n k5 hm hs
      simp only [Bool.and_eq_true, beq_iff_eq] at e
      obtain ⟨⟨⟨⟨⟨⟨e1, e2⟩, e3⟩, e4⟩, e5⟩, e6⟩, e7⟩ := e
      obtain ⟨nm, bs, mro, ns, qn, hd, sn, sub, ab, co, del⟩ := cd
      simp only at hm e3 e4 e6 e7
      subst hm e1 e2 e3 e4
      obtain ⟨l⟩ := sl
      simp only at hs
      subst hs
      have G : h.Ns ns (h.nsMap ns) := .of_isNs (PySem.W.isNs_of_in KX e6)
      exact ⟨tl, ns, nm, qn, bs, sn, sub, ab, co, dd, k0, k1, k2, k3, k5, h.nsMap ns, KX _ _ ho, G, ns_some KX G e7, PySem.W.tail_of_in KX e5⟩
    · cases e
  · cases e
section
variable {P : Program} {w : World} {A : Around} {h : Heap} {g : Array GenState} {d : Drawn} {t : Nat} {os : OsState} {K : PySem.W.Frag} {C fI : Addr} {R : Result → Shared → Prop}
theorem call_excI {us : List Value} (KX : K.In h) (e : excInI K C fI = true) (hf : PySem.W.typeIn K (.ref fI) = some (.type "function")) (hz : us.length ≤ sizeLine)
    (hq : ∀ h' x, h.objs.size ≤ x → Heap.MadeExcOf h h' x (.ref C) us → codeAny (model P w) (A.under (.builtin "type.__call__" ⟨.ref C :: us, []⟩)) (.call (.ref fI) ⟨.ref x :: us, []⟩) (PySem.W.InitBack x R) ⟨h', g, d, t, os⟩) :
    codeAny (model P w) A (.call (.ref C) ⟨us, []⟩) R ⟨h, g, d, t, os⟩ := by
  obtain ⟨tl, N, nm, q, bs, sn, sub, ab, co, dd, k0, k1, k2, k3, k5, mN, hC, hN, hi, T⟩ := excI_obj KX e
  have F := PySem.F.excBase_ValueError
  have f1 := tc_lookup
  have f2 := tc_bind (.ref C)
  have ty : (⟨h, g, d, t, os⟩ : Shared).TypeIs (.ref C) "type" := ⟨_, hC, rfl⟩
  refine codeAny_of_tree ?_
  show wpAny _ _ (callAny (.ref C) _) _ _ _
  repeat (any_goals (first | assumption | with_reducible refine wpAny_loadPart_at hC ?_ | wp_step))
  refine ⟨rfl, ?_⟩
  refine codeAny_call_builtin_at (Code.quiet_builtin _ (by decide +kernel)) entry_typeCall (wpAny_check_type_call_sub hC ?_)
  repeat (first | with_reducible refine wpAny_loadPart_at hC ?_ | with_reducible refine wpAny_madeBy_exc hC ?_ | wp_step)
  refine codeAny_call_builtin_code (Code.quiet_builtin _ F.quiet) (wpAny_check_new_subT F T hC ?_)
  refine codeAny_exc_new_subT (rest := us) F T hC ?_ hz
  show wpAny _ _ _ _ _ _
  generalize hh : (h.push { cls := .type "tuple", data := .seq us.toArray }).push { cls := .ref C, data := .fields #[.ref h.objs.size, .none, .none, .none, .bool false, .none] } = h2
  have k : ∀ b o, h.get? b = some o → h2.get? b = some o := fun b o z => by rw [← hh]; exact Heap.get?_push_of_some _ (Heap.get?_push_of_some _ z)
  have hx : h2.get? (h.objs.size + 1) = some { cls := .ref C, data := .fields #[.ref h.objs.size, .none, .none, .none, .bool false, .none] } := by rw [← hh]; heap_get
  have ht : h2.get? h.objs.size = some { cls := .type "tuple", data := .seq us.toArray } := by rw [← hh]; exact Heap.get?_push_of_some _ (Heap.get?_push_at rfl rfl)
  have M : Heap.MadeExcOf h h2 (h.objs.size + 1) (.ref C) us := ⟨k, Heap.get?_none_of_le (Nat.le_succ _), h.objs.size, hx, Heap.get?_none_of_le (Nat.le_refl _), ht⟩
  have cC : (Value.ref C :: tl).contains (.ref C) = true := by simp
  unfold isInstance
  repeat (first | with_reducible refine wpAny_loadPart_at hx ?_ | wp_step)
  refine wpAny_isSubtype_exc (k _ _ hC) ?_
  rw [cC]
  repeat wp_step
  show wpAny _ _ (typeLookup (.ref C) _) _ _ _
  refine wpAny_typeLookup_tail (k _ _ hC) (hN.keeps k) (T.keeps k) F.mroIs F.init.lookup ?_
  rw [hi]
  refine wpAny_holding (wpAny_bind ((PySem.W.bind_fn (KX.keeps k) _ hf).here (wpAny_bind (wpAny_call ?_))))
  refine codeAny_mono (hq h2 _ (Nat.le_succ _) M) fun r s' z => ?_
  rcases r with e | (v | _ | _ | _) <;> first | exact z | exact z.elim | skip
  obtain ⟨rfl, z⟩ := z
  exact wpAny_pure (wpAny_pure z)
end
def overV : List Value → Bool
  | .ref _ :: r => overV r
  | l => l == bmV
theorem refuseV (self : Value) : refuseLoop self "__setattr__" bmV = pure () := by kernel_rfl
theorem overV_refuse (self : Value) : ∀ {l : List Value}, overV l = true → refuseLoop self "__setattr__" l = pure ()
  | .ref c :: r, e => by rw [refuseLoop_ref]; exact overV_refuse self (l := r) e
  | [], e => by cases e
  | .type n :: r, e => by rw [show Value.type n :: r = bmV from beq_iff_eq.mp e]; exact refuseV self
  | .none :: r, e => by rw [show Value.none :: r = bmV from beq_iff_eq.mp e]; exact refuseV self
  | .bool b :: r, e => by rw [show Value.bool b :: r = bmV from beq_iff_eq.mp e]; exact refuseV self
  | .int b c :: r, e => by rw [show Value.int b c :: r = bmV from beq_iff_eq.mp e]; exact refuseV self
  | .str b c :: r, e => by rw [show Value.str b c :: r = bmV from beq_iff_eq.mp e]; exact refuseV self
  | .bytes b c :: r, e => by rw [show Value.bytes b c :: r = bmV from beq_iff_eq.mp e]; exact refuseV self
  | .float b c :: r, e => by rw [show Value.float b c :: r = bmV from beq_iff_eq.mp e]; exact refuseV self
  | .builtin b :: r, e => by rw [show Value.builtin b :: r = bmV from beq_iff_eq.mp e]; exact refuseV self
theorem overV_has (T : String) (h : bmV.contains (.type T) = true) : ∀ {l : List Value}, overV l = true → l.contains (.type T) = true
  | .ref c :: r, e => by rw [List.contains_cons, overV_has T h (l := r) e, Bool.or_true]
  | [], e => by cases e
  | .type n :: r, e => by rw [show Value.type n :: r = bmV from beq_iff_eq.mp e]; exact h
  | .none :: r, e => by rw [show Value.none :: r = bmV from beq_iff_eq.mp e]; exact h
  | .bool b :: r, e => by rw [show Value.bool b :: r = bmV from beq_iff_eq.mp e]; exact h
  | .int b c :: r, e => by rw [show Value.int b c :: r = bmV from beq_iff_eq.mp e]; exact h
  | .str b c :: r, e => by rw [show Value.str b c :: r = bmV from beq_iff_eq.mp e]; exact h
  | .bytes b c :: r, e => by rw [show Value.bytes b c :: r = bmV from beq_iff_eq.mp e]; exact h
  | .float b c :: r, e => by rw [show Value.float b c :: r = bmV from beq_iff_eq.mp e]; exact h
  | .builtin b :: r, e => by rw [show Value.builtin b :: r = bmV from beq_iff_eq.mp e]; exact h
structure XCls (K : PySem.W.Frag) (C : Addr) : Prop where
  hd : PySem.W.hasDictIn K C = true
  ov : ((PySem.W.clsIn K C).any fun cd => overV cd.mro) = true
  sa : PySem.W.findIn K (.ref C) "__setattr__" = some (some (.builtin "object.__setattr__"))
  ga : PySem.W.findIn K (.ref C) "__getattribute__" = some (some (.builtin "BaseException.__getattribute__"))
  gt : PySem.W.findIn K (.ref C) "__getattr__" = some none
  ex : ∃ fI, excInI K C fI = true
def XF (x C : Addr) (od : Option Addr) : Heap → Prop := fun h => ∃ vs sl, h.get? x = some ⟨.ref C, od, .fields vs, sl⟩ ∧ 1 < vs.size ∧ vs[1]? = some .none
def XD (dx : Addr) (fs : List (Str × V)) : Heap → Prop := fun h => ∃ mA, h.Ns1 dx mA ∧ (∀ f, RelO (fs.lookup f) (mA f)) ∧ PySem.Within mA (fs.map (·.1))
theorem XF.at {x C : Addr} {od : Option Addr} {h h' : Heap} (z : XF x C od h) (k : ∀ o, h.get? x = some o → h'.get? x = some o) : XF x C od h' := let ⟨vs, sl, e, r⟩ := z; ⟨vs, sl, k _ e, r⟩
theorem XD.at {dx : Addr} {fs : List (Str × V)} {h h' : Heap} (z : XD dx fs h) (k : ∀ o, h.get? dx = some o → h'.get? dx = some o) : XD dx fs h' := let ⟨mA, e, r⟩ := z; ⟨mA, e.at k, r⟩
theorem XF.ok {P : Program} {w : World} {H : Hp} {h : Heap} {x C : Addr} {od : Option Addr} (z : XF x C od h) : ObjOk P w H h x (.ext (XF x C od)) := by
  obtain ⟨vs, sl, e, r⟩ := id z
  exact ⟨z, ⟨_, e⟩, fun h1 h2 q k => q.at k⟩
theorem XD.ok {P : Program} {w : World} {H : Hp} {h : Heap} {dx : Addr} {fs : List (Str × V)} (z : XD dx fs h) : ObjOk P w H h dx (.ext (XD dx fs)) := by
  obtain ⟨mA, ⟨o, es, ep, e, _⟩, _⟩ := id z
  exact ⟨z, ⟨_, e⟩, fun h1 h2 q k => q.at k⟩
section
variable {prog : Program} {w : World} {A : Around} {E : Value → Shared → Prop} {K : PySem.W.Frag} {C x : Addr} {s : Shared} {R : Result → Shared → Prop}
theorem osaX {ox : Obj} {od : Option Obj} {name : Str} {tk : Tok} {v : Value} (KX : K.In s.heap) (J : PySem.W.InstAt s.heap x ox C od) (c : XCls K C) (ht : NoAttr K C name)
    (h : wpAny (model prog w) A.in1 (storeInOwnDict (.ref x) (.ref C) (.str name tk) name v false)
      (fun fin s' => match fin with | .done f => R (.ok f) s' | .again c' => c'.quiet = true ∧ codeAny (model prog w) A c' R s') (fun e s' => R (.error e) s') s) :
    codeAny (model prog w) A (.call (.builtin "object.__setattr__") ⟨[.ref x, .str name tk, v], []⟩) R s := by
  have G := PySem.F.store_object
  obtain ⟨cd, hc, ho⟩ := PySem.W.any_some c.ov
  have ne : cd.mro.isEmpty = false := by
    cases q : cd.mro with
    | nil => rw [q] at ho; cases ho
    | cons _ _ => rfl
  have sub : PySem.W.Looks (model prog w) s.heap (isInstance (.ref x) (.type "object")) true :=
    J.type.andThen (PySem.W.looks_mroIn KX (by unfold PySem.W.mroIn; rw [hc, Option.bind_some, if_neg (by rw [ne]; decide), overV_has "object" (by decide) ho]))
  refine codeAny_call_builtin G.slot.plain G.entry (@PySem.W.check_slot (model prog w) _ _ s "object.__setattr__" "object" "__setattr__" (.ref x) [.str name tk, v] [] _ G.kind G.split sub (G.args (.ref x) (.str name tk) v) ?_)
  have hm : PySem.W.Looks (model prog w) s.heap (mroOf (.ref C)) cd.mro := (PySem.W.looks_clsIn KX hc).andThen .now
  rw [PySem.W.osa_eq, refuse_eq]
  refine wpAny_bind (wpAny_bind (J.type.here (wpAny_bind (hm.here ?_))))
  rw [overV_refuse _ ho]
  exact wpAny_pure (wpAny_bind (J.type.here (wpAny_bind ((PySem.W.looks_findIn KX ht).here (wpAny_bind (wpAny_pure h))))))
end
section
variable {X : Cx} {pins : List (Addr × Obj)} {σ : St} {H : Hp} {s : Shared} {x C dx : Addr} {fs : List (Str × V)} {f : Str} {y : V} {u : Value} {A : Around} {E : Value → Shared → Prop} {Q : Unit → Shared → Prop}
theorem setx_new (I : Inv X pins σ H s) (e : H x = some (.ext (XF x C none))) (c : XCls X.K C) (n : NoAttr X.K C f) (ry : RelV y u)
    (h : ∀ dx s', H dx = none → dx ≠ x → Inv X pins σ (upd (upd H x (.ext (XF x C (some dx)))) dx (.ext (XD dx [(f, y)]))) s' → Q () s') : wpAny (model X.prog X.w) A (setAttr (.ref x) f u) Q E s := by
  obtain ⟨vs, sl, hx, z1, z2⟩ := (show ObjOk X.prog X.w H s.heap x (.ext (XF x C none)) from I.hok _ _ e).1
  have J : PySem.W.InstAt s.heap x ⟨.ref C, none, .fields vs, sl⟩ C none := ⟨hx, rfl, rfl, True.intro⟩
  refine PySem.W.set_plain I.kIn J c.sa (osaX (s := { s with toks := s.toks + 1 }) I.kIn J c n ?_)
  obtain ⟨cd, hc, hd'⟩ := PySem.W.any_some c.hd
  refine wpAny_bind (wpAny_pure (wpAny_bind (wpAny_bind (wpAny_loadPart hx (wpAny_bind (PySem.W.Looks.here (s := { s with toks := s.toks + 1 }) (PySem.W.looks_clsIn I.kIn hc) ?_))))))
  rw [hd']
  show wpAny _ _ (alloc PySem.W.emptyDict >>= fun d => (update x fun o => { o with dict := some d }) >>= fun _ => dictMade (.ref C) x d) _ _ _
  refine wpAny_bind (wpAny_alloc (wpAny_bind ?_))
  have hx1 : (s.heap.push PySem.W.emptyDict).get? x = some ⟨.ref C, none, .fields vs, sl⟩ := Heap.get?_push_of_some _ hx
  have lx : x < s.heap.objs.size := Heap.lt_size hx
  refine wpAny_update hx1 (wpAny_pure ?_)
  have e1 : (s.heap.push PySem.W.emptyDict).get? s.heap.objs.size = some PySem.W.emptyDict := Heap.get?_push_size s.heap rfl
  have e3 : (s.heap.push PySem.W.emptyDict).Ns s.heap.objs.size (fun _ => none) := ⟨PySem.W.emptyDict, #[], _, e1, rfl, (fun e he => absurd he (by simp)), fun _ => rfl⟩
  generalize hg2 : (s.heap.push PySem.W.emptyDict).update x (fun o => { o with dict := some s.heap.objs.size }) = h2
  have nx : s.heap.objs.size ≠ x := Nat.ne_of_gt lx
  have k2 : ∀ b, b ≠ x → h2.get? b = (s.heap.push PySem.W.emptyDict).get? b := fun b hb => by rw [← hg2]; exact Heap.get?_update_other _ _ (Ne.symm hb)
  have x2 : h2.get? x = some ⟨.ref C, some s.heap.objs.size, .fields vs, sl⟩ := by rw [← hg2]; exact Heap.get?_update_self _ hx1 rfl
  have n2 : h2.Ns1 s.heap.objs.size (fun _ => none) := (Heap.Ns1.of_empty e3).at fun o q => (k2 _ nx).trans q
  refine wpAny_bind (wpAny_pure (wpAny_bind ?_))
  refine wpAny_nsSet1 (s := { s with heap := h2, toks := s.toks + 1 }) n2 fun h3 n3 s3 => ?_
  have wi : PySem.Within (fun a => if a = f then some u else none) [f] := PySem.Within.cons f u (fun a ha => absurd rfl ha)
  obtain ⟨oD, esD, epD, hoD, hdD, hcD⟩ := n3.count wi
  refine wpAny_bind (wpAny_lookBehind hoD (by rw [hdD]; exact pastItsLine_dict (Nat.le_trans hcD (by rw [sizeLine_eq]; show 1 ≤ _; decide))) ?_)
  refine wpAny_pure (h s.heap.objs.size _ (I.hok.fresh (Nat.le_refl _)) nx ?_)
  have k3 : ∀ b o, b ≠ x → s.heap.get? b = some o → h3.get? b = some o := fun b o hb q =>
    (s3.2 b (fun z => by rw [z] at q; exact absurd (Heap.lt_size q) (Nat.lt_irrefl _))).trans ((k2 b hb).trans (Heap.get?_push_of_some _ q))
  have x3 : h3.get? x = some ⟨.ref C, some s.heap.objs.size, .fields vs, sl⟩ := (s3.2 x (Ne.symm nx)).trans x2
  generalize hgA : s.heap.update x (fun o => { o with dict := some s.heap.objs.size }) = hA
  have kA : ∀ b, b ≠ x → hA.get? b = s.heap.get? b := fun b hb => by rw [← hgA]; exact Heap.get?_update_other _ _ (Ne.symm hb)
  have xA : hA.get? x = some ⟨.ref C, some s.heap.objs.size, .fields vs, sl⟩ := by rw [← hgA]; exact Heap.get?_update_self _ hx rfl
  have szA : hA.objs.size = s.heap.objs.size := by rw [← hgA]; exact Heap.size_update _ _ _
  have IA := I.write (x := x) (e := x) (o := .ext (XF x C (some s.heap.objs.size))) (h' := hA) (t' := s.toks) (by rw [e]; exact True.intro) (.inl rfl) (fun b o hb q => (kA b hb).trans q) ⟨_, xA⟩ (XF.ok ⟨vs, sl, xA, z1, z2⟩)
  refine IA.laid (a := s.heap.objs.size) (h' := h3) (fun b o q => ?_) (Nat.le_of_eq szA) (XD.ok ⟨_, n3, fun g => ?_, wi⟩)
  · by_cases hb : b = x
    · subst hb; rw [xA] at q; rw [x3, ← q]
    · rw [kA b hb] at q; exact k3 b o hb q
  · show RelO (List.lookup g [(f, y)]) (if g = f then some u else none)
    by_cases hq : g = f
    · rw [if_pos hq, hq, List.lookup_cons_self]; exact ry
    · rw [if_neg hq, List.lookup_cons, beq_false_of_ne hq]; exact True.intro
theorem setx_more (I : Inv X pins σ H s) (e : H x = some (.ext (XF x C (some dx)))) (ed : H dx = some (.ext (XD dx fs))) (c : XCls X.K C) (n : NoAttr X.K C f) (hl : fs.length < 1000) (ry : RelV y u)
    (h : ∀ s', Inv X pins σ (upd H dx (.ext (XD dx (putF f y fs)))) s' → Q () s') : wpAny (model X.prog X.w) A (setAttr (.ref x) f u) Q E s := by
  obtain ⟨vs, sl, hx, z1, z2⟩ := (show ObjOk X.prog X.w H s.heap x (.ext (XF x C (some dx))) from I.hok _ _ e).1
  obtain ⟨mA, n1, r, wi⟩ := (show ObjOk X.prog X.w H s.heap dx (.ext (XD dx fs)) from I.hok _ _ ed).1
  obtain ⟨od, ho, hlk⟩ := lookIn_ns n1
  have J : PySem.W.InstAt s.heap x ⟨.ref C, some dx, .fields vs, sl⟩ C (some od) := ⟨hx, rfl, rfl, ho⟩
  refine PySem.W.set_plain I.kIn J c.sa (osaX (s := { s with toks := s.toks + 1 }) I.kIn J c n ?_)
  obtain ⟨cd, hc, hd'⟩ := PySem.W.any_some c.hd
  refine wpAny_bind (wpAny_pure (wpAny_bind (wpAny_bind (wpAny_loadPart hx (wpAny_bind (PySem.W.Looks.here (s := { s with toks := s.toks + 1 }) (PySem.W.looks_clsIn I.kIn hc) ?_))))))
  rw [hd']
  refine wpAny_pure (a := some dx) (wpAny_bind (wpAny_pure (wpAny_bind ?_)))
  refine wpAny_nsSet1 (s := { s with toks := s.toks + 1 }) n1 fun h3 n3 s3 => ?_
  obtain ⟨oD, esD, epD, hoD, hdD, hcD⟩ := n3.count (PySem.Within.cons f u wi)
  refine wpAny_bind (wpAny_lookBehind hoD (by rw [hdD]; exact pastItsLine_dict (Nat.le_trans hcD (by rw [List.length_cons, List.length_map, sizeLine_eq]; omega))) ?_)
  refine wpAny_pure (h _ ?_)
  refine I.write (x := dx) (e := dx) (by rw [ed]; exact True.intro) (.inl rfl) (fun b o hb q => (s3.2 b hb).trans q) ⟨_, hoD⟩ (XD.ok ⟨_, n3, fun g => ?_, fun g hg => ?_⟩)
  · show RelO ((putF f y fs).lookup g) (if g = f then some u else mA g)
    rw [lookup_putF]
    by_cases q : g = f
    · rw [if_pos q, if_pos q]; exact ry
    · rw [if_neg q, if_neg q]; exact r g
  · by_cases q : g = f
    · rw [q]; exact (keys_putF f y fs).1
    · refine (keys_putF f y fs).2 g (wi g fun z => hg ?_)
      show (if g = f then some u else mA g) = none
      rw [if_neg q]; exact z
def XA (x C : Addr) (od : Option Addr) : Heap → Prop := fun h => ∃ vs sl, h.get? x = some ⟨.ref C, od, .fields vs, sl⟩
theorem XA.at {x C : Addr} {od : Option Addr} {h h' : Heap} (z : XA x C od h) (k : ∀ o, h.get? x = some o → h'.get? x = some o) : XA x C od h' := let ⟨vs, sl, e⟩ := z; ⟨vs, sl, k _ e⟩
theorem XA.ok {P : Program} {w : World} {H : Hp} {h : Heap} {x C : Addr} {od : Option Addr} (z : XA x C od h) : ObjOk P w H h x (.ext (XA x C od)) := by
  obtain ⟨vs, sl, e⟩ := id z
  exact ⟨z, ⟨_, e⟩, fun h1 h2 q k => q.at k⟩
theorem getx {b : Bool} {Q : Value → Shared → Prop} (I : Inv X pins σ H s) (e : H x = some (.ext (XA x C (some dx)))) (ed : H dx = some (.ext (XD dx fs))) (c : XCls X.K C) (n : NoAttr X.K C f) (l : fs.lookup f = some y)
    (h : ∀ u s', Inv X pins σ H s' → RelV y u → Q u s') : wpAny (model X.prog X.w) A (getAttr (.ref x) f b) Q E s := by
  obtain ⟨vs, sl, hx⟩ := (show ObjOk X.prog X.w H s.heap x (.ext (XA x C (some dx))) from I.hok _ _ e).1
  obtain ⟨mA, n1, r, wi⟩ := (show ObjOk X.prog X.w H s.heap dx (.ext (XD dx fs)) from I.hok _ _ ed).1
  obtain ⟨od, ho, hlk⟩ := lookIn_ns n1
  obtain ⟨u, hu, ru⟩ := RelO.some_of (v := y) (o := mA f) (by rw [← l]; exact r f)
  have J : PySem.W.InstAt s.heap x ⟨.ref C, some dx, .fields vs, sl⟩ C (some od) := ⟨hx, rfl, rfl, ho⟩
  have fin := h u _ (I.tok (s.toks + 1)) ru
  have KX := I.kIn
  clear h
  obtain ⟨cd, hc, hd'⟩ := PySem.W.any_some c.hd
  obtain ⟨cd', hc', hov⟩ := PySem.W.any_some c.ov
  rw [hc] at hc'
  cases hc'
  have hh := handed_of ru
  obtain ⟨hp, g, d, t, os⟩ := s
  have L0 := J.type (M := model X.prog X.w)
  have L1 := PySem.W.looks_findIn (M := model X.prog X.w) KX c.ga
  have L2 := PySem.W.looks_findIn (M := model X.prog X.w) KX c.gt
  have L3 := PySem.W.looks_findIn (M := model X.prog X.w) KX n
  have L4 := PySem.W.looks_own (M := model X.prog X.w) (name := f) (r := some u) KX J hc (by unfold PySem.W.ownOf; rw [if_pos hd']; show PySem.W.lookIn f od = _; rw [hlk, hu])
  have FB := PySem.F.excAttr_ValueError
  have f3 := FB.ga.bind (.ref x)
  have hx0 : (b && onTheHeap (Value.builtin "BaseException.__getattribute__")) = false := by cases b <;> rfl
  have hx2 : (Value.builtin "BaseException.__getattribute__" == Value.builtin "object.__getattribute__") = false := by decide +kernel
  have hx1 : (onTheHeap (Value.ref C) && Value.builtin "BaseException.__getattribute__" == Value.builtin "object.__getattribute__") = false := by rw [hx2]; rfl
  unfold getAttr getAttrBy
  refine wpAny_bind (wpAny_mkText (wpAny_holding (wpAny_bind (L0.at (wpAny_bind (L1.at ?_))))))
  dsimp only
  rw [if_neg (by rw [hx1]; decide)]
  unfold getAttrByItsOwn
  repeat (any_goals (first | assumption | with_reducible refine PySem.W.Looks.at (by assumption) ?_ | wp_step))
  have ne : cd.mro.isEmpty = false := by
    cases q : cd.mro with
    | nil => rw [q] at hov; cases hov
    | cons _ _ => rfl
  have sub : PySem.W.Looks (model X.prog X.w) hp (isInstance (.ref x) (.type "BaseException")) true :=
    L0.andThen (PySem.W.looks_mroIn KX (by unfold PySem.W.mroIn; rw [hc, Option.bind_some, if_neg (by rw [ne]; decide), overV_has "BaseException" (by decide) hov]))
  refine codeAny_call_builtin FB.ga.plain PySem.F.entry_bexc_ga (@PySem.W.check_slot (model X.prog X.w) _ _ ⟨hp, g, d, t + 1, os⟩ "BaseException.__getattribute__" "BaseException" "__getattribute__" (.ref x) [.str f t] [] _ (by decide +kernel) (by decide +kernel) sub (PySem.F.args_bexc_ga (.ref x) (.str f t)) ?_)
  unfold Builtin.«object.__getattribute__»
  repeat (any_goals (first | assumption | with_reducible refine PySem.W.Looks.at (by assumption) ?_ | wp_step))
  show wpAny _ _ (handedOut u) _ _ _
  rw [PySem.W.handedOut_of hh]
  exact wpAny_pure fin
end
abbrev TJ := St → Hp → (Hp → Prop) → Prop
def PJ (X : Cx) (es : List Expr) (n : Nat) (t : TJ) : Prop :=
  ∀ (pins : List (Addr × Obj)) (s : Shared) (σ : St) (H : Hp) (Q : Hp → Prop) (acc : Str) (R : Str → Shared → Prop), Inv X pins σ H s → acc.length + n ≤ sizeLine → t σ H Q →
    (∀ out H' s', Inv X pins σ H' s' → out.length ≤ sizeLine → Q H' → R out s') → Joins (model X.prog X.w) X.A X.xe (evalEach es X.env) acc R s
def tJ0 : TJ := fun _ H Q => Q H
def tJI (te : TE) (t : TJ) : TJ := fun σ H Q => te σ H fun v H1 => ∃ i, v = .int i ∧ i.natAbs.log2 < 1920 ∧ t σ H1 Q
def tJS (te : TE) (t : TJ) : TJ := fun σ H Q => te σ H fun v H1 => ∃ x, v = .str x ∧ x.length ≤ 1000 ∧ t σ H1 Q
def tJR (te : TE) (t : TJ) : TJ := fun σ H Q => te σ H fun v H1 => ∃ x, v = .str x ∧ x.length ≤ 1000 ∧ (∀ c ∈ x.cps.toList, c < 16 ^ 8) ∧ t σ H1 Q
def tJoined (t : TJ) : TE := fun σ H Q => t σ H fun H1 => ∀ y : Str, Q (.str y) H1
section
variable {X : Cx} {e : Expr} {es : List Expr} {n : Nat} {t : TJ} {te : TE} {pos : Pos}
theorem pj_nil : PJ X [] 0 tJ0 := fun pins s σ H Q acc R I hl q h => h acc H s I hl q
theorem pj_const {c : Str} {k : Nat} (h : PJ X es n t) : PJ X (.Constant (.str c) k pos :: es) (n + c.length) t := fun pins s σ H Q acc R I hl q hR => by
  show wpAny _ _ _ _ _ _
  refine Calls.Constant_str ⟨c, _, rfl, by rw [strLen_append]; omega, h pins _ σ H Q _ R (I.tok _) (by rw [strLen_append]; omega) q hR⟩
theorem pj_int (he : PE X e te) (h : PJ X es n t) : PJ X (.FormattedValue e (-1) none pos :: es) (n + 2000) (tJI te t) := fun pins s σ H Q acc R I hl q hR => by
  show wpAny _ _ _ _ _ _
  refine wpAny_FormattedValue_plain (thn (he pins s σ H _ I q) fun u s1 ⟨v, H1, I1, r, i, ev, hi, q1⟩ => ?_)
  subst ev
  obtain ⟨tk, rfl⟩ := (show ∃ tk, u = Value.int i tk from r)
  have hz := int_text_fits hi
  have hz2 : (Str.ofString (toString i)).length ≤ 2000 := by
    have e := int_text_length_le (k := 1920) (by decide) hi
    rw [PySem.ofString_length]; omega
  refine wpAny_formatField_int hi ⟨_, _, rfl, by rw [strLen_append]; omega, h pins _ σ H1 Q _ R (I1.tok _) (by rw [strLen_append]; omega) q1 hR⟩
theorem pe_joined {e2 : Expr} (h : PJ X (e :: e2 :: es) n t) (hn : n ≤ sizeLine) : PE X (.JoinedStr (e :: e2 :: es) pos) (tJoined t) := by
  intro pins s σ H Q I q
  refine wpAny_JoinedStr (h pins s σ H _ _ _ I (by show 0 + n ≤ _; omega) q fun out H' s' I' hl q' => ⟨hl, ?_⟩)
  exact ⟨.str out, H', I'.tok _, ⟨_, rfl⟩, q' out⟩
end
structure ClsB (K : PySem.W.Frag) (L : Addr) (m : Str) : Prop where
  rd : PySem.W.readsIn K L (.type "type") = true
  fd : PySem.W.findCls K (.ref L) (.type "type") m = some (.val (.builtin "ValueError.__init__"))
  ga : PySem.W.specialIn K (.ref L) "__getattribute__" = some (some (.builtin "type.__getattribute__"))
def tXInit (K : PySem.W.Frag) (t : TA) : TE := fun σ H Q => t σ H fun vs H1 => ∃ x C od v, vs = [.ref x, v] ∧ H1 x = some (.ext (XF x C od)) ∧ XCls K C ∧ Q .non H1
section
variable {X : Cx} {L : Addr} {x : Str} {p pos apos : Pos} {e : Expr} {es : List Expr} {t : TA}
theorem run_xinit {pins : List (Addr × Obj)} {σ : St} {H : Hp} {s : Shared} {a C : Addr} {od : Option Addr} {u : Value} {A : Around} {E : Value → Shared → Prop} {Q : Value → Shared → Prop} (I : Inv X pins σ H s) (ea : H a = some (.ext (XF a C od))) (c : XCls X.K C)
    (h : ∀ s', Inv X pins σ H s' → Q .none s') : wpAny (model X.prog X.w) A (call (.builtin "ValueError.__init__") [.ref a, u]) Q E s := by
  obtain ⟨vs, sl, hx, z1, z2⟩ := (show ObjOk X.prog X.w H s.heap a (.ext (XF a C od)) from I.hok _ _ ea).1
  obtain ⟨fI, hfI⟩ := c.ex
  obtain ⟨tl, N, nm, q, bs, sn, sub, ab, co, dd, k0, k1, k2, k3, k5, mN, hC, hN, hi, T⟩ := excI_obj I.kIn hfI
  have F := PySem.F.excBase_ValueError
  obtain ⟨v0, h0⟩ : ∃ v0, vs[0]? = some v0 := ⟨vs[0]'(by omega), Array.getElem?_eq_getElem (by omega)⟩
  obtain ⟨hh, g, d, tt, os⟩ := s
  refine wpAny_call (codeAny_call_builtin F.init.plain F.initEntry (wpAny_check_init_subT F T hC hx rfl ?_))
  show wpAny _ _ (newTuple [u] >>= fun tp => (do
    let old ← field (.ref a) 0
    setField (.ref a) 0 tp
    if let .ref _ := old then letGo [old] []) >>= fun _ => ret .none) _ _ _
  have hx1 : (hh.push { cls := .type "tuple", data := .seq [u].toArray }).get? a = some ⟨.ref C, od, .fields vs, sl⟩ := Heap.get?_push_of_some _ hx
  refine wpAny_bind (wpAny_newTuple (wpAny_bind (wpAny_bind (wpAny_field hx1 rfl h0 (wpAny_bind (wpAny_setField hx1 rfl (by omega) ?_))))))
  have x2 := Heap.get?_update_self (h := hh.push { cls := .type "tuple", data := .seq [u].toArray }) (Obj.mapFields (·.setIfInBounds 0 (.ref hh.objs.size))) hx1 rfl
  have fin : ∀ s', s' = (⟨(hh.push { cls := .type "tuple", data := .seq [u].toArray }).update a (Obj.mapFields (·.setIfInBounds 0 (.ref hh.objs.size))), g, d, tt, os⟩ : Shared) → Q .none s' := by
    rintro s' rfl
    refine h _ ?_
    have I1 : Inv X pins σ H ⟨hh.push { cls := .type "tuple", data := .seq [u].toArray }, g, d, tt, os⟩ := I.kept (t' := tt) fun b o q => Heap.get?_push_of_some _ q
    have := I1.write (x := a) (e := a) (o := .ext (XF a C od)) (h' := (hh.push { cls := .type "tuple", data := .seq [u].toArray }).update a (Obj.mapFields (·.setIfInBounds 0 (.ref hh.objs.size)))) (t' := tt) (by rw [ea]; exact True.intro) (.inl rfl)
      (fun b o hb q => (Heap.get?_update_other _ _ (Ne.symm hb)).trans q) ⟨_, x2⟩ (XF.ok ⟨vs.setIfInBounds 0 (.ref hh.objs.size), sl, x2, by simpa using z1, by rw [Array.getElem?_setIfInBounds_ne (by decide)]; exact z2⟩)
    rwa [upd_id ea] at this
  cases v0 with
  | ref b => exact wpAny_bind (wpAny_holding (wpAny_point (wpAny_pure (wpAny_pure (fin _ rfl)))))
  | _ => exact wpAny_pure (wpAny_pure (fin _ rfl))
theorem pe_xinit {pl : Sem Bool} {m : Str} (hg : Gl X x) (hm : X.mg x = some (.ref L)) (c : ClsB X.K L m) (ha : PA X (e :: es) t)
    (hdb : (x == ("__debug__" : Str)) = false := by decide) (hst : starEach (e :: es) X.env = (false, eval e X.env) :: starEach es X.env := by rfl) (hpl : (backTo pos (starEach es X.env)).any (·.1) = false := by rfl)
    (ht : eval (.Call (.Attribute (.Name x p) m apos) (e :: es) [] pos) X.env = (do
      let ov ← eval (.Name x p) X.env
      standAt apos.atName
      let (f, first) ← holding [ov] (getMethod ov m pl)
      callWith pos f first (backTo pos (starEach (e :: es) X.env)) (backToKw pos (keywordEach [] X.env))) := by rfl) :
    PE X (.Call (.Attribute (.Name x p) m apos) (e :: es) [] pos) (tXInit X.K t) := by
  intro pins s σ H Q I h
  refine PySem.W.methodCall_KW (pl := pl) (ld_glob I hg hm ?_ hdb) ht
  refine PySem.W.method_cls I.kIn c.ga (PySem.W.cls_value I.kIn c.rd c.fd rfl ?_)
  refine PyProof.Rows.callWith_builtin1 (thn (ha pos pins _ σ H _ (I.tok (s.toks + 1)) h) fun us s2 ⟨vs, H2, I2, r, a, C, od, v, ev, ea, cc, q⟩ => ?_) hst hpl
  subst ev
  obtain ⟨u1, u2, rfl, r1, r2⟩ := vals2 r
  obtain rfl : u1 = Value.ref a := r1
  exact run_xinit I2 ea cc fun s3 I3 => ⟨.non, H2, I3, rfl, q⟩
end
structure MkX (K : PySem.W.Frag) (C fI : Addr) : Prop where
  e : excInI K C fI = true
  fn : PySem.W.typeIn K (.ref fI) = some (.type "function")
  kp : PySem.W.keepIn K (.ref C) = true
def tMakeX (C : Addr) (sp : Sp) (t : TA) : TE := fun σ H Q => t σ H fun vs H1 => vs.length ≤ sizeLine ∧ ∀ x, H1 x = none → sp (.ref x :: vs) (upd H1 x (.ext (XF x C none))) (fun v H2 => v = .non ∧ Q (.ref x) H2) (fun _ _ _ => False)
def sFldX0 (K : PySem.W.Frag) (ta tv : TE) (f : Str) : TS := fun D σ H => tv σ H fun y H1 => ta σ H1 fun x H2 => ∃ a C, x = .ref a ∧ H2 a = some (.ext (XF a C none)) ∧ XCls K C ∧ NoAttr K C f ∧
  ∀ dx, H2 dx = none → dx ≠ a → D.nx σ (upd (upd H2 a (.ext (XF a C (some dx)))) dx (.ext (XD dx [(f, y)])))
def sFldX1 (K : PySem.W.Frag) (ta tv : TE) (f : Str) : TS := fun D σ H => tv σ H fun y H1 => ta σ H1 fun x H2 => ∃ a C dx fs, x = .ref a ∧ H2 a = some (.ext (XF a C (some dx))) ∧ H2 dx = some (.ext (XD dx fs)) ∧ XCls K C ∧ NoAttr K C f ∧ fs.length < 1000 ∧
  D.nx σ (upd H2 dx (.ext (XD dx (putF f y fs))))
def tFldX (K : PySem.W.Frag) (ta : TE) (f : Str) : TE := fun σ H Q => ta σ H fun x H1 => ∃ a C dx fs v, x = .ref a ∧ H1 a = some (.ext (XA a C (some dx))) ∧ H1 dx = some (.ext (XD dx fs)) ∧ XCls K C ∧ NoAttr K C f ∧ fs.lookup f = some v ∧ Q v H1
section
variable {X : Cx} {k : Nat} {f C : Addr} {fd : FuncData} {ps : List Str} {sp : Sp} {x g : Str} {p pos pos' apos : Pos} {e o value : Expr} {es : List Expr} {ta tv : TE} {t : TA}
theorem run_makeX {pins : List (Addr × Obj)} {σ : St} {H : Hp} {s : Shared} {Q : VK} {us : List Value} {vs : List V} (M : MkX X.K C f) (F : FnOk X.prog X.w X.K X.mg X.base (fun _ _ _ _ _ _ => False) k f fd ps sp) (hr : Room (k + 1) X.A) (hb : Binds X.K fd ps [])
    (I : Inv X pins σ H s) (r : Vals vs us) (hz : vs.length ≤ sizeLine) (h : ∀ x, H x = none → sp (.ref x :: vs) (upd H x (.ext (XF x C none))) (fun v H2 => v = .non ∧ Q (.ref x) H2) (fun _ _ _ => False)) :
    wpAny (model X.prog X.w) X.A (call (.ref C) us) (EP X pins σ Q) X.xe s := by
  obtain ⟨hh, g, d, tt, os⟩ := s
  refine wpAny_call (call_excI (fI := f) I.kIn M.e M.fn (by rw [← r.length]; exact hz) fun h' x hx Mx => ?_)
  obtain ⟨tp, ox, _, _⟩ := Mx.there
  have I2 := I.laid (a := x) (o := .ext (XF x C none)) (h' := h') (t' := tt) Mx.keeps hx (XF.ok ⟨_, _, ox, Nat.lt_of_lt_of_eq (show 1 < 6 by decide) rfl, rfl⟩)
  have hq := h x (I.hok.fresh hx)
  have r2 : Vals (V.ref x :: vs) (Value.ref x :: us) := .cons rfl r
  have hl : ((Value.ref x :: us) ++ []).length = ps.length := by
    rw [List.append_nil, ← r2.length]
    exact F.len _ _ _ _ hq
  have hb2 := hb ⟨h', g, d, tt, os⟩ (Value.ref x :: us) I2.kIn hl
  rw [List.append_nil] at hb2
  refine codeAny_mono (F.run _ X.stack _ _ ⟨Value.ref x :: us, []⟩ (Value.ref x :: us) _ _ _ (hr.make C us []) (I2.env0.make C us []) hb2 r2 hq) fun r s' hq' => ?_
  rcases r with e | (u | _ | _ | _) <;> first | exact False.elim hq' | skip
  obtain ⟨v, H', I3, rv, ev, q3⟩ := I2.after hq'
  subst ev
  exact ⟨rv, ⟨V.ref x, H', I3, rfl, q3⟩⟩
theorem pe_makeX (M : MkX X.K C f) (F : FnOk X.prog X.w X.K X.mg X.base (fun _ _ _ _ _ _ => False) k f fd ps sp) (hr : Room (k + 1) X.A) (hg : Gl X x) (hm : X.mg x = some (.ref C)) (hb : Binds X.K fd ps [])
    (ha : PA X (e :: es) t) (hdb : (x == ("__debug__" : Str)) = false := by decide) (he : starEach (e :: es) X.env = (false, eval e X.env) :: starEach es X.env := by rfl) (hpl : (backTo pos (starEach es X.env)).any (·.1) = false := by rfl) :
    PE X (.Call (.Name x p) (e :: es) [] pos) (tMakeX C sp t) := by
  intro pins s σ H Q I h
  refine wpAny_Call_Name_kw (ld_glob I hg hm ?_ hdb)
  exact PySem.W.callWith_K (h₀ := X.base) I.ok.mod.kin M.kp (thn (ha pos pins s σ H _ I h) fun us s1 ⟨vs, H1, I1, r, hz, q⟩ => ⟨I1.kIn, run_makeX M F hr hb I1 r hz q⟩) he hpl
theorem ps_fldx0 (ha : PE X o ta) (hv : PE X value tv) (hs : swapsWith value (some (.Attribute o g pos')) pos.line X.env = pure false) : PS X (.Assign [.Attribute o g pos'] value pos) (sFldX0 X.K ta tv g) := by
  intro pins s σ H D I h
  refine plainObj_wpAny_Assign_Attribute (thn (hv pins s σ H _ I h) fun u s1 ⟨y, H1, I1, ry, q⟩ => thn (ha pins s1 σ H1 _ I1 q) fun ov s2 ⟨x, H2, I2, rx, a, C, ex, ea, c, n, q2⟩ => ?_) hs
  subst ex
  obtain rfl : ov = Value.ref a := rx
  exact setx_new I2 ea c n ry fun dx s3 hd hne I3 => ⟨σ, _, I3, q2 dx hd hne⟩
theorem ps_fldx1 (ha : PE X o ta) (hv : PE X value tv) (hs : swapsWith value (some (.Attribute o g pos')) pos.line X.env = pure false) : PS X (.Assign [.Attribute o g pos'] value pos) (sFldX1 X.K ta tv g) := by
  intro pins s σ H D I h
  refine plainObj_wpAny_Assign_Attribute (thn (hv pins s σ H _ I h) fun u s1 ⟨y, H1, I1, ry, q⟩ => thn (ha pins s1 σ H1 _ I1 q) fun ov s2 ⟨x, H2, I2, rx, a, C, dx, fs, ex, ea, ed, c, n, hl, q2⟩ => ?_) hs
  subst ex
  obtain rfl : ov = Value.ref a := rx
  exact setx_more I2 ea ed c n hl ry fun s3 I3 => ⟨σ, _, I3, q2⟩
theorem pe_fldx (he : PE X e ta) (hb : attributeBase e g X.env (eval e X.env) = eval e X.env) : PE X (.Attribute e g pos) (tFldX X.K ta g) := by
  intro pins s σ H Q I h
  refine attr_of hb (thn (he pins s σ H _ I h) fun u s1 ⟨x, H1, I1, rx, a, C, dx, fs, v, ex, ea, ed, c, n, l, q⟩ => ?_)
  subst ex
  obtain rfl : u = Value.ref a := rx
  exact getx I1 ea ed c n l fun u s2 I2 ru => ⟨v, H1, I2, ru, q⟩
end
end L2
namespace L2
open PySem PySem.Spec PyProof.Rows PySem.Builtin PySem.Builtin.ObjectAttr
def FlA (x C : Addr) (od : Option Addr) (T : Addr) (fl : Value) (h : Heap) : Prop :=
  T ≠ x ∧ ∃ vs sl oT ts, h.get? x = some ⟨.ref C, od, .fields vs, sl⟩ ∧ vs[1]? = some (.ref T) ∧ h.get? T = some oT ∧ oT.data = .fields ts ∧ ts[3]? = some fl
theorem FlA.xa {x C T : Addr} {od : Option Addr} {fl : Value} {h : Heap} (z : FlA x C od T fl h) : XA x C od h := let ⟨_, vs, sl, _, _, e, _⟩ := z; ⟨vs, sl, e⟩
structure Kp (fs : List Addr) (x : Addr) (To : Option Addr) (h h' : Heap) : Prop where
  keep : ∀ b o, h.get? b = some o → b ∉ fs → b ≠ x → some b ≠ To → h'.get? b = some o
  slot : ∀ b o, h.get? b = some o → b ∈ fs → ∃ sl, h'.get? b = some { o with slots := sl }
  there : ∀ b o, h.get? b = some o → ∃ o', h'.get? b = some o'
section
variable {M : Model} {A : Around} {E : Value → Shared → Prop} {s : Shared}
theorem nofr {base h : Heap} {l : List Env} {b : Addr} {o : Obj} {vs : Array Value} (hl : h.FunFrames base l) (e : h.get? b = some o) (d : o.data = .fields vs) : b ∉ frs l := fun hm => by
  obtain ⟨_, o', e', nf⟩ := hl.mem hm
  rw [e] at e'
  cases e'
  exact nf vs d
theorem frame_eq {env env' : Env} {L : Addr} (hf : env.frame = some L) (hf' : env'.frame = some L) : PySem.frameOf env' = PySem.frameOf env := by
  unfold PySem.frameOf
  rw [hf', hf]
theorem entryX {base : Heap} {env env' : Env} {outer : List Env} {L x C : Addr} {od : Option Addr} {vs : Array Value} {sl : Array (Option Value)} {head : Value} {hn : Bool} {Q : Unit → Shared → Prop}
    (hfr : A.frames = some (env :: outer)) (hl : s.heap.FunFrames base (env :: outer)) (hf : env.frame = some L) (hf' : env'.frame = some L) (he : s.heap.get? x = some ⟨.ref C, od, .fields vs, sl⟩) (hz : 1 < vs.size)
    (h : ∀ h' T, Kp (frs (env :: outer)) x none s.heap h' → s.heap.objs.size ≤ T → FlA x C od T (rawInt L) h' → Q () { s with heap := h' }) :
    wpAny M A (do let a ← PySem.frameOf env'; let pl ← entryPlaceOf L hn; let b ← EntryCells.newEntry head a .none (rawInt L) .none pl; setField (.ref x) 1 b) Q E s := by
  have nx : x ∉ frs (env :: outer) := nofr hl he rfl
  rw [frame_eq hf hf']
  refine wpAny_bind (wpAny_frameOf_fun hfr hl hf fun h1 S => wpAny_bind (wpAny_entryPlaceOf fun pl hp => ?_))
  unfold EntryCells.newEntry newFields
  refine wpAny_bind (wpAny_newObj_type ?_ (hp.sizeOk5 _ _ _ _ _))
  have e1 : h1.get? x = some ⟨.ref C, od, .fields vs, sl⟩ := (S.2.1 x nx).trans he
  obtain ⟨ts, hts, h3⟩ : ∃ ts : Array Value, ([head, .ref L, .none, rawInt L, .none] ++ (if pl.isEmpty then List.replicate 6 Value.none else pl)).toArray = ts ∧ ts[3]? = some (rawInt L) := ⟨_, rfl, by simp⟩
  rw [hts]
  have e2 := Heap.get?_push_of_some (h := h1) { cls := .type "traceback", dict := none, data := .fields ts } e1
  have ne : h1.objs.size ≠ x := Nat.ne_of_gt (Heap.lt_size e1)
  have sz : h1.objs.size = s.heap.objs.size := S.1
  refine wpAny_setField e2 rfl hz (h _ h1.objs.size ⟨fun b o q n1 n2 _ => ?_, fun b o q n1 => ?_, fun b o q => ?_⟩ (Nat.le_of_eq sz.symm) ⟨ne, vs.setIfInBounds 1 (.ref h1.objs.size), sl, { cls := .type "traceback", dict := none, data := .fields ts }, ts, Heap.get?_update_self _ e2 rfl, by simp [hz], ?_, rfl, h3⟩)
  · rw [Heap.get?_update_other _ _ (Ne.symm n2)]
    exact Heap.get?_push_of_some _ ((S.2.1 b n1).trans q)
  · obtain ⟨sl', e3⟩ := S.2.2 b o q
    have nb : x ≠ b := fun z => nx (by rw [z]; exact n1)
    exact ⟨sl', (Heap.get?_update_other _ _ nb).trans (Heap.get?_push_of_some _ e3)⟩
  · by_cases hb : b = x
    · rw [hb]; exact ⟨_, Heap.get?_update_self _ e2 rfl⟩
    · obtain ⟨sl', e3⟩ := S.2.2 b o q
      exact ⟨_, by rw [Heap.get?_update_other _ _ (Ne.symm hb)]; exact Heap.get?_push_of_some _ e3⟩
  · exact (Heap.get?_update_other _ _ (Ne.symm ne)).trans (Heap.get?_push_size h1 rfl)
theorem note_first {base : Heap} {env env' : Env} {outer : List Env} {L x C : Addr} {od : Option Addr} {vs : Array Value} {sl : Array (Option Value)} {Q : Unit → Shared → Prop}
    (hfr : A.frames = some (env :: outer)) (hl : s.heap.FunFrames base (env :: outer)) (hf : env.frame = some L) (hf' : env'.frame = some L) (he : s.heap.get? x = some ⟨.ref C, od, .fields vs, sl⟩) (h1 : vs[1]? = some .none)
    (h : ∀ h' T, Kp (frs (env :: outer)) x none s.heap h' → s.heap.objs.size ≤ T → FlA x C od T (rawInt L) h' → Q () { s with heap := h' }) :
    wpAny M A (noteFrame (.ref x) env') Q E s := by
  unfold noteFrame
  simp only [hf']
  refine wpAny_bind (wpAny_field he rfl h1 ?_)
  rw [if_neg (by decide)]
  exact entryX hfr hl hf hf' he (Array.getElem?_eq_some_iff.mp h1).1 h
theorem note_next {base : Heap} {env env' : Env} {outer : List Env} {L x C T : Addr} {od : Option Addr} {fl : Value} {Q : Unit → Shared → Prop}
    (hfr : A.frames = some (env :: outer)) (hl : s.heap.FunFrames base (env :: outer)) (hf : env.frame = some L) (hf' : env'.frame = some L) (z : FlA x C od T fl s.heap) (hne : ¬ (fl == rawInt L) = true)
    (h : ∀ h' T', Kp (frs (env :: outer)) x (some T) s.heap h' → s.heap.objs.size ≤ T' → FlA x C od T' (rawInt L) h' → Q () { s with heap := h' }) :
    wpAny M A (noteFrame (.ref x) env') Q E s := by
  obtain ⟨ne, vs, sl, oT, ts, he, h1, hT, hd, h3⟩ := z
  unfold noteFrame
  simp only [hf']
  refine wpAny_bind (wpAny_field he rfl h1 ?_)
  rw [if_pos (show (Value.ref T != Value.none) = true from by simp)]
  refine wpAny_bind (wpAny_field hT hd h3 ?_)
  rw [if_neg hne]
  refine wpAny_bind (wpAny_setField hT hd (Array.getElem?_eq_some_iff.mp h3).1 ?_)
  have nT : T ∉ frs (env :: outer) := nofr hl hT hd
  have oth : ∀ b, b ≠ T → (s.heap.update T (Obj.mapFields (·.setIfInBounds 3 Value.none))).get? b = s.heap.get? b := fun b hb => Heap.get?_update_other _ _ (Ne.symm hb)
  have tT : ∃ o', (s.heap.update T (Obj.mapFields (·.setIfInBounds 3 Value.none))).get? T = some o' := ⟨_, Heap.get?_update_self _ hT (Obj.isFreed_of_fields (Obj.data_mapFields hd _))⟩
  have hl2 : (s.heap.update T (Obj.mapFields (·.setIfInBounds 3 Value.none))).FunFrames base (env :: outer) := hl.of_keeps fun b o e nf => ⟨o, (oth b fun q => by rw [q, hT] at e; cases e; exact nf ts hd).trans e, rfl⟩
  refine entryX (s := { s with heap := s.heap.update T (Obj.mapFields (·.setIfInBounds 3 Value.none)) }) hfr hl2 hf hf' ((oth x (Ne.symm ne)).trans he) (Array.getElem?_eq_some_iff.mp h1).1 fun h' T' k w f => h h' T' ⟨fun b o q n1 n2 n3 => ?_, fun b o q n1 => ?_, fun b o q => ?_⟩ ?_ f
  · exact k.keep b o ((oth b fun y => n3 (by rw [y])).trans q) n1 n2 (fun y => by cases y)
  · exact k.slot b o ((oth b fun y => nT (y ▸ n1)).trans q) n1
  · by_cases hb : b = T
    · subst hb
      obtain ⟨o', e'⟩ := tT
      exact k.there _ _ e'
    · exact k.there b o ((oth b hb).trans q)
  · exact Nat.le_trans (Nat.le_of_eq (Heap.size_update _ _ _).symm) w
theorem flight {x C T : Addr} {od : Option Addr} {fl : Value} {fs : List Addr} {Q : Unit → Shared → Prop} (o : Option Addr) (z : FlA x C od T fl s.heap) (nT : T ∉ fs)
    (h : ∀ h', Kp fs x (some T) s.heap h' → FlA x C od T (o.elim .none fun f => rawInt f) h' → Q () { s with heap := h' }) : wpAny M A (setFlight (.ref x) o) Q E s := by
  obtain ⟨ne, vs, sl, oT, ts, he, h1, hT, hd, h3⟩ := z
  have z3 : 3 < ts.size := (Array.getElem?_eq_some_iff.mp h3).1
  have oth : ∀ b, b ≠ T → (s.heap.update T (Obj.mapFields (·.setIfInBounds 3 (o.elim Value.none fun f => rawInt f)))).get? b = s.heap.get? b := fun b hb => Heap.get?_update_other _ _ (Ne.symm hb)
  have tT := Heap.get?_update_self (Obj.mapFields (·.setIfInBounds 3 (o.elim Value.none fun f => rawInt f))) hT (Obj.isFreed_of_fields (Obj.data_mapFields hd _))
  unfold setFlight
  refine wpAny_bind (wpAny_field he rfl h1 ?_)
  rw [if_pos (show (Value.ref T != Value.none) = true from by simp)]
  refine wpAny_setField hT hd z3 (h _ ⟨fun b o q _ _ n3 => (oth b fun y => n3 (by rw [y])).trans q, fun b o q n1 => ⟨o.slots, (oth b fun y => nT (y ▸ n1)).trans q⟩, fun b o q => ?_⟩
    ⟨ne, vs, sl, _, _, (oth x (Ne.symm ne)).trans he, h1, tT, Obj.data_mapFields hd _, by simp [z3]⟩)
  by_cases hb : b = T
  · subst hb; exact ⟨_, tT⟩
  · exact ⟨o, (oth b hb).trans q⟩
end
section
variable {P : Program} {w : World} {H : Hp} {h h' : Heap} {fs : List Addr} {x C T : Addr} {od : Option Addr} {fl : Value} {To : Option Addr} {o : HO}
theorem Kp.hok (k : Kp fs x To h h') (ok : HOk P w H h) (hfs : ∀ b ∈ fs, H b = none) (hT : ∀ t, To = some t → H t = none) (mu : Mut (H x)) (new : XA x C od h') : HOk P w (upd H x (.ext (XA x C od))) h' := fun b u q => by
  have nown : ∀ c y, H c = some (.own y) → c ≠ x := fun c y r z => by subst z; rw [r] at mu; exact mu
  have ntup : ∀ c xs, H c = some (.tup xs) → c ≠ x := fun c xs r z => by subst z; rw [r] at mu; exact mu
  have kk : ∀ c v, c ≠ x → H c ≠ none → h.get? c = some v → h'.get? c = some v := fun c v n1 n2 r => k.keep c v r (fun z => n2 (hfs c z)) n1 fun z => n2 (hT c z.symm)
  by_cases hb : b = x
  · subst hb; rw [upd_same] at q; cases q; exact new.ok
  · rw [upd_ne hb] at q
    refine (ok b u q).stay (fun c v hc r => ?_) (fun c r => by rw [upd_ne (nown c b r)]; exact r) fun c xs r => by rw [upd_ne (ntup c xs r)]; exact r
    rcases hc with rfl | hc
    · exact kk c v hb (by rw [q]; exact fun z => by cases z) r
    · exact kk c v (nown c b hc) (by rw [hc]; exact fun z => by cases z) r
theorem Kp.un (k : Kp fs x To h h') (hT : ∀ t, To = some t → H t = none) (mu : Mut (H x)) : Un fs To.toList H (upd H x o) h h' := by
  have hx : ∀ b, H b = none → b ≠ x := fun b n z => by subst z; rw [n] at mu; exact mu
  have hm : ∀ b u, H b = some u → ¬ Mut (some u) → b ≠ x := fun b u q nm z => by subst z; rw [q] at mu; exact nm mu
  refine ⟨fun b u q n n1 n2 => k.keep b u q n1 (hx b n) fun z => n2 (by rw [← z]; simp), fun b u q n n1 n2 => k.slot b u q n1, fun b u q n _ => by rw [upd_ne (hx b n)]; exact n, fun b u q _ => k.there b u q,
    fun b xs q => by rw [upd_ne (hm b _ q fun z => z)]; exact q, fun b u xs q => by rw [upd_ne (hm b _ q fun z => z)]; exact q, fun b ps q => ⟨#[], by rw [upd_ne (hm b _ q fun z => z), q]; simp⟩⟩
end
def CX1 (P : Program) (w : World) : CXT := fun outer H s E e s' =>
  ∃ x C od H' T, e = .ref x ∧ s'.os = s.os ∧ AllBare s'.gens ∧ Un (frs outer) [] H H' s.heap s'.heap ∧ HOk P w H' s'.heap ∧ H' x = some (.ext (XA x C od)) ∧ s.heap.objs.size ≤ T ∧ H' T = none ∧ FlA x C od T .none s'.heap ∧ E (.ref C) od H'
def Throws (X : Cx) (E : St → XK) : Prop := ∀ (pins : List (Addr × Obj)) (σ : St) (H : Hp) (s : Shared) (x C : Addr) (od : Option Addr), Inv X pins σ H s → H x = some (.ext (XF x C od)) → E σ (.ref C) od (upd H x (.ext (XA x C od))) → X.xe (.ref x) s
def PassesX (CX : CXT) (X : Cx) (E : St → XK) : Prop := ∀ (pins : List (Addr × Obj)) (σ : St) (H : Hp) (s : Shared) (e : Value) (s' : Shared), Inv X pins σ H s → CX X.stack H s (E σ) e s' → X.xe e s'
structure Fr1 (X : Cx) : Prop where
  st : X.stack = X.env :: X.outer
  fr : X.env.frame = some X.env.locals
def NewT (X : Cx) (pins : List (Addr × Obj)) (T : Addr) : Prop := (T ∈ X.ex ∨ X.s₀.heap.objs.size ≤ T) ∧ T ≠ X.env.locals ∧ (∀ x c, X.env.cells.lookup x = some c → c ≠ T) ∧ ∀ p ∈ X.pn ++ pins, p.1 ≠ T
def xeFl (X : Cx) (pins : List (Addr × Obj)) (E : St → XK) (fl : Value) (e : Value) (s' : Shared) : Prop :=
  ∃ σ' H' x C od T, e = .ref x ∧ Inv X pins σ' H' s' ∧ H' x = some (.ext (XA x C od)) ∧ H' T = none ∧ NewT X pins T ∧ FlA x C od T fl s'.heap ∧ E σ' (.ref C) od H'
def xeR (X : Cx) (pins : List (Addr × Obj)) (E : St → XK) (e : Value) (s' : Shared) : Prop :=
  ∃ σ' H' x C od, e = .ref x ∧ Inv X pins σ' H' s' ∧ H' x = some (.ext (XF x C od)) ∧ E σ' (.ref C) od (upd H' x (.ext (XA x C od)))
def xeT (X : Cx) (pins : List (Addr × Obj)) (E : St → XK) (e : Value) (s' : Shared) : Prop := xeR X pins E e s' ∨ ∃ fl, xeFl X pins E fl e s'
def xeA (X : Cx) (E : St → XK) (e : Value) (s' : Shared) : Prop := ∃ pins, xeT X pins E e s'
section
variable {X : Cx} {pins : List (Addr × Obj)} {σ : St} {H : Hp} {s : Shared} {T x C : Addr} {od : Option Addr} {E : St → XK} {M : Model} {A : Around} {E' : Value → Shared → Prop} {Q : Unit → Shared → Prop} {e fl : Value} {h' : Heap}
theorem newT (I : Inv X pins σ H s) (hT : s.heap.objs.size ≤ T) : NewT X pins T := by
  have lt : ∀ {b : Addr} {o : Obj}, s.heap.get? b = some o → b ≠ T := fun q z => by
    subst z
    exact absurd (Nat.lt_of_lt_of_le (Heap.lt_size q) hT) (Nat.lt_irrefl _)
  refine ⟨.inr (Nat.le_trans I.sz hT), fun z => ?_, fun x c e => ?_, fun p hp => lt (I.pin p hp).1⟩
  · obtain ⟨m, ⟨o, es, ep, ho, _⟩, _⟩ := I.loc
    exact lt ho z.symm
  · obtain ⟨v, o, ho, _⟩ := I.cell x c e
    exact lt ho
theorem kp_invS (I : Inv X pins σ H s) (k : Kp (frs X.stack) x (some T) s.heap h') (ex : H x = some (.ext (XA x C od))) (eT : H T = none) (nT : NewT X pins T) (xa : XA x C od h') : Inv X pins σ H { s with heap := h' } := by
  have mu : Mut (H x) := by rw [ex]; exact True.intro
  have z : ∀ t, some T = some t → H t = none := fun t z => by cases z; exact eT
  have u1 := k.un (H := H) (o := .ext (XA x C od)) z mu
  have k1 := k.hok I.hok I.stkFree z mu xa
  rw [upd_id ex] at u1 k1
  exact I.call' (s' := { s with heap := h' }) (ch := [T]) rfl u1 k1 I.bare fun b hb => by
    obtain rfl : b = T := by simpa using hb
    exact nT
theorem kp_inv (F : Fr1 X) (I : Inv X pins σ H s) (k : Kp (frs (X.env :: X.outer)) x (some T) s.heap h') (ex : H x = some (.ext (XA x C od))) (eT : H T = none) (nT : NewT X pins T) (xa : XA x C od h') : Inv X pins σ H { s with heap := h' } :=
  kp_invS I (by rw [F.st]; exact k) ex eT nT xa
theorem xeFl.note (F : Fr1 X) (q : xeFl X pins E fl e s) (hne : ¬ (fl == rawInt X.env.locals) = true) (h : ∀ s', xeFl X pins E (rawInt X.env.locals) e s' → Q () s') : wpAny M X.A (noteFrame e X.env) Q E' s := by
  obtain ⟨σ, H, x, C, od, T, rfl, I, ex, eT, nT, f, w⟩ := q
  have fs : s.heap.FunFrames X.base (X.env :: X.outer) := by rw [← F.st]; exact I.stack
  exact note_next (by rw [← F.st]; exact I.ok.frames) fs F.fr F.fr f hne fun h' T' k w' f' => h _ ⟨σ, H, x, C, od, T', rfl, kp_inv F I k ex eT nT f'.xa, ex, I.hok.fresh w', newT I w', f', w⟩
theorem xeFl.noted (F : Fr1 X) (q : xeFl X pins E (rawInt X.env.locals) e s) (h : Q () s) : wpAny M X.A (noteFrame e X.env) Q E' s := by
  obtain ⟨σ, H, x, C, od, T, rfl, I, ex, eT, nT, ⟨ne, vs, sl, oT, ts, he, h1, hT, hd, h3⟩, w⟩ := q
  unfold noteFrame
  simp only [F.fr]
  refine wpAny_bind (wpAny_field he rfl h1 ?_)
  rw [if_pos (show (Value.ref T != Value.none) = true from by simp)]
  refine wpAny_bind (wpAny_field hT hd h3 ?_)
  rw [if_pos (show (rawInt X.env.locals == rawInt X.env.locals) = true from by simp)]
  exact wpAny_pure h
theorem xeR.note (F : Fr1 X) (q : xeR X pins E e s) (h : ∀ s', xeFl X pins E (rawInt X.env.locals) e s' → Q () s') : wpAny M X.A (noteFrame e X.env) Q E' s := by
  obtain ⟨σ, H, x, C, od, rfl, I, ex, w⟩ := q
  have fs : s.heap.FunFrames X.base (X.env :: X.outer) := by rw [← F.st]; exact I.stack
  obtain ⟨vs, sl, hx, z1, z2⟩ := (show ObjOk X.prog X.w H s.heap x (.ext (XF x C od)) from I.hok _ _ ex).1
  have mu : Mut (H x) := by rw [ex]; exact True.intro
  refine note_first (by rw [← F.st]; exact I.ok.frames) fs F.fr F.fr hx z2 fun h' T k w' f => h _ ?_
  have z : ∀ t, none = some t → H t = none := fun t z => by cases z
  have u1 := k.un (H := H) (o := .ext (XA x C od)) z mu
  have k1 := k.hok I.hok (by rw [← F.st]; exact I.stkFree) z mu f.xa
  rw [← F.st] at u1
  have I2 := I.call' (s' := { s with heap := h' }) (ch := []) rfl u1 k1 I.bare fun b hb => absurd hb (by simp)
  exact ⟨σ, _, x, C, od, T, rfl, I2, upd_same, by rw [upd_ne f.1]; exact I.hok.fresh w', newT I w', f, w⟩
theorem xeT.note (F : Fr1 X) (q : xeT X pins E e s) (h : ∀ s', xeFl X pins E (rawInt X.env.locals) e s' → Q () s') : wpAny M X.A (noteFrame e X.env) Q E' s := by
  rcases q with q | ⟨fl, q⟩
  · exact q.note F h
  · by_cases c : (fl == rawInt X.env.locals) = true
    · rw [beq_iff_eq] at c
      subst c
      exact q.noted F (h _ q)
    · exact q.note F c h
theorem xeFl.flight (F : Fr1 X) (o : Option Addr) (q : xeFl X pins E fl e s) (h : ∀ s', xeFl X pins E (o.elim .none fun f => rawInt f) e s' → Q () s') : wpAny M A (setFlight e o) Q E' s := by
  obtain ⟨σ, H, x, C, od, T, rfl, I, ex, eT, nT, f, w⟩ := q
  have fs : s.heap.FunFrames X.base (X.env :: X.outer) := by rw [← F.st]; exact I.stack
  have nf : T ∉ frs (X.env :: X.outer) := by
    obtain ⟨_, _, _, oT, ts, _, _, e, d, _⟩ := id f
    exact nofr fs e d
  exact L2.flight o f nf fun h' k f' => h _ ⟨σ, H, x, C, od, T, rfl, kp_inv F I k ex eT nT f'.xa, ex, eT, nT, f', w⟩
theorem xeT.leave (F : Fr1 X) (q : xeT X pins E e s) (h : ∀ s', xeFl X pins E .none e s' → Q () s') : wpAny M X.A (leaving X.env e) Q E' s := by
  unfold leaving
  exact wpAny_bind (q.note F fun s' q' => q'.flight F none h)
theorem passesOwn_T (F : Fr1 X) : PassesOwn M X.A X.env (xeT X pins E) := fun e s' q => by
  refine q.note F fun s2 q2 => ?_
  show wpAny _ _ _ _ _ _
  obtain ⟨σ, H, x, C, od, T, rfl, I, ex, eT, nT, ⟨ne, vs, sl, oT, ts, he, h1, hT, hd, h3⟩, w⟩ := id q2
  refine wpAny_bind (wpAny_field he rfl h1 ?_)
  rw [if_neg (show ¬ (Value.ref T == Value.none) = true from by simp)]
  rw [F.fr]
  exact q2.flight F _ fun s3 q3 => .inr ⟨_, q3⟩
theorem passesOwn_A (F : Fr1 X) : PassesOwn M X.A X.env (xeA X E) := fun e s' ⟨pins, q⟩ => by
  have z := passesOwn_T (M := M) F e s' q
  refine wpAny_mono z (fun _ s2 q2 => ?_) fun e2 s2 q2 => ?_
  all_goals exact wpAny_mono q2 (fun _ s3 q3 => ⟨pins, q3⟩) fun e3 s3 q3 => ⟨pins, q3⟩
theorem throwsA : Throws (X.wish (xeA X E)) E := fun pins σ H s x C od I ex q => ⟨pins, .inl ⟨σ, H, x, C, od, rfl, I.unwish, ex, q⟩⟩
theorem xe_call {E0 : XK} {s' : Shared} (I : Inv X pins σ H s) (hq : CX1 X.prog X.w X.stack H s E0 e s') (h : ∀ C od H', E0 C od H' → E σ C od H') : xeT X pins E e s' := by
  obtain ⟨x, C, od, H2, T, rfl, os, bare, un, hok, ex, hT, eT, fl, q⟩ := hq
  exact .inr ⟨_, σ, H2, x, C, od, T, rfl, I.call' os un hok bare (fun b z => absurd z (by simp)), ex, eT, newT I hT, fl, h _ _ _ q⟩
end
theorem passes1 {X : Cx} {E : XK} : Passes (CX1 X.prog X.w) (X.wish (xeA X fun _ => E)) E := fun pins σ H s e s' I hq => ⟨pins, xe_call I.unwish hq fun _ _ _ z => z⟩
theorem throws1 {X : Cx} {E : XK} : Throws (X.wish (xeA X fun _ => E)) (fun _ => E) := throwsA
section
variable {P : Program} {w : World} {K : PySem.W.Frag} {mg : Str → Option Value} {base : Heap} {N : List Str} {qual : Str} {scope : Scope} {f : Addr} {cd : Value} {A : Around} {outer : List Env} {s : Shared} {H : Hp} {E : XK}
theorem leaves1 {e : Value} {s' : Shared} (q : xeA (cxOf (CX1 P w) P w K mg base N qual scope f cd A outer s H E) (fun _ => E) e s') : (cxOf (CX1 P w) P w K mg base N qual scope f cd A outer s H E).xe e s' := by
  obtain ⟨pins, q⟩ := q
  refine q.leave ⟨rfl, rfl⟩ fun s2 q2 => ?_
  obtain ⟨σ, H2, x, C, od, T, rfl, I, ex, eT, nT, fl, q⟩ := q2
  refine ⟨x, C, od, H2, T, rfl, I.os, I.bare, I.base, I.hok, ex, ?_, eT, fl, q⟩
  rcases nT.1 with z | z
  · exact absurd z (by show T ∉ ([] : List Addr); simp)
  · exact z
end
def tCallX (sp : Sp) (dvs : List V) (E : St → XK) (t : TA) : TE := fun σ H Q => t σ H fun vs H1 => sp (vs ++ dvs) H1 Q (E σ)
def tMethX (C : Addr) (m : Str) (sp : Sp) (dvs : List V) (E : St → XK) (ta : TE) (t : TA) : TE := fun σ H Q => ta σ H fun x H1 => ∃ a dx fs, x = .ref a ∧ H1 a = some (.ins C dx fs) ∧ fs.lookup m = none ∧
  t σ H1 fun vs H2 => sp (x :: (vs ++ dvs)) H2 Q (E σ)
section
variable {X : Cx} {CX : CXT} {k : Nat} {f C : Addr} {fd : FuncData} {ps : List Str} {sp : Sp} {dvs : List V} {ds : List Value} {E : St → XK} {x m : Str} {p pos apos : Pos} {e o : Expr} {es : List Expr} {ta : TE} {t : TA}
theorem run_fnX {pins : List (Addr × Obj)} {σ : St} {H : Hp} {s : Shared} {Q : VK} {us : List Value} {vs : List V} (F : FnOk X.prog X.w X.K X.mg X.base CX k f fd ps sp) (hr : Room k X.A) (hb : Binds X.K fd ps ds) (hd : Vals dvs ds) (hx : PassesX CX X E)
    (I : Inv X pins σ H s) (r : Vals vs us) (h : sp (vs ++ dvs) H Q (E σ)) : wpAny (model X.prog X.w) X.A (call (.ref f) us) (EP X pins σ Q) X.xe s := by
  have r2 : Vals (vs ++ dvs) (us ++ ds) := r.append hd
  have hl : (us ++ ds).length = ps.length := by rw [← r2.length]; exact F.len _ _ _ _ h
  refine wpAny_call (codeAny_mono (F.run X.A X.stack s H ⟨us, []⟩ (us ++ ds) (vs ++ dvs) Q (E σ) hr I.env0 (hb s us I.kIn hl) r2 h) fun r s' hq => ?_)
  rcases r with e | (u | _ | _ | _)
  · exact hx pins σ H s e s' I hq
  all_goals first | exact I.after hq | exact False.elim hq
theorem pe_callX (F : FnOk X.prog X.w X.K X.mg X.base CX k f fd ps sp) (hr : Room k X.A) (hg : Gl X x) (hm : X.mg x = some (.ref f)) (hk : PySem.W.keepIn X.K (.ref f) = true) (hb : Binds X.K fd ps ds) (hd : Vals dvs ds) (hx : PassesX CX X E)
    (ha : PA X (e :: es) t) (hdb : (x == ("__debug__" : Str)) = false := by decide) (he : starEach (e :: es) X.env = (false, eval e X.env) :: starEach es X.env := by rfl) (hpl : (backTo pos (starEach es X.env)).any (·.1) = false := by rfl) :
    PE X (.Call (.Name x p) (e :: es) [] pos) (tCallX sp dvs E t) := by
  intro pins s σ H Q I h
  refine wpAny_Call_Name_kw (ld_glob I hg hm ?_ hdb)
  exact PySem.W.callWith_K (h₀ := X.base) I.ok.mod.kin hk (thn (ha pos pins s σ H _ I h) fun us s1 ⟨vs, H1, I1, r, q⟩ => ⟨I1.kIn, run_fnX F hr hb hd hx I1 r q⟩) he hpl
end
abbrev Cx.tr (X : Cx) (pn : List (Addr × Obj)) (E : Value → Shared → Prop) : Cx := { X with pn := X.pn ++ pn, xe := E }
abbrev Cx.hn (X : Cx) (e : Value) : Cx := { X with A := X.A.mark (some e), calm := false, xe := fun _ _ => False }
section
variable {X : Cx} {pins pins' : List (Addr × Obj)} {σ : St} {H : Hp} {s : Shared} {E : Value → Shared → Prop} {e : Value}
theorem Cx.Ok.tr (ok : X.Ok) (pn : List (Addr × Obj)) (E : Value → Shared → Prop) : (X.tr pn E).Ok :=
  ⟨ok.mod, ok.kind, ok.glob, ok.blt, ok.above, ok.inj, ok.has, ok.cab, ok.hd, ok.frames, ok.stk, ok.exf, ok.bs, ok.bsz, ok.noex, ok.exfs, ok.funs, ok.frf⟩
theorem Cx.Ok.untr {pn : List (Addr × Obj)} (ok : (X.tr pn E).Ok) : X.Ok :=
  ⟨ok.mod, ok.kind, ok.glob, ok.blt, ok.above, ok.inj, ok.has, ok.cab, ok.hd, ok.frames, ok.stk, ok.exf, ok.bs, ok.bsz, ok.noex, ok.exfs, ok.funs, ok.frf⟩
theorem Cx.Ok.hn (ok : X.Ok) (e : Value) : (X.hn e).Ok :=
  ⟨ok.mod, ok.kind, ok.glob, ok.blt, ok.above, ok.inj, ok.has, ok.cab, (fun z => Bool.noConfusion z), ok.frames, ok.stk, ok.exf, ok.bs, ok.bsz, ok.noex, ok.exfs, ok.funs, ok.frf⟩
theorem Inv.tr (I : Inv X pins σ H s) (E : Value → Shared → Prop) : Inv (X.tr pins E) [] σ H s := ⟨I.ok.tr pins E, I.os, I.bare, I.base, I.loc, I.cell, I.free, I.freeC, fun p hp => I.pin p (by simpa using hp), I.hok, I.len⟩
theorem Inv.untr (I : Inv (X.tr pins E) pins' σ H s) : Inv X pins σ H s := ⟨I.ok.untr, I.os, I.bare, I.base, I.loc, I.cell, I.free, I.freeC, fun p hp => I.pin p (List.mem_append_left _ hp), I.hok, I.len⟩
theorem Inv.hn (I : Inv X pins σ H s) (e : Value) : Inv (X.hn e) pins σ H s := ⟨I.ok.hn e, I.os, I.bare, I.base, I.loc, I.cell, I.free, I.freeC, I.pin, I.hok, I.len⟩
theorem Inv.unhn (ok : X.Ok) (I : Inv (X.hn e) pins σ H s) : Inv X pins σ H s := ⟨ok, I.os, I.bare, I.base, I.loc, I.cell, I.free, I.freeC, I.pin, I.hok, I.len⟩
theorem SP.untr {D : Ends} {f : Flow} {s' : Shared} (h : SP (X.tr pins E) pins' D f s') : SP X pins D f s' := by
  cases f with
  | next => obtain ⟨σ', H', I, q⟩ := h; exact ⟨σ', H', I.untr, q⟩
  | brk => obtain ⟨σ', H', I, q⟩ := h; exact ⟨σ', H', I.untr, q⟩
  | cont => obtain ⟨σ', H', I, q⟩ := h; exact ⟨σ', H', I.untr, q⟩
  | ret u => obtain ⟨v, σ', H', I, r, q⟩ := h; exact ⟨v, σ', H', I.untr, r, q⟩
end
theorem passesT {X : Cx} {pins : List (Addr × Obj)} {E : St → XK} : PassesX (CX1 X.prog X.w) (X.tr pins (xeT X pins E)) E := by
  intro pins' σ H s e s' I hq
  obtain ⟨x, C, od, H2, T, rfl, os, bare, un, hok, ex, hT, eT, fl, q⟩ := hq
  have I2 := I.call' os un hok bare (fun b z => absurd z (by simp))
  exact .inr ⟨_, σ, H2, x, C, od, T, rfl, I2.untr, ex, eT, newT I.untr hT, fl, q⟩
theorem goes_name {X : Cx} {pins : List (Addr × Obj)} {σ : St} {H : Hp} {s : Shared} {i : Nat} {n : Str} {pos : Pos} {A : Around} {E : Value → Shared → Prop} {Q : Unit → Shared → Prop} (I : Inv X pins σ H s) (hN : X.N.Nodup) (hi : X.N[i]? = some n)
    (hl : X.env.scope.names.lookup n = some .local) (h : ∀ s', Inv X pins (σ.set i none) H s' → Q () s') : wpAny (model X.prog X.w) A (do bindName X.env n .none; unbindBehindTheSuite X.env n pos) Q E s := by
  have hiσ : i < σ.length := by rw [I.len]; exact (List.getElem?_eq_some_iff.mp hi).1
  refine wpAny_bind (wpAny_bindName (store_ok I hN hi (.inl hl) (v := .non) (u := .none) rfl (fun s1 I1 => ?_) (.inr hl)))
  obtain ⟨m, hn, hlk⟩ := I1.loc
  have hk : X.env.kindOf n = some .local := hl
  obtain ⟨u, ru, lk⟩ := hlk i n .non hi (List.getElem?_set_self hiσ) (.inl hl)
  have hmn : (m n).isSome = true := by
    rcases lk with ⟨_, e⟩ | ⟨k, _⟩
    · rw [e]; rfl
    · rcases k with k | k <;> (rw [hk] at k; cases k)
  have hp : (X.env.scope.kind == .class || (X.env.scope.kind == .module && X.env.locals != X.env.globals)) = false := by rw [I.ok.kind]; rfl
  unfold unbindBehindTheSuite
  refine wpAny_onRaise ?_
  unfold unbindName
  refine wpAny_bind (wpAny_point (wpAny_bind ?_))
  unfold deleteName
  simp only [hk, hp]
  rw [if_neg (by decide)]
  refine wpAny_bind (wpAny_nsDel_keeps hn fun h2 v2 hn2 hs => ?_)
  rw [hmn]
  refine wpAny_pure (wpAny_point (h _ ?_))
  have neL : ∀ b o, X.s₀.heap.get? b = some o → b ≠ X.env.locals := fun b o e => Nat.ne_of_lt (Nat.lt_of_lt_of_le (Heap.lt_size e) I1.ok.above)
  refine ⟨I1.ok, I1.os, I1.bare, ⟨fun b o e n' hb hx => (hs.2 b (neL b o e)).trans (I1.base.keep b o e n' hb hx), fun b o e n' hb hx => ?_, I1.base.free, fun b o e hx => ?_, I1.base.tups, I1.base.frzs, I1.base.tbls⟩, ⟨_, hn2, fun j y v e1 e2 e3 => ?_⟩, fun y c e => ?_, I1.free, I1.freeC, fun p hp => ?_, fun b u' e => ?_, by simpa using I.len⟩
  · obtain ⟨sl, e1⟩ := I1.base.slot b o e n' hb hx
    exact ⟨sl, (hs.2 b (neL b o e)).trans e1⟩
  · obtain ⟨o', e1⟩ := I1.base.there b o e hx
    exact ⟨o', (hs.2 b (neL b o e)).trans e1⟩
  · by_cases hj : j = i
    · subst hj
      rw [List.getElem?_set_self hiσ] at e2
      cases e2
    · rw [List.getElem?_set_ne (Ne.symm hj)] at e2
      obtain ⟨u', r', q⟩ := hlk j y v e1 (by rw [List.getElem?_set_ne (Ne.symm hj)]; exact e2) e3
      refine ⟨u', r', ?_⟩
      rcases q with ⟨k, e⟩ | ⟨k, c, e, z⟩
      · refine .inl ⟨k, ?_⟩
        have : y ≠ n := fun e => hj (nodup_ix hN e1 (e ▸ hi))
        simp [this, e]
      · exact .inr ⟨k, c, e, z.sameBut hs (I1.cne y c e)⟩
  · obtain ⟨w', z⟩ := I1.cell y c e
    exact ⟨w', z.sameBut hs (I1.cne y c e)⟩
  · obtain ⟨e, n', ne, nf, d⟩ := I1.pin p hp
    exact ⟨(hs.2 p.1 ne).trans e, n', ne, nf, d⟩
  · have nL : ∀ c, H c ≠ none → c ≠ X.env.locals := fun c q z => q (by rw [z]; exact I1.free)
    refine (I1.hok b u' e).stay (fun c v hc q => (hs.2 c (nL c ?_)).trans q) (fun _ q => q) fun _ _ q => q
    rcases hc with rfl | hc
    · rw [e]; exact fun z => by cases z
    · rw [hc]; exact fun z => by cases z
def Ends.gone (D : Ends) (i : Nat) : Ends := { nx := fun σ H => D.nx (σ.set i none) H, rt := D.rt, bk := fun σ H => D.bk (σ.set i none) H, ct := fun σ H => D.ct (σ.set i none) H }
def eHan (K : PySem.W.Frag) (c : Addr) (i : Nat) (th : TS) (D : Ends) : St → XK := fun σ C od H => ∃ C', C = .ref C' ∧ PySem.W.exmOne K C (.ref c) = some true ∧ ∀ x, H x = some (.ext (XA x C' od)) → th (D.gone i) (σ.set i (some (.ref x))) H
def sTry (K : PySem.W.Frag) (c : Addr) (i : Nat) (tb : (St → XK) → TS) (th : TS) : TS := fun D σ H => tb (eHan K c i th D) D σ H
section
variable {X : Cx} {body suite : List Stmt} {b0 : Stmt} {x n : Str} {c : Addr} {i : Nat} {tb : (St → XK) → TS} {th : TS} {xp hp pos : Pos}
theorem ps_try (hb : ∀ pins E, PSs (X.tr pins (xeT X pins E)) body (tb E)) (hg : Gl X x) (hm : X.mg x = some (.ref c)) (hh : ∀ e, PSs (X.hn e) (b0 :: suite) th) (hN : X.N.Nodup) (hi : X.N[i]? = some n)
    (hl : X.env.scope.names.lookup n = some .local) (F : Fr1 X := by exact ⟨rfl, rfl⟩) (hdb : (x == ("__debug__" : Str)) = false := by decide) :
    PS X (.Try body [.ExceptHandler (some (.Name x xp)) (some n) (b0 :: suite) hp] [] [] pos) (sTry X.K c i tb th) := by
  intro pins s σ H D I h
  refine wpAny_Try_except (wpAny_mono (hb pins _ [] s σ H D (I.tr _) h) (fun f s1 q => ?_) fun e s1 q => ?_)
  · have q' := q.untr
    cases f with
    | next => exact wpAny_execs_nil q'
    | brk => exact q'
    | cont => exact q'
    | ret u => exact q'
  · refine q.note F fun s2 q2 => q2.flight F none fun s3 q3 => ?_
    obtain ⟨σ1, H1, a, C, od, T, rfl, I2, ea, eT, nT, fl, C', eC, em, w⟩ := id q3
    cases eC
    refine wpAny_handleBy_cons (codeAny_handlers_test (ld_glob (I2.hn (.ref a)) hg hm ?_ hdb)) (fun z => by cases z)
    have LT : PySem.W.Looks (model X.prog X.w) s3.heap (typeOf (.ref a)) (.ref C) := by
      obtain ⟨vs, sl, e⟩ := fl.xa
      exact (PySem.W.Looks.ld e).andThen .now
    refine (PySem.W.exm_one I2.kIn LT em).here ?_
    rw [if_pos rfl]
    refine codeAny_handlers_suite_as (q3.flight F none fun s4 q4 => ?_)
    · obtain ⟨σ1, H1, a', C, od, T, ea', I3, ea, eT, nT, fl, C', eC, em, w⟩ := q4
      cases eC
      cases ea'
      refine store_ok (X := X.hn (.ref a)) (I3.hn (.ref a)) hN hi (.inl hl) (v := .ref a) (u := .ref a) rfl (fun s5 I4 => ?_) (.inr hl)
      refine wpAny_mono (hh (.ref a) pins s5 _ H1 (D.gone i) I4 (w a ea)) (fun f s5 q5 => ?_) fun _ _ z => False.elim z
      cases f with
      | next => obtain ⟨σ', H', J, q⟩ := q5; exact goes_name (J.unhn I.ok) hN hi hl fun s6 I6 => ⟨_, _, I6, q⟩
      | brk => obtain ⟨σ', H', J, q⟩ := q5; exact goes_name (J.unhn I.ok) hN hi hl fun s6 I6 => ⟨_, _, I6, q⟩
      | cont => obtain ⟨σ', H', J, q⟩ := q5; exact goes_name (J.unhn I.ok) hN hi hl fun s6 I6 => ⟨_, _, I6, q⟩
      | ret u => obtain ⟨v, σ', H', J, r, q⟩ := q5; exact goes_name (J.unhn I.ok) hN hi hl fun s6 I6 => ⟨v, _, _, I6, r, q⟩
end
theorem ps_tryG {X : Cx} {body suite : List Stmt} {b0 : Stmt} {x n : Str} {c : Addr} {i : Nat} {tb : (St → XK) → TS} {th : TS} {xp hp pos : Pos} (hb : ∀ pins E, ∃ t, PSs (X.tr pins (xeT X pins E)) body t ∧ t = tb E) (hg : Gl X x) (hm : X.mg x = some (.ref c))
    (hh : ∀ e, ∃ t, PSs (X.hn e) (b0 :: suite) t ∧ t = th) (hN : X.N.Nodup) (hi : X.N[i]? = some n) (hl : X.env.scope.names.lookup n = some .local) (F : Fr1 X := by exact ⟨rfl, rfl⟩)
    (hdb : (x == ("__debug__" : Str)) = false := by decide) : PS X (.Try body [.ExceptHandler (some (.Name x xp)) (some n) (b0 :: suite) hp] [] [] pos) (sTry X.K c i tb th) :=
  ps_try (fun pins E => by obtain ⟨t, h, rfl⟩ := hb pins E; exact h) hg hm (fun e => by obtain ⟨t, h, rfl⟩ := hh e; exact h) hN hi hl F hdb
theorem sTry_ap (K : PySem.W.Frag) (c : Addr) (i : Nat) (tb : (St → XK) → TS) (th : TS) (D : Ends) (σ : St) (H : Hp) : sTry K c i tb th D σ H = tb (eHan K c i th D) D σ H := rfl
theorem eHan_ap (K : PySem.W.Frag) (c : Addr) (i : Nat) (th : TS) (D : Ends) (σ : St) (C : Value) (od : Option Addr) (H : Hp) :
    eHan K c i th D σ C od H = ∃ C', C = .ref C' ∧ PySem.W.exmOne K C (.ref c) = some true ∧ ∀ x, H x = some (.ext (XA x C' od)) → th (D.gone i) (σ.set i (some (.ref x))) H := rfl
theorem gone_nx (D : Ends) (i : Nat) (σ : St) (H : Hp) : (D.gone i).nx σ H = D.nx (σ.set i none) H := rfl
theorem gone_rt (D : Ends) (i : Nat) (v : V) (H : Hp) : (D.gone i).rt v H = D.rt v H := rfl
theorem OwnTail.has {h : Heap} {bm tl : List Value} {v : Value} (T : OwnTail h bm tl) (e : bm.contains v = true) : tl.contains v = true := by
  induction T with
  | base => exact e
  | own _ _ _ _ ih => rw [List.contains_cons, ih, Bool.or_true]
def sRaise (K : PySem.W.Frag) (E : St → XK) (te : TE) : TS := fun D σ H => te σ H fun v H1 => ∃ x C od, v = .ref x ∧ H1 x = some (.ext (XF x C od)) ∧ XCls K C ∧ E σ (.ref C) od (upd H1 x (.ext (XA x C od)))
theorem raise_made {M : Model} {A : Around} {E : Value → Shared → Prop} {s : Shared} {env : Env} {x : Sem Value} {Q : Flow → Shared → Prop} (hh : A.handled = none)
    (h : wpAny M A x (fun v s1 => ∃ e C od vs sl nm q N bs bm hdct sn sub ab col dd k0 k1 k2 k3 k5 newId, v = .ref e ∧ bm.contains (.type "BaseException") = true ∧
      s1.heap.get? C = some (excClassObj nm q C N bs bm hdct sn sub ab col dd k0 k1 k2 k3 k5 newId) ∧ s1.heap.get? e = some ⟨.ref C, od, .fields vs, sl⟩ ∧ vs[1]? = some .none ∧ E (.ref e) s1) E s) :
    wpAny M A (raiseStmt env (some x) none) Q E s := by
  unfold raiseStmt
  refine wpAny_bind (wpAny_mono h (fun v s1 h1 => ?_) fun _ _ x => x)
  obtain ⟨e, C, od, vs, sl, nm, q, N, bs, bm, hdct, sn, sub, ab, col, dd, k0, k1, k2, k3, k5, newId, rfl, hb, hC, he, h1, hE⟩ := h1
  have hcB : (Value.ref C :: bm).contains (.type "BaseException") = true := by rw [List.contains_cons, hb, Bool.or_true]
  obtain ⟨hp, g, d, tk, os⟩ := s1
  repeat (first | with_reducible refine wpAny_loadPart_at he ?_ | with_reducible refine wpAny_loadPart_at hC ?_ | (with_reducible refine wpAny_isSubtype_exc hC ?_; rw [hcB]) | (with_reducible refine wpAny_field he rfl h1 ?_) | wp_step)
  exact wpAny_raiseNew_none hh hE
section
variable {X : Cx} {e : Expr} {te : TE} {pos : Pos} {E : St → XK}
theorem ps_raise (he : PE X e te) (hT : Throws X E) (hc : X.calm = true := by rfl) : PS X (.Raise (some e) none pos) (sRaise X.K E te) := by
  intro pins s σ H D I h
  rw [arm_exec_Raise]
  refine wpAny_bind (wpAny_standAt (raise_made (I.ok.hd hc) ?_))
  refine wpAny_bind (thn (he pins s σ H _ I h) fun u s1 ⟨v, H1, I1, r, x, C, od, ev, ex, c, q⟩ => wpAny_bind (wpAny_standAt (wpAny_pure ?_)))
  subst ev
  obtain rfl : u = Value.ref x := r
  obtain ⟨vs, sl, hx, z1, z2⟩ := (show ObjOk X.prog X.w H1 s1.heap x (.ext (XF x C od)) from I1.hok _ _ ex).1
  obtain ⟨fI, hfI⟩ := c.ex
  obtain ⟨tl, N, nm, q', bs, sn, sub, ab, co, dd, k0, k1, k2, k3, k5, mN, hC, hN, hi, T⟩ := excI_obj I1.kIn hfI
  exact ⟨x, C, od, vs, sl, nm, q', N, bs, tl, true, sn, sub, ab, co, dd, k0, k1, k2, k3, k5, _, rfl, L2.OwnTail.has T (by decide), hC, hx, z2, hT pins σ H1 s1 x C od I1 ex q⟩
theorem PS.nox {X : Cx} {st : Stmt} {t : TS} (h : PS X.nox st t) : PS X st t := fun pins s σ H D I hw =>
  wpAny_mono (h pins s σ H D (I.wish _) hw) (fun _ _ q => q.unwish) fun _ _ z => False.elim z
end
theorem Fun.okX {P : Program} {w : World} {K : PySem.W.Frag} {mg : Str → Option Value} {base : Heap} {x qual : Str} {st : Stmt} {f : Addr} {fd : FuncData} {N ps : List Str} {k : Nat} {sp : Sp} (F : Fun K x qual st f fd) (S : FnScope N ps (defScope st))
    (len : ∀ vs H Q E, sp vs H Q E → vs.length = ps.length)
    (hbody : ∀ (cdv : Value) (A : Around) (outer : List Env) (s : Shared) (H : Hp) (vs : List V) (Q : VK) (E : XK), Room k (A.deeper (envOfC qual (defScope st) s.heap.objs.size f cdv)) → sp vs H Q E →
      ∃ t, PSs ((cxOf (CX1 P w) P w K mg base N qual (defScope st) f cdv A outer s H E).wish (xeA (cxOf (CX1 P w) P w K mg base N qual (defScope st) f cdv A outer s H E) fun _ => E)) (defBody st) t ∧ t { nx := fun _ H' => Q .non H', rt := Q } (start N vs) H) : FnOk P w K mg base (CX1 P w) (k + 1) f fd ps sp := by
  obtain ⟨oc, od, kV, doc, pm, an, cdv, ct, osl, rfl, lk, hcd⟩ := F.ex
  refine fn_of lk hcd S len fun A outer s H vs Q E hr hsp => ?_
  obtain ⟨t, h, q⟩ := hbody cdv A outer s H vs Q E hr hsp
  exact ⟨t, fun pins s1 σ H1 D I hw => wpAny_mono (h pins s1 σ H1 D (I.wish _) hw) (fun _ _ q => q.unwish) fun _ _ z => leaves1 z, q⟩
def xeB (B : Cx) (E : XK) (e : Value) (s' : Shared) : Prop :=
  ∃ pins fl σ' H' x C od T, e = .ref x ∧ Inv B pins σ' H' s' ∧ H' x = some (.ext (XA x C od)) ∧ H' T = none ∧ NewT B pins T ∧ B.s₀.heap.objs.size ≤ T ∧ FlA x C od T fl s'.heap ∧ E (.ref C) od H'
structure BlkX (X : Cx) (scope : Scope) (N : List Str) (tg elt : Expr) (ifs : List Expr) (g : TG) (tc : TT) (te : XK → TE) : Prop where
  tgt : ∀ E C s H fp, PG ((X.block scope C N s H fp).wish (xeB (X.block scope C N s H fp) E)) tg g
  tests : ∀ E C s H fp, PTs ((X.block scope C N s H fp).wish (xeB (X.block scope C N s H fp) E)) ifs tc
  elem : ∀ E C s H fp, PE ((X.block scope C N s H fp).wish (xeB (X.block scope C N s H fp) E)) elt (te E)
theorem BlkX.of {X : Cx} {scope : Scope} {N : List Str} {tg elt : Expr} {ifs : List Expr} {g : TG} {tc : TT} {te : XK → TE} (h1 : ∀ E C s H fp, PG ((X.block scope C N s H fp).wish (xeB (X.block scope C N s H fp) E)) tg g)
    (h2 : ∀ E C s H fp, ∃ t, PTs ((X.block scope C N s H fp).wish (xeB (X.block scope C N s H fp) E)) ifs t ∧ t = tc) (h3 : ∀ E C s H fp, ∃ t, PE ((X.block scope C N s H fp).wish (xeB (X.block scope C N s H fp) E)) elt t ∧ t = te E) : BlkX X scope N tg elt ifs g tc te :=
  ⟨h1, fun E C s H fp => by obtain ⟨t, h, rfl⟩ := h2 E C s H fp; exact h, fun E C s H fp => by obtain ⟨t, h, e⟩ := h3 E C s H fp; rw [← e]; exact h⟩
def CompR0 (J : It) (g : TG) (tc : TT) (te : TE) (σb : St) (Q : VK) (H : Hp) : Prop := ∃ W : Nat → Nat → List V → Hp → Prop, (∃ m, W 0 m [] H) ∧ CompW J g tc te σb Q W
def tCompX (wi : TI) (g : TG) (tc : TT) (te : XK → TE) (sel : List (Option Nat)) (E : St → XK) : TE := fun σ H Q => wi σ H fun J H1 => CompR0 J g tc (te (E σ)) (blk sel σ) Q H1
section
variable {X : Cx} {elt tg iter : Expr} {ifs : List Expr} {scope : Scope} {pos : Pos} {wi : TI} {g : TG} {tc : TT} {te : XK → TE} {N : List Str} {sel : List (Option Nat)}
theorem FlA.but {x C T c : Addr} {od : Option Addr} {fl : Value} {h h' : Heap} (z : FlA x C od T fl h) (n1 : x ≠ c) (n2 : T ≠ c) (k : ∀ b, b ≠ c → h'.get? b = h.get? b) : FlA x C od T fl h' := by
  obtain ⟨ne, vs, sl, oT, ts, he, h1, hT, hd, h3⟩ := z
  exact ⟨ne, vs, sl, oT, ts, (k _ n1).trans he, h1, (k _ n2).trans hT, hd, h3⟩
end
structure IsiC (K : PySem.W.Frag) (C : Addr) : Prop where
  cl : Cls K C
  ha : PySem.W.findIn K (.ref C) "__class__" = some (some (.builtin "object.__class__"))
  hn : PySem.W.specialIn K (.builtin "object.__class__") "__get__" = some (some (.builtin "getset_descriptor.__get__"))
  htk : PySem.W.takesIn K (.builtin "object.__class__") = some true
  hm : PySem.W.mroIn K C (.type "object") = some true
theorem IsiC.ty {K : PySem.W.Frag} {H : Hp} {C a dx : Addr} {fs : List (Str × V)} (c : IsiC K C) (e : H a = some (.ins C dx fs)) : TyOf K H (.ref a) (.ref C) := .ins e c.cl c.ha c.hn c.htk c.hm
theorem call_isiS {X : Cx} : CallR X (.builtin "isinstance") (fun xs H Q => ∃ a C od, xs = [.ref a, .ref C] ∧ H a = some (.ext (XA a C od)) ∧ Q (.bl true) H) := by
  intro pins s σ H xs us Q I r h
  obtain ⟨a, C, od, rfl, ea, q⟩ := h
  obtain ⟨u, u2, rfl, rx, r2⟩ := vals2 r
  cases (show u = Value.ref a from rx)
  cases (show u2 = Value.ref C from r2)
  have xa := (show ObjOk X.prog X.w H s.heap a (.ext (XA a C od)) from I.hok _ _ ea).1
  have ans : PySem.Answers (fun s => XA a C od s.heap) (.ref a) (.ref C) true := by
    intro dep tk prog w A R s hs
    obtain ⟨h0, g, d, tt, os⟩ := s
    obtain ⟨⟨vs, sl, ho⟩, hq⟩ := hs
    have LT : PySem.W.Looks (model prog w) h0 (typeOf (.ref a)) (.ref C) := (PySem.W.Looks.ld ho).andThen .now
    unfold Builtin.«isinstance.nested»
    refine wpAny_bind (LT.at ?_)
    rw [if_pos (by simp)]
    first
      | exact wpAny_bind (wpAny_rule (hq tt))
      | exact wpAny_bind (wpAny_rule (wpAny_pure (hq tt)))
      | exact wpAny_pure (hq tt)
  exact PySem.call_isinstance (S := fun _ R s => XA a C od s.heap ∧ ∀ tk, R (.ok (.ret (.bool true))) { s with toks := tk })
    (fun prog w A R s hs => PySem.isinstance_outer (ans 0 _ prog w A R s hs) (fun z => nomatch z)) ⟨xa, fun tk => ⟨.bl true, H, I.tok _, rfl, q⟩⟩
end L2
namespace L2
open PySem PySem.Spec PyProof.Rows
def Itd (hi : Int) (n : Nat) : It := ⟨fun i _ => i < n, fun i H x H' => H' = H ∧ x = .int (hi - i), fun i _ => n ≤ i⟩
section
variable {X : Cx} {tg : Expr}
def iRngD (ta : TA) : TI := fun σ H R => ta σ H fun vs H1 => ∃ i j : Int, vs = [.int i, .int j, .int (-1)] ∧ (-1073741824 ≤ i ∧ i < 1073741824 ∧ -1073741824 ≤ j ∧ j < 1073741824) ∧ R (Itd i (i - j).toNat) H1
end
section
variable {prog : Program} {w : World} {A : Around} {E : Value → Shared → Prop} {s : Shared} {it l : Addr} {items : Array Value}
end
section
variable {X : Cx}
def tListRev (K : PySem.W.Frag) (ta : TA) : TE := fun σ H Q => ta σ H fun vs H1 => ∃ a xs, vs = [.ref a] ∧ SqL K H1 a xs ∧ ∀ l, H1 l = none → Q (.ref l) (upd H1 l (.lst xs.reverse))
end
section
variable {prog : Program} {w : World} {A : Around} {R : Result → Shared → Prop} {I : Addr} {fp wr : List Addr} {n : Nat} {P : Nat → Value → Prop} {St : Nat → Heap → Prop}
end
section
variable {prog : Program} {w : World} {A : Around} {E : Value → Shared → Prop} {s : Shared}
end
section
variable {X : Cx}
def tMinD (K : PySem.W.Frag) (ta : TA) (td : TE) : TE := fun σ H Q => ta σ H fun vs H1 => td σ H1 fun y H2 => ∃ l ks, vs = [.ref l] ∧ SqL K H2 l (List.map V.int ks) ∧ Q (match ks.min? with | some m => .int m | none => y) H2
end
end L2
namespace L2
open PySem PySem.Spec PyProof.Rows
theorem tVar_ap (i : Nat) (σ : St) (H : Hp) (Q : VK) : tVar i σ H Q = (∃ v, σ[i]? = some (some v) ∧ Q v H) := rfl
theorem tC_ap (v : V) (x_0 : St) (H : Hp) (Q : VK) : tC v x_0 H Q = (Q v H) := rfl
theorem tAdd_ap (ta tb : TE) (σ : St) (H : Hp) (Q : VK) : tAdd ta tb σ H Q = (t2I ta tb (fun i j H2 => Q (.int (i + j)) H2) σ H) := rfl
theorem tSub_ap (ta tb : TE) (σ : St) (H : Hp) (Q : VK) : tSub ta tb σ H Q = (t2I ta tb (fun i j H2 => Q (.int (i - j)) H2) σ H) := rfl
theorem tMul_ap (ta tb : TE) (σ : St) (H : Hp) (Q : VK) : tMul ta tb σ H Q = (t2I ta tb (fun i j H2 => (-(2 ^ 64) < i ∧ i < 2 ^ 64) ∧ Q (.int (i * j)) H2) σ H) := rfl
theorem tCmp_ap (p : Int → Int → Bool) (ta tb : TE) (σ : St) (H : Hp) (Q : VK) : tCmp p ta tb σ H Q = (t2I ta tb (fun i j H2 => Q (.bl (p i j)) H2) σ H) := rfl
theorem tIsN_ap (ta : TE) (σ : St) (H : Hp) (Q : VK) : tIsN ta σ H Q = (ta σ H fun x H1 => Q (.bl (decide (x = .non))) H1) := rfl
theorem tNotN_ap (ta : TE) (σ : St) (H : Hp) (Q : VK) : tNotN ta σ H Q = (ta σ H fun x H1 => Q (.bl (!decide (x = .non))) H1) := rfl
theorem tB_ap (t : TE) (σ : St) (H : Hp) (Q : (Bool → Hp → Prop)) : tB t σ H Q = (t σ H fun x H1 => ∃ c, x = .bl c ∧ Q c H1) := rfl
theorem tAnd_ap (t u : TT) (σ : St) (H : Hp) (Q : (Bool → Hp → Prop)) : tAnd t u σ H Q = (t σ H fun c H1 => if c = true then u σ H1 Q else Q false H1) := rfl
theorem tOr_ap (t u : TT) (σ : St) (H : Hp) (Q : (Bool → Hp → Prop)) : tOr t u σ H Q = (t σ H fun c H1 => if c = true then Q true H1 else u σ H1 Q) := rfl
theorem tNot_ap (t : TT) (σ : St) (H : Hp) (Q : (Bool → Hp → Prop)) : tNot t σ H Q = (t σ H fun c H1 => Q (!c) H1) := rfl
theorem tAndV_ap (ta tb : TE) (σ : St) (H : Hp) (Q : VK) : tAndV ta tb σ H Q = (ta σ H fun x H1 => ∃ c, x = .bl c ∧ if c = true then tb σ H1 Q else Q (.bl false) H1) := rfl
theorem tOrV_ap (ta tb : TE) (σ : St) (H : Hp) (Q : VK) : tOrV ta tb σ H Q = (ta σ H fun x H1 => ∃ c, x = .bl c ∧ if c = true then Q (.bl true) H1 else tb σ H1 Q) := rfl
theorem tNotV_ap (ta : TE) (σ : St) (H : Hp) (Q : VK) : tNotV ta σ H Q = (ta σ H fun x H1 => ∃ c, x = .bl c ∧ Q (.bl (!c)) H1) := rfl
theorem tIf_ap (t : TT) (ta tb : TE) (σ : St) (H : Hp) (Q : VK) : tIf t ta tb σ H Q = (t σ H fun c H1 => if c = true then ta σ H1 Q else tb σ H1 Q) := rfl
theorem tNext_ap (D : Ends) (σ : St) (H : Hp) : tNext  D σ H = (D.nx σ H) := rfl
theorem tSeq_ap (t u : TS) (D : Ends) (σ : St) (H : Hp) : tSeq t u D σ H = (t { D with nx := u D } σ H) := rfl
theorem tBreak_ap (D : Ends) (σ : St) (H : Hp) : tBreak  D σ H = (D.bk σ H) := rfl
theorem tCont_ap (D : Ends) (σ : St) (H : Hp) : tCont  D σ H = (D.ct σ H) := rfl
theorem tDrop_ap (te : TE) (D : Ends) (σ : St) (H : Hp) : tDrop te D σ H = (te σ H fun _ H1 => D.nx σ H1) := rfl
theorem tRet_ap (te : TE) (D : Ends) (σ : St) (H : Hp) : tRet te D σ H = (te σ H D.rt) := rfl
theorem tRetN_ap (D : Ends) (x_1 : St) (H : Hp) : tRetN  D x_1 H = (D.rt .non H) := rfl
theorem tNever_ap (x_0 : Ends) (x_1 : St) (x_2 : Hp) : tNever  x_0 x_1 x_2 = (False) := rfl
theorem gName_ap (i : Nat) (v : V) (σ : St) (H : Hp) (Q : (St → Hp → Prop)) : gName i v σ H Q = (Q (σ.set i (some v)) H) := rfl
theorem gNil_ap (vs : List V) (σ : St) (H : Hp) (Q : (St → Hp → Prop)) : gNil  vs σ H Q = (vs = [] ∧ Q σ H) := rfl
theorem gCons_ap (t : TG) (u : TGs) (vs : List V) (σ : St) (H : Hp) (Q : (St → Hp → Prop)) : gCons t u vs σ H Q = (∃ v r, vs = v :: r ∧ t v σ H fun σ' H' => u r σ' H' Q) := rfl
theorem gTup_ap (K : PySem.W.Frag) (n : Nat) (t : TGs) (v : V) (σ : St) (H : Hp) (Q : (St → Hp → Prop)) : gTup K n t v σ H Q = (∃ a xs, v = .ref a ∧ SqT K H a xs ∧ xs.length = n ∧ t xs σ H Q) := rfl
theorem gSub_ap (to ti : TE) (t : TSet) (v : V) (σ : St) (H : Hp) (Q : (St → Hp → Prop)) : gSub to ti t v σ H Q = (to σ H fun o H1 => ti σ H1 fun i H2 => t o i v H2 fun H3 => Q σ H3) := rfl
theorem tAsg_ap (te : TE) (g : TG) (D : Ends) (σ : St) (H : Hp) : tAsg te g D σ H = (te σ H fun x H1 => g x σ H1 D.nx) := rfl
theorem tPar_ap (i j : Nat) (ta : TA) (D : Ends) (σ : St) (H : Hp) : tPar i j ta D σ H = (ta σ H fun vs H1 => ∃ v w, vs = [v, w] ∧ D.nx ((σ.set i (some v)).set j (some w)) H1) := rfl
theorem tAug_ap (i : Nat) (te : TE) (ti : TIp) (D : Ends) (σ : St) (H : Hp) : tAug i te ti D σ H = (∃ x, σ[i]? = some (some x) ∧ te σ H fun y H1 => ti x y H1 fun z H2 => D.nx (σ.set i (some z)) H2) := rfl
theorem tAugS_ap (to ti te : TE) (tget : V → V → Hp → VK → Prop) (tip : TIp) (tset : TSet) (D : Ends) (σ : St) (H : Hp) : tAugS to ti te tget tip tset D σ H = (to σ H fun o H1 => ti σ H1 fun i H2 => tget o i H2 fun x H3 => te σ H3 fun y H4 => tip x y H4 fun z H5 => tset o i z H5 fun H6 => D.nx σ H6) := rfl
theorem iList_ap (K : PySem.W.Frag) (tl : TE) (σ : St) (H : Hp) (R : (It → Hp → Prop)) : iList K tl σ H R = (tl σ H fun x H1 => ∃ a, x = .ref a ∧ (∃ xs, SqL K H1 a xs) ∧ R (Itl K a) H1) := rfl
theorem iTup_ap (K : PySem.W.Frag) (tl : TE) (σ : St) (H : Hp) (R : (It → Hp → Prop)) : iTup K tl σ H R = (tl σ H fun x H1 => ∃ a, x = .ref a ∧ (∃ xs, SqT K H1 a xs) ∧ R (Itt K a) H1) := rfl
theorem tOp_ap (r : R2) (ta tb : TE) (σ : St) (H : Hp) (Q : VK) : tOp r ta tb σ H Q = (ta σ H fun x H1 => tb σ H1 fun y H2 => r x y H2 Q) := rfl
theorem tUn_ap (r : V → Hp → VK → Prop) (ta : TE) (σ : St) (H : Hp) (Q : VK) : tUn r ta σ H Q = (ta σ H fun x H1 => r x H1 Q) := rfl
theorem rI_ap (C : Int → Int → Prop) (g : Int → Int → V) (x : V) (y : V) (H : Hp) (Q : VK) : rI C g x y H Q = (∃ i j, x = .int i ∧ y = .int j ∧ C i j ∧ Q (g i j) H) := rfl
theorem rI0_ap (g : Int → Int → V) (x : V) (y : V) (H : Hp) (Q : VK) : rI0 g x y H Q = (∃ i j, x = .int i ∧ y = .int j ∧ Q (g i j) H) := rfl
theorem rU_ap (g : Int → V) (x : V) (H : Hp) (Q : VK) : rU g x H Q = (∃ i, x = .int i ∧ Q (g i) H) := rfl
theorem rEq_ap (x : V) (y : V) (H : Hp) (Q : VK) : rEq  x y H Q = (scal x y = true ∧ Q (.bl (decide (x = y))) H) := rfl
theorem rNe_ap (x : V) (y : V) (H : Hp) (Q : VK) : rNe  x y H Q = (scal x y = true ∧ Q (.bl (!decide (x = y))) H) := rfl
theorem tTest_ap (t : TE) (σ : St) (H : Hp) (Q : (Bool → Hp → Prop)) : tTest t σ H Q = (t σ H fun x H' => ∃ k, x = .bl k ∧ Q k H') := rfl
theorem tChain_ap (r r' : R2) (ta tb tc : TE) (σ : St) (H : Hp) (Q : VK) : tChain r r' ta tb tc σ H Q = (ta σ H fun x H1 => tb σ H1 fun y H2 => r x y H2 fun z H3 => ∃ k, z = .bl k ∧
  (if k = true then tc σ H3 fun w' H4 => r' y w' H4 Q else Q (.bl false) H3)) := rfl
theorem tCon_ap (K : PySem.W.Frag) (ta : TE) (f : Str) (σ : St) (H : Hp) (Q : VK) : tCon K ta f σ H Q = (ta σ H fun x H1 => ∃ a C dx fs v u, x = .ref a ∧ H1 a = some (.ins C dx fs) ∧ Cls K C ∧ Con K C f v u ∧ fs.lookup f = none ∧ Q v H1) := rfl
theorem sFld_ap (K : PySem.W.Frag) (ta tv : TE) (f : Str) (D : Ends) (σ : St) (H : Hp) : sFld K ta tv f D σ H = (tv σ H fun y H1 => ta σ H1 fun x H2 => ∃ a C dx fs, x = .ref a ∧ H2 a = some (.ins C dx fs) ∧ Cls K C ∧ NoAttr K C f ∧ fs.length < 1000 ∧
  D.nx σ (upd H2 a (.ins C dx (putF f y fs)))) := rfl
theorem sFldAug_ap (K : PySem.W.Frag) (ta tv : TE) (rd : V → V → Hp → VK → Prop) (f : Str) (D : Ends) (σ : St) (H : Hp) : sFldAug K ta tv rd f D σ H = (ta σ H fun x H1 => ∃ a C dx fs v, x = .ref a ∧ H1 a = some (.ins C dx fs) ∧ Cls K C ∧ NoAttr K C f ∧ fs.lookup f = some v ∧
  tv σ H1 fun y H2 => rd v y H2 fun z H3 => ∃ dx' fs', H3 a = some (.ins C dx' fs') ∧ fs'.length < 1000 ∧ D.nx σ (upd H3 a (.ins C dx' (putF f z fs')))) := rfl
theorem rAdd_ap (x : V) (y : V) (H : Hp) (Q : VK) : rAdd  x y H Q = (∃ i j, x = .int i ∧ y = .int j ∧ Q (.int (i + j)) H) := rfl
theorem rSub_ap (x : V) (y : V) (H : Hp) (Q : VK) : rSub  x y H Q = (∃ i j, x = .int i ∧ y = .int j ∧ Q (.int (i - j)) H) := rfl
theorem tNil_ap (x_0 : St) (H : Hp) (Q : (List V → Hp → Prop)) : tNil  x_0 H Q = (Q [] H) := rfl
theorem tCons_ap (ta : TE) (tr : TA) (σ : St) (H : Hp) (Q : (List V → Hp → Prop)) : tCons ta tr σ H Q = (ta σ H fun x H1 => tr σ H1 fun xs H2 => Q (x :: xs) H2) := rfl
theorem tTup_ap (t : TA) (σ : St) (H : Hp) (Q : VK) : tTup t σ H Q = (t σ H fun xs H1 => xs.length ≤ sizeLine ∧ ∀ p, H1 p = none → Q (.ref p) (upd H1 p (.tup xs))) := rfl
theorem tLst_ap (t : TA) (σ : St) (H : Hp) (Q : VK) : tLst t σ H Q = (t σ H fun xs H1 => xs.length ≤ sizeLine ∧ ∀ p, H1 p = none → Q (.ref p) (upd H1 p (.lst xs))) := rfl
theorem tCall_ap (sp : Sp) (dvs : List V) (E : XK) (t : TA) (σ : St) (H : Hp) (Q : VK) : tCall sp dvs E t σ H Q = (t σ H fun vs H1 => sp (vs ++ dvs) H1 Q E) := rfl
theorem tMeth_ap (C : Addr) (m : Str) (sp : Sp) (dvs : List V) (E : XK) (ta : TE) (t : TA) (σ : St) (H : Hp) (Q : VK) : tMeth C m sp dvs E ta t σ H Q = (ta σ H fun x H1 => ∃ a dx fs, x = .ref a ∧ H1 a = some (.ins C dx fs) ∧ fs.lookup m = none ∧
  t σ H1 fun vs H2 => sp (x :: (vs ++ dvs)) H2 Q E) := rfl
theorem tMake_ap (C : Addr) (sp : Sp) (dvs : List V) (E : XK) (t : TA) (σ : St) (H : Hp) (Q : VK) : tMake C sp dvs E t σ H Q = (t σ H fun vs H1 => ∀ x dx, H1 x = none → H1 dx = none → dx ≠ x →
  sp (.ref x :: (vs ++ dvs)) (upd (upd H1 dx (.own x)) x (.ins C dx [])) (fun v H2 => v = .non ∧ Q (.ref x) H2) E) := rfl
theorem tCallK_ap (sp : Sp) (gV : List V → List V → List V) (E : XK) (t tk : TA) (σ : St) (H : Hp) (Q : VK) : tCallK sp gV E t tk σ H Q = (t σ H fun vs H1 => tk σ H1 fun zs H2 => sp (gV vs zs) H2 Q E) := rfl
theorem tCB_ap (r : List V → Hp → VK → Prop) (t : TA) (σ : St) (H : Hp) (Q : VK) : tCB r t σ H Q = (t σ H fun vs H1 => r vs H1 Q) := rfl
theorem tNoPart_ap (x_0 : St) (H : Hp) (Q : (Option Int → Hp → Prop)) : tNoPart  x_0 H Q = (Q none H) := rfl
theorem tPart_ap (t : TE) (σ : St) (H : Hp) (Q : (Option Int → Hp → Prop)) : tPart t σ H Q = (t σ H fun x H1 => ∃ i, x = .int i ∧ Q (some i) H1) := rfl
theorem tSl_ap (r : V → Option Int → Option Int → Hp → VK → Prop) (te : TE) (tl th : TO) (σ : St) (H : Hp) (Q : VK) : tSl r te tl th σ H Q = (te σ H fun x H1 => tl σ H1 fun l H2 => th σ H2 fun u H3 => r x l u H3 Q) := rfl
theorem rSlT_ap (K : PySem.W.Frag) (x : V) (lo : Option Int) (hi : Option Int) (H : Hp) (Q : VK) : rSlT K x lo hi H Q = (∃ a xs, x = .ref a ∧ SqT K H a xs ∧
  ¬ (HT.sIx xs.length 0 lo = 0 ∧ HT.sIx xs.length xs.length hi = xs.length) ∧ ∀ p, H p = none → Q (.ref p) (upd H p (.tup (cutV xs lo hi)))) := rfl
theorem rLtT_ap (K : PySem.W.Frag) (x : V) (y : V) (H : Hp) (Q : VK) : rLtT K x y H Q = (∃ a b ns ms, x = .ref a ∧ y = .ref b ∧ SqT K H a (ns.map V.int) ∧ SqT K H b (ms.map V.int) ∧ Q (.bl (HT.lexLt ns ms)) H) := rfl
theorem rCatT_ap (K : PySem.W.Frag) (x : V) (y : V) (H : Hp) (Q : VK) : rCatT K x y H Q = (∃ a b xs ys, x = .ref a ∧ y = .ref b ∧ SqT K H a xs ∧ SqT K H b ys ∧ xs ≠ [] ∧ xs.length + ys.length ≤ sizeLine ∧
  (ys = [] → Q (.ref a) H) ∧ (ys ≠ [] → ∀ p, H p = none → Q (.ref p) (upd H p (.tup (xs ++ ys))))) := rfl
theorem rIxL_ap (K : PySem.W.Frag) (x : V) (y : V) (H : Hp) (Q : VK) : rIxL K x y H Q = (∃ p xs i v, x = .ref p ∧ y = .int i ∧ SqL K H p xs ∧ atI xs i = some v ∧ Q v H) := rfl
theorem rIxT_ap (K : PySem.W.Frag) (x : V) (y : V) (H : Hp) (Q : VK) : rIxT K x y H Q = (∃ p xs i v, x = .ref p ∧ y = .int i ∧ SqT K H p xs ∧ atI xs i = some v ∧ Q v H) := rfl
theorem rIxS_ap (x : V) (y : V) (H : Hp) (Q : VK) : rIxS  x y H Q = (∃ z i c, x = .str z ∧ y = .int i ∧ z.length ≤ sizeLine ∧ atI z.cps.toList i = some c ∧ Q (.str ⟨#[c]⟩) H) := rfl
theorem rIx_ap (K : PySem.W.Frag) (x : V) (y : V) (H : Hp) (Q : VK) : rIx K x y H Q = (rIxL K x y H Q ∨ rIxT K x y H Q ∨ rIxS x y H Q) := rfl
theorem rSetL_ap (o : V) (i : V) (v : V) (H : Hp) (Q : (Hp → Prop)) : rSetL  o i v H Q = (∃ p xs k j, o = .ref p ∧ i = .int k ∧ H p = some (.lst xs) ∧ ixN xs.length k = some j ∧ Q (upd H p (.lst (xs.set j v)))) := rfl
theorem rSlL_ap (K : PySem.W.Frag) (x : V) (lo : Option Int) (hi : Option Int) (H : Hp) (Q : VK) : rSlL K x lo hi H Q = (∃ a xs, x = .ref a ∧ SqL K H a xs ∧ ∀ p, H p = none → Q (.ref p) (upd H p (.lst (cutV xs lo hi)))) := rfl
theorem rIn_ap (K : PySem.W.Frag) (neg : Bool) (x : V) (y : V) (H : Hp) (Q : VK) : rIn K neg x y H Q = (∃ p xs, y = .ref p ∧ (SqL K H p xs ∨ SqT K H p xs) ∧ flatV x = true ∧ xs.all flatV = true ∧ Q (.bl (if neg then !inV x xs else inV x xs)) H) := rfl
theorem tBM0_ap (K : PySem.W.Frag) (T : String) (r : V → List V → Hp → VK → Prop) (to : TE) (σ : St) (H : Hp) (Q : VK) : tBM0 K T r to σ H Q = (to σ H fun x H1 => tyV K T x H1 ∧ r x [] H1 Q) := rfl
theorem tBM_ap (K : PySem.W.Frag) (T : String) (r : V → List V → Hp → VK → Prop) (to : TE) (t : TA) (σ : St) (H : Hp) (Q : VK) : tBM K T r to t σ H Q = (to σ H fun x H1 => tyV K T x H1 ∧ t σ H1 fun xs H2 => r x xs H2 Q) := rfl
theorem rAppend_ap (x : V) (vs : List V) (H : Hp) (Q : VK) : rAppend  x vs H Q = (∃ l xs y, x = .ref l ∧ vs = [y] ∧ H l = some (.lst xs) ∧ xs.length < sizeLine ∧ Q .non (upd H l (.lst (xs ++ [y])))) := rfl
theorem rExtend_ap (x : V) (vs : List V) (H : Hp) (Q : VK) : rExtend  x vs H Q = (∃ l b xs zs, x = .ref l ∧ vs = [.ref b] ∧ H l = some (.lst xs) ∧ H b = some (.lst zs) ∧ xs.length + zs.length ≤ sizeLine ∧ Q .non (upd H l (.lst (xs ++ zs)))) := rfl
theorem rPop_ap (x : V) (vs : List V) (H : Hp) (Q : VK) : rPop  x vs H Q = (∃ l xs y, x = .ref l ∧ vs = [] ∧ H l = some (.lst xs) ∧ xs[xs.length - 1]? = some y ∧ Q y (upd H l (.lst xs.dropLast))) := rfl
theorem rPopAt_ap (x : V) (vs : List V) (H : Hp) (Q : VK) : rPopAt  x vs H Q = (∃ l xs i k y, x = .ref l ∧ vs = [.int i] ∧ H l = some (.lst xs) ∧ -(2 ^ 63) ≤ i ∧ i < 2 ^ 63 ∧ seqIndex? i xs.length = some k ∧ xs[k]? = some y ∧ Q y (upd H l (.lst (xs.eraseIdx k)))) := rfl
theorem rReverse_ap (x : V) (vs : List V) (H : Hp) (Q : VK) : rReverse  x vs H Q = (∃ l xs, x = .ref l ∧ vs = [] ∧ H l = some (.lst xs) ∧ Q .non (upd H l (.lst xs.reverse))) := rfl
theorem rClear_ap (x : V) (vs : List V) (H : Hp) (Q : VK) : rClear  x vs H Q = (∃ l xs, x = .ref l ∧ vs = [] ∧ H l = some (.lst xs) ∧ Q .non (upd H l (.lst []))) := rfl
theorem rCat_ap (x : V) (y : V) (H : Hp) (Q : VK) : rCat  x y H Q = (∃ l b xs zs, x = .ref l ∧ y = .ref b ∧ H l = some (.lst xs) ∧ H b = some (.lst zs) ∧ xs.length + zs.length ≤ sizeLine ∧ ∀ p, H p = none → Q (.ref p) (upd H p (.lst (xs ++ zs)))) := rfl
theorem rRep_ap (x : V) (y : V) (H : Hp) (Q : VK) : rRep  x y H Q = (∃ l k xs, x = .ref l ∧ y = .int k ∧ H l = some (.lst xs) ∧ -(2 ^ 63) ≤ k ∧ k < 2 ^ 63 ∧ xs.length * k.toNat ≤ sizeLine ∧
  ∀ p, H p = none → Q (.ref p) (upd H p (.lst (List.replicate k.toNat xs).flatten))) := rfl
theorem tDGet_ap (td ty : TE) (σ : St) (H : Hp) (Q : VK) : tDGet td ty σ H Q = (td σ H fun x H1 => ty σ H1 fun y H2 => ∃ a v, x = .ref a ∧ DGet H2 a y (some v) ∧ Q v H2) := rfl
theorem tDIn_ap (ty td : TE) (σ : St) (H : Hp) (Q : VK) : tDIn ty td σ H Q = (ty σ H fun y H1 => td σ H1 fun x H2 => ∃ a o, x = .ref a ∧ DGet H2 a y o ∧ Q (.bl o.isSome) H2) := rfl
theorem tDNotIn_ap (ty td : TE) (σ : St) (H : Hp) (Q : VK) : tDNotIn ty td σ H Q = (ty σ H fun y H1 => td σ H1 fun x H2 => ∃ a o, x = .ref a ∧ DGet H2 a y o ∧ Q (.bl (!o.isSome)) H2) := rfl
theorem sDPut_ap (td ty tv : TE) (D : Ends) (σ : St) (H : Hp) : sDPut td ty tv D σ H = (tv σ H fun v H1 => td σ H1 fun x H2 => ty σ H2 fun y H3 => ∃ a H4, x = .ref a ∧ DPut H3 a y v H4 ∧ D.nx σ H4) := rfl
theorem sDAug_ap (td ty tv : TE) (rd : V → V → Hp → VK → Prop) (D : Ends) (σ : St) (H : Hp) : sDAug td ty tv rd D σ H = (td σ H fun x H1 => ty σ H1 fun y H2 => ∃ a v, x = .ref a ∧ DGet H2 a y (some v) ∧
  tv σ H2 fun y2 H3 => rd v y2 H3 fun z H4 => ∃ H5, DPut H4 a y z H5 ∧ D.nx σ H5) := rfl
theorem sDDel_ap (td ty : TE) (D : Ends) (σ : St) (H : Hp) : sDDel td ty D σ H = (td σ H fun x H1 => ty σ H1 fun y H2 => ∃ a kvs k, x = .ref a ∧ H2 a = some (.dK kvs) ∧ y = kV k ∧ (valV kvs k).isSome = true ∧ D.nx σ (upd H2 a (.dK (dropK kvs k)))) := rfl
theorem tDNewK_ap (x_0 : St) (H : Hp) (Q : VK) : tDNewK  x_0 H Q = (∀ p, H p = none → Q (.ref p) (upd H p (.dK []))) := rfl
theorem tDNewT_ap (x_0 : St) (H : Hp) (Q : VK) : tDNewT  x_0 H Q = (∀ p, H p = none → Q (.ref p) (upd H p (.dT []))) := rfl
theorem tDisp_ap (trs : List (TE × TE)) (σ : St) (H : Hp) (Q : VK) : tDisp trs σ H Q = (∀ p, H p = none → tPairs trs σ (upd H p (.dK [])) fun ps H2 => H2 p = some (.dK []) ∧ ∃ kvs : List (Key × V), ps = kvs.map (fun kv => (kV kv.1, kv.2)) ∧ kvs.length ≤ 15 ∧ Q (.ref p) (upd H2 p (.dK (mergeK [] kvs)))) := rfl
theorem tDGet1_ap (td ty : TE) (σ : St) (H : Hp) (Q : VK) : tDGet1 td ty σ H Q = (td σ H fun x H1 => ∃ a, x = .ref a ∧ IsD H1 a ∧ ty σ H1 fun y H2 => ∃ o, DGet H2 a y o ∧ Q (o.getD .non) H2) := rfl
theorem tDGet2_ap (td ty tx : TE) (σ : St) (H : Hp) (Q : VK) : tDGet2 td ty tx σ H Q = (td σ H fun x H1 => ∃ a, x = .ref a ∧ IsD H1 a ∧ ty σ H1 fun y H2 => tx σ H2 fun z H3 => ∃ o, DGet H3 a y o ∧ Q (o.getD z) H3) := rfl
theorem tDPop1_ap (td ty : TE) (σ : St) (H : Hp) (Q : VK) : tDPop1 td ty σ H Q = (td σ H fun x H1 => ∃ a, x = .ref a ∧ IsD H1 a ∧ ty σ H1 fun y H2 => ∃ kvs k v, H2 a = some (.dK kvs) ∧ y = kV k ∧ valV kvs k = some v ∧ Q v (upd H2 a (.dK (dropK kvs k)))) := rfl
theorem tDPop2_ap (td ty tx : TE) (σ : St) (H : Hp) (Q : VK) : tDPop2 td ty tx σ H Q = (td σ H fun x H1 => ∃ a, x = .ref a ∧ IsD H1 a ∧ ty σ H1 fun y H2 => tx σ H2 fun z H3 => ∃ kvs k, H3 a = some (.dK kvs) ∧ y = kV k ∧
  (∀ v, valV kvs k = some v → Q v (upd H3 a (.dK (dropK kvs k)))) ∧ (valV kvs k = none → Q z H3)) := rfl
theorem tTrue_ap (x_0 : St) (H : Hp) (Q : (Bool → Hp → Prop)) : tTrue  x_0 H Q = (Q true H) := rfl
theorem iStr_ap (tl : TE) (σ : St) (H : Hp) (R : (It → Hp → Prop)) : iStr tl σ H R = (tl σ H fun x H1 => ∃ z, x = .str z ∧ R (Its (signsV z)) H1) := rfl
theorem rSlS_ap (x : V) (lo : Option Int) (hi : Option Int) (H : Hp) (Q : VK) : rSlS  x lo hi H Q = (∃ z, x = .str z ∧ z.length ≤ sizeLine ∧ Q (.str (Txt.slice z lo hi)) H) := rfl
theorem rJoin_ap (K : PySem.W.Frag) (x : V) (vs : List V) (H : Hp) (Q : VK) : rJoin K x vs H Q = (∃ sep p ys, x = .str sep ∧ vs = [.ref p] ∧ SqL K H p (strsV ys) ∧ (ys.map (·.length)).sum + ys.length * sep.length ≤ 16777216 ∧ Q (.str (Txt.join sep ys)) H) := rfl
theorem rSplit_ap (x : V) (vs : List V) (H : Hp) (Q : VK) : rSplit  x vs H Q = (∃ z y, x = .str z ∧ vs = [.str y] ∧ y.length ≠ 0 ∧ z.length + 2 ≤ sizeLine ∧ (Txt.split z y).length ≤ sizeLine ∧ ∀ p, H p = none → Q (.ref p) (upd H p (.lst (strsV (Txt.split z y))))) := rfl
theorem rIndexS_ap (x : V) (vs : List V) (H : Hp) (Q : VK) : rIndexS  x vs H Q = (∃ z y i rest, x = .str z ∧ vs = [.str y] ∧ Builtin.Str.occurrences z y 0 z.length 1 = i :: rest ∧ Q (.int (i : Nat)) H) := rfl
theorem tMethV_ap (OK : Addr → Prop) (m : Str) (SPV : Addr → Sp) (E : XK) (ta : TE) (t : TA) (σ : St) (H : Hp) (Q : VK) : tMethV OK m SPV E ta t σ H Q = (ta σ H fun x H1 => ∃ a C dx fs, x = .ref a ∧ H1 a = some (.ins C dx fs) ∧ OK C ∧ fs.lookup m = none ∧
  t σ H1 fun vs H2 => SPV C (x :: vs) H2 Q E) := rfl
theorem tDGetK_ap (kvs : SVs) (ty : TE) (σ : St) (H : Hp) (Q : VK) : tDGetK kvs ty σ H Q = (ty σ H fun y H1 => ∃ x v, y = .str x ∧ kvs.lookup x = some v ∧ Q v H1) := rfl
theorem iEnum_ap (K : PySem.W.Frag) (ta : TA) (σ : St) (H : Hp) (R : (It → Hp → Prop)) : iEnum K ta σ H R = (ta σ H fun vs H1 => ∃ a, vs = [.ref a] ∧ (∃ xs, SqL K H1 a xs) ∧ R (Ite K a) H1) := rfl
theorem iZip_ap (K : PySem.W.Frag) (ta : TA) (σ : St) (H : Hp) (R : (It → Hp → Prop)) : iZip K ta σ H R = (ta σ H fun vs H1 => ∃ a b, vs = [.ref a, .ref b] ∧ (∃ xs, SqL K H1 a xs) ∧ (∃ ys, SqL K H1 b ys) ∧ R (Itz K a b) H1) := rfl
theorem iRev_ap (K : PySem.W.Frag) (ta : TA) (σ : St) (H : Hp) (R : (It → Hp → Prop)) : iRev K ta σ H R = (ta σ H fun vs H1 => ∃ a xs, vs = [.ref a] ∧ SqL K H1 a xs ∧ R (Itv K a xs.length) H1) := rfl
theorem rInsert_ap (x : V) (vs : List V) (H : Hp) (Q : VK) : rInsert  x vs H Q = (∃ l xs i y, x = .ref l ∧ vs = [.int i, y] ∧ H l = some (.lst xs) ∧ 0 ≤ i ∧ i < 2 ^ 62 ∧ i ≤ (xs.length : Int) ∧ xs.length < sizeLine ∧ Q .non (upd H l (.lst (xs.take i.toNat ++ y :: xs.drop i.toNat)))) := rfl
theorem rNeL_ap (K : PySem.W.Frag) (x : V) (y : V) (H : Hp) (Q : VK) : rNeL K x y H Q = (∃ p q b, x = .ref p ∧ y = .ref q ∧ EqH K H 8 (.ref p) (.ref q) b ∧ Q (.bl (!b)) H) := rfl
theorem rEqL_ap (K : PySem.W.Frag) (x : V) (y : V) (H : Hp) (Q : VK) : rEqL K x y H Q = (∃ p q b, x = .ref p ∧ y = .ref q ∧ EqH K H 8 (.ref p) (.ref q) b ∧ Q (.bl b) H) := rfl
theorem tJ0_ap (x_0 : St) (H : Hp) (Q : (Hp → Prop)) : tJ0  x_0 H Q = (Q H) := rfl
theorem tJI_ap (te : TE) (t : TJ) (σ : St) (H : Hp) (Q : (Hp → Prop)) : tJI te t σ H Q = (te σ H fun v H1 => ∃ i, v = .int i ∧ i.natAbs.log2 < 1920 ∧ t σ H1 Q) := rfl
theorem tJS_ap (te : TE) (t : TJ) (σ : St) (H : Hp) (Q : (Hp → Prop)) : tJS te t σ H Q = (te σ H fun v H1 => ∃ x, v = .str x ∧ x.length ≤ 1000 ∧ t σ H1 Q) := rfl
theorem tJR_ap (te : TE) (t : TJ) (σ : St) (H : Hp) (Q : (Hp → Prop)) : tJR te t σ H Q = (te σ H fun v H1 => ∃ x, v = .str x ∧ x.length ≤ 1000 ∧ (∀ c ∈ x.cps.toList, c < 16 ^ 8) ∧ t σ H1 Q) := rfl
theorem tJoined_ap (t : TJ) (σ : St) (H : Hp) (Q : VK) : tJoined t σ H Q = (t σ H fun H1 => ∀ y : Str, Q (.str y) H1) := rfl
theorem tXInit_ap (K : PySem.W.Frag) (t : TA) (σ : St) (H : Hp) (Q : VK) : tXInit K t σ H Q = (t σ H fun vs H1 => ∃ x C od v, vs = [.ref x, v] ∧ H1 x = some (.ext (XF x C od)) ∧ XCls K C ∧ Q .non H1) := rfl
theorem tMakeX_ap (C : Addr) (sp : Sp) (t : TA) (σ : St) (H : Hp) (Q : VK) : tMakeX C sp t σ H Q = (t σ H fun vs H1 => vs.length ≤ sizeLine ∧ ∀ x, H1 x = none → sp (.ref x :: vs) (upd H1 x (.ext (XF x C none))) (fun v H2 => v = .non ∧ Q (.ref x) H2) (fun _ _ _ => False)) := rfl
theorem sFldX0_ap (K : PySem.W.Frag) (ta tv : TE) (f : Str) (D : Ends) (σ : St) (H : Hp) : sFldX0 K ta tv f D σ H = (tv σ H fun y H1 => ta σ H1 fun x H2 => ∃ a C, x = .ref a ∧ H2 a = some (.ext (XF a C none)) ∧ XCls K C ∧ NoAttr K C f ∧
  ∀ dx, H2 dx = none → dx ≠ a → D.nx σ (upd (upd H2 a (.ext (XF a C (some dx)))) dx (.ext (XD dx [(f, y)])))) := rfl
theorem sFldX1_ap (K : PySem.W.Frag) (ta tv : TE) (f : Str) (D : Ends) (σ : St) (H : Hp) : sFldX1 K ta tv f D σ H = (tv σ H fun y H1 => ta σ H1 fun x H2 => ∃ a C dx fs, x = .ref a ∧ H2 a = some (.ext (XF a C (some dx))) ∧ H2 dx = some (.ext (XD dx fs)) ∧ XCls K C ∧ NoAttr K C f ∧ fs.length < 1000 ∧
  D.nx σ (upd H2 dx (.ext (XD dx (putF f y fs))))) := rfl
theorem tFldX_ap (K : PySem.W.Frag) (ta : TE) (f : Str) (σ : St) (H : Hp) (Q : VK) : tFldX K ta f σ H Q = (ta σ H fun x H1 => ∃ a C dx fs v, x = .ref a ∧ H1 a = some (.ext (XA a C (some dx))) ∧ H1 dx = some (.ext (XD dx fs)) ∧ XCls K C ∧ NoAttr K C f ∧ fs.lookup f = some v ∧ Q v H1) := rfl
theorem tCallX_ap (sp : Sp) (dvs : List V) (E : St → XK) (t : TA) (σ : St) (H : Hp) (Q : VK) : tCallX sp dvs E t σ H Q = (t σ H fun vs H1 => sp (vs ++ dvs) H1 Q (E σ)) := rfl
theorem tMethX_ap (C : Addr) (m : Str) (sp : Sp) (dvs : List V) (E : St → XK) (ta : TE) (t : TA) (σ : St) (H : Hp) (Q : VK) : tMethX C m sp dvs E ta t σ H Q = (ta σ H fun x H1 => ∃ a dx fs, x = .ref a ∧ H1 a = some (.ins C dx fs) ∧ fs.lookup m = none ∧
  t σ H1 fun vs H2 => sp (x :: (vs ++ dvs)) H2 Q (E σ)) := rfl
theorem sRaise_ap (K : PySem.W.Frag) (E : St → XK) (te : TE) (D : Ends) (σ : St) (H : Hp) : sRaise K E te D σ H = (te σ H fun v H1 => ∃ x C od, v = .ref x ∧ H1 x = some (.ext (XF x C od)) ∧ XCls K C ∧ E σ (.ref C) od (upd H1 x (.ext (XA x C od)))) := rfl
theorem iRngD_ap (ta : TA) (σ : St) (H : Hp) (R : (It → Hp → Prop)) : iRngD ta σ H R = (ta σ H fun vs H1 => ∃ i j : Int, vs = [.int i, .int j, .int (-1)] ∧ (-1073741824 ≤ i ∧ i < 1073741824 ∧ -1073741824 ≤ j ∧ j < 1073741824) ∧ R (Itd i (i - j).toNat) H1) := rfl
theorem tListRev_ap (K : PySem.W.Frag) (ta : TA) (σ : St) (H : Hp) (Q : VK) : tListRev K ta σ H Q = (ta σ H fun vs H1 => ∃ a xs, vs = [.ref a] ∧ SqL K H1 a xs ∧ ∀ l, H1 l = none → Q (.ref l) (upd H1 l (.lst xs.reverse))) := rfl
theorem tMinD_ap (K : PySem.W.Frag) (ta : TA) (td : TE) (σ : St) (H : Hp) (Q : VK) : tMinD K ta td σ H Q = (ta σ H fun vs H1 => td σ H1 fun y H2 => ∃ l ks, vs = [.ref l] ∧ SqL K H2 l (List.map V.int ks) ∧ Q (match ks.min? with | some m => .int m | none => y) H2) := rfl
def ForW (J : It) (g : TG) (tb : TS) (D : Ends) (σ : St) (H : Hp) : Prop := ∃ W : Nat → Nat → St → Hp → Prop, (∃ m, W 0 m σ H) ∧ ∀ i m σ H, W i m σ H →
  (J.stop i H ∧ D.nx σ H) ∨ (J.go i H ∧ ∃ N : St → Hp → Prop, (∀ σ' H', N σ' H' → ∃ m', m' < m ∧ W (i + 1) m' σ' H') ∧ ∀ x H', J.yld i H x H' → g x σ H' fun σ2 H2 => tb { D with nx := N, ct := N, bk := D.nx } σ2 H2)
theorem tFor_ap (wi : TI) (g : TG) (tb : TS) (D : Ends) (σ : St) (H : Hp) : tFor wi g tb D σ H = wi σ H fun J H1 => ForW J g tb D σ H1 := rfl
def CompR (J : It) (g : TG) (tc : TT) (te : TE) (σb : St) (Q : VK) (H : Hp) : Prop := ∃ W : Nat → Nat → List V → Hp → Prop, (∃ m, W 0 m [] H) ∧ CompW J g tc te σb Q W
theorem tFld_ap (K : PySem.W.Frag) (ta : TE) (f : Str) (σ : St) (H : Hp) (Q : VK) : tFld K ta f σ H Q = (ta σ H fun x H1 => ∃ a v, x = .ref a ∧ FldAt K H1 a f v ∧ Q v H1) := by
  unfold tFld FldAt
  congr 1
  funext x H1
  apply propext
  constructor
  · rintro ⟨a, C, dx, fs, v, h1, h2, h3, h4, h5, h6⟩; exact ⟨a, v, h1, ⟨C, dx, fs, h2, h3, h4, h5⟩, h6⟩
  · rintro ⟨a, v, h1, ⟨C, dx, fs, h2, h3, h4, h5⟩, h6⟩; exact ⟨a, C, dx, fs, v, h1, h2, h3, h4, h5, h6⟩
theorem tCompX_ap (wi : TI) (g : TG) (tc : TT) (te : XK → TE) (sel : List (Option Nat)) (E : St → XK) (σ : St) (H : Hp) (Q : VK) : tCompX wi g tc te sel E σ H Q = wi σ H fun J H1 => CompR J g tc (te (E σ)) (blk sel σ) Q H1 := rfl
theorem tComp_ap (wi : TI) (g : TG) (tc : TT) (te : TE) (sel : List (Option Nat)) (σ : St) (H : Hp) (Q : VK) : tComp wi g tc te sel σ H Q = wi σ H fun J H1 => CompR J g tc te (blk sel σ) Q H1 := rfl
theorem iRng1_ap (ta : TA) (σ : St) (H : Hp) (R : It → Hp → Prop) : iRng1 ta σ H R = (ta σ H fun vs H1 => ∃ j : Int, vs = [.int j] ∧ -4611686018427387904 ≤ j ∧ j < 4611686018427387904 ∧ R (Itr 0 j.toNat) H1) := rfl
theorem iRng2_ap (ta : TA) (σ : St) (H : Hp) (R : It → Hp → Prop) : iRng2 ta σ H R = (ta σ H fun vs H1 => ∃ i j : Int, vs = [.int i, .int j] ∧ (-4611686018427387904 ≤ i ∧ i < 4611686018427387904 ∧ -4611686018427387904 ≤ j ∧ j < 4611686018427387904) ∧ R (Itr i (j - i).toNat) H1) := rfl
theorem sel_map (sel : List (Option Nat)) (σ : St) : blk sel σ = sel.map fun o => o.bind fun j => (σ[j]?).join := rfl
theorem tIfS_by {c : TT} {t u : TS} {D : Ends} {σ : St} {H : Hp} (b : Bool) (hc : ∀ Q : Bool → Hp → Prop, Q b H → c σ H Q) (h1 : b = true → t D σ H) (h2 : b = false → u D σ H) : tIfS c t u D σ H := by
  refine hc _ ?_
  cases b with
  | true => exact h1 rfl
  | false => exact h2 rfl
theorem tIfS_any {c : TT} {t u : TS} {D : Ends} {σ : St} {H : Hp} (R : Bool → Hp → Prop) (hc : ∀ Q : Bool → Hp → Prop, (∀ b H', R b H' → Q b H') → c σ H Q) (h1 : ∀ H', R true H' → t D σ H') (h2 : ∀ H', R false H' → u D σ H') : tIfS c t u D σ H := by
  refine hc _ fun b H' r => ?_
  cases b with
  | true => exact h1 H' r
  | false => exact h2 H' r
theorem tS_any {t : TS} {D : Ends} {σ : St} {H : Hp} (R : St → Hp → Prop) (h : ∀ D' : Ends, (∀ σ H, R σ H → D'.nx σ H) → D'.rt = D.rt → D'.bk = D.bk → D'.ct = D.ct → t D' σ H) (hR : ∀ σ H, R σ H → D.nx σ H) : t D σ H := h D hR rfl rfl rfl
theorem tRet_by {te : TE} {D : Ends} {σ : St} {H : Hp} (v : V) (hc : ∀ Q : VK, Q v H → te σ H Q) (h : D.rt v H) : tRet te D σ H := hc _ h
theorem len_app (x y : Str) : (x ++ y).length = x.length + y.length := by
  show (x.cps ++ y.cps).size = _
  rw [Array.size_append]; rfl
theorem ForW.range {lo : Int} {n : Nat} {g : TG} {tb : TS} {D : Ends} {σ : St} {H : Hp} (Pv : Nat → St → Hp → Prop) (h0 : Pv 0 σ H)
    (hs : ∀ i σ H, i < n → Pv i σ H → g (.int (lo + i)) σ H fun σ2 H2 => tb { D with nx := Pv (i + 1), ct := Pv (i + 1), bk := D.nx } σ2 H2) (hd : ∀ σ H, Pv n σ H → D.nx σ H) : ForW (Itr lo n) g tb D σ H := for_range Pv h0 hs hd
theorem ForW.list {K : PySem.W.Frag} {a : Addr} {xs : List V} {g : TG} {tb : TS} {D : Ends} {σ : St} {H : Hp} (Pv : Nat → St → Hp → Prop) (h0 : Pv 0 σ H) (hl : ∀ i σ H, i ≤ xs.length → Pv i σ H → SqL K H a xs)
    (hs : ∀ i x σ H, xs[i]? = some x → Pv i σ H → g x σ H fun σ2 H2 => tb { D with nx := Pv (i + 1), ct := Pv (i + 1), bk := D.nx } σ2 H2) (hd : ∀ σ H, Pv xs.length σ H → D.nx σ H) : ForW (Itl K a) g tb D σ H := for_list Pv h0 hl hs hd
theorem ForW.its {xs : List V} {g : TG} {tb : TS} {D : Ends} {σ : St} {H : Hp} (Pv : Nat → St → Hp → Prop) (h0 : Pv 0 σ H)
    (hs : ∀ i x σ H, xs[i]? = some x → Pv i σ H → g x σ H fun σ2 H2 => tb { D with nx := Pv (i + 1), ct := Pv (i + 1), bk := D.nx } σ2 H2) (hd : ∀ σ H, Pv xs.length σ H → D.nx σ H) : ForW (Its xs) g tb D σ H := for_its Pv h0 hs hd
theorem CompR.list {K : PySem.W.Frag} {a : Addr} {xs : List V} {g : TG} {tc : TT} {te : TE} {σb : St} {Q : VK} {H : Hp} (Pv : Nat → List V → Hp → Prop) (hz : xs.length ≤ sizeLine) (h0 : Pv 0 [] H) (hl : ∀ i ys H, i ≤ xs.length → Pv i ys H → SqL K H a xs ∧ ys.length ≤ i)
    (hs : ∀ i x ys H, xs[i]? = some x → Pv i ys H → CompTurn Pv g tc te σb i x ys H) (hd : ∀ ys H, Pv xs.length ys H → ∀ p, H p = none → Q (.ref p) (upd H p (.lst ys))) : CompR (Itl K a) g tc te σb Q H := comp_list Pv hz h0 hl hs hd
theorem CompR.its {xs : List V} {g : TG} {tc : TT} {te : TE} {σb : St} {Q : VK} {H : Hp} (Pv : Nat → List V → Hp → Prop) (hz : xs.length ≤ sizeLine) (h0 : Pv 0 [] H) (hl : ∀ i ys H, i ≤ xs.length → Pv i ys H → ys.length ≤ i)
    (hs : ∀ i x ys H, xs[i]? = some x → Pv i ys H → CompTurn Pv g tc te σb i x ys H) (hd : ∀ ys H, Pv xs.length ys H → ∀ p, H p = none → Q (.ref p) (upd H p (.lst ys))) : CompR (Its xs) g tc te σb Q H := comp_its Pv hz h0 hl hs hd
theorem CompR.range {lo : Int} {n : Nat} {g : TG} {tc : TT} {te : TE} {σb : St} {Q : VK} {H : Hp} (Pv : Nat → List V → Hp → Prop) (hz : n ≤ sizeLine) (h0 : Pv 0 [] H) (hl : ∀ i ys H, i ≤ n → Pv i ys H → ys.length ≤ i)
    (hs : ∀ i ys H, i < n → Pv i ys H → CompTurn Pv g tc te σb i (.int (lo + i)) ys H) (hd : ∀ ys H, Pv n ys H → ∀ p, H p = none → Q (.ref p) (upd H p (.lst ys))) : CompR (Itr lo n) g tc te σb Q H := comp_range Pv hz h0 hl hs hd
theorem take_map_snoc {α β : Type} {xs : List α} {i : Nat} {x : α} (f : α → β) (h : xs[i]? = some x) : (xs.take (i + 1)).map f = (xs.take i).map f ++ [f x] := by
  rw [List.take_add_one, h, List.map_append]; rfl
theorem CompR.its_map {xs : List V} {g : TG} {te : TE} {σb : St} {Q : VK} {H : Hp} (f : V → V) (hz : xs.length ≤ sizeLine) (hs : ∀ (i : Nat) (x : V) (N : V → Hp → Prop), xs[i]? = some x → N (f x) H → g x σb H fun σ2 H2 => Sub σb σ2 ∧ te σ2 H2 N)
    (hd : ∀ p, H p = none → Q (.ref p) (upd H p (.lst (xs.map f)))) : CompR (Its xs) g tTrue te σb Q H := by
  refine CompR.its (fun i ys H' => H' = H ∧ ys = (xs.take i).map f) hz ⟨rfl, rfl⟩ (fun i ys H' hi ⟨_, e⟩ => ?_) (fun i x ys H' hx ⟨e1, e2⟩ N hN => ?_) (fun ys H' ⟨e1, e2⟩ p hp => ?_)
  · rw [e, List.length_map, List.length_take]; omega
  · subst e1
    exact hs i x (fun y H4 => N (ys ++ [y]) H4) hx (hN _ _ ⟨rfl, by rw [e2, take_map_snoc f hx]⟩)
  · subst e1
    rw [e2, List.take_length]
    exact hd p hp
theorem CompR.list_mk {K : PySem.W.Frag} {a : Addr} {xs : List V} {g : TG} {te : TE} {σb : St} {Q : VK} {H : Hp} (f : V → HO) (hl : SqL K H a xs) (hz : xs.length ≤ sizeLine) (hn : ∀ x, noT (f x) = true)
    (hs : ∀ (i : Nat) (x : V) (H1 : Hp) (N : V → Hp → Prop), xs[i]? = some x → Same H H1 → (NoT H → NoT H1) → (∀ q, H1 q = none → N (.ref q) (upd H1 q (f x))) → g x σb H1 fun σ2 H2 => Sub σb σ2 ∧ te σ2 H2 N)
    (hd : ∀ (qs : List Addr) (H1 : Hp), Same H H1 → (NoT H → NoT H1) → qs.length = xs.length → (∀ (j : Nat) (q : Addr) (x : V), qs[j]? = some q → xs[j]? = some x → H1 q = some (f x) ∧ H q = none) → ∀ p, H1 p = none → Q (.ref p) (upd H1 p (.lst (qs.map V.ref)))) : CompR (Itl K a) g tTrue te σb Q H := by
  refine CompR.list (fun i ys H' => ∃ qs : List Addr, ys = qs.map V.ref ∧ qs.length = i ∧ Same H H' ∧ (NoT H → NoT H') ∧ ∀ (j : Nat) (q : Addr) (x : V), qs[j]? = some q → xs[j]? = some x → H' q = some (f x) ∧ H q = none) hz
    ⟨[], rfl, rfl, Same.refl H, id, fun j q x h _ => by simp at h⟩ ?_ ?_ ?_
  · rintro i ys H' hi ⟨qs, e, e2, sm, _, _⟩
    exact ⟨hl.same sm, by rw [e, List.length_map]; omega⟩
  · rintro i x ys H' hx ⟨qs, e1, e2, sm, nt, al⟩ N hN
    refine hs i x H' (fun y H4 => N (ys ++ [y]) H4) hx sm nt fun q hq => hN _ _ ⟨qs ++ [q], by rw [e1, List.map_append]; rfl, by rw [List.length_append, e2]; rfl, sm.updN (sm.free hq), fun n => (nt n).upd (hn x), fun j q' x' h1 h2 => ?_⟩
    by_cases hj : j < qs.length
    · rw [List.getElem?_append_left hj] at h1
      obtain ⟨z1, z2⟩ := al j q' x' h1 h2
      exact ⟨by rw [upd_ne (ne_of_none z1 hq)]; exact z1, z2⟩
    · rw [List.getElem?_append_right (by omega)] at h1
      have hj0 : j - qs.length = 0 := by
        cases hh : j - qs.length with
        | zero => rfl
        | succ n => rw [hh] at h1; simp at h1
      rw [hj0] at h1
      have e3 : q = q' := by simpa using h1
      subst e3
      have e4 : j = i := by omega
      subst e4
      rw [hx] at h2
      cases h2
      exact ⟨upd_same, sm.free hq⟩
  · rintro ys H' ⟨qs, e1, e2, sm, nt, al⟩ p hp
    subst e1
    exact hd qs H' sm nt e2 al p hp
theorem ForW.of {J : It} {n : Nat} {g : TG} {tb : TS} {D : Ends} {σ : St} {H : Hp} (Pv : Nat → St → Hp → Prop) (h0 : Pv 0 σ H) (hgo : ∀ i σ H, i < n → Pv i σ H → J.go i H) (hst : ∀ σ H, Pv n σ H → J.stop n H)
    (hs : ∀ i σ H x H', i < n → Pv i σ H → J.yld i H x H' → g x σ H' fun σ2 H2 => tb { D with nx := Pv (i + 1), ct := Pv (i + 1), bk := D.nx } σ2 H2) (hd : ∀ σ H, Pv n σ H → D.nx σ H) : ForW J g tb D σ H := by
  refine ⟨fun i m σ H => m = n - i ∧ i ≤ n ∧ Pv i σ H, ⟨n, by simp, Nat.zero_le _, h0⟩, ?_⟩
  rintro i m σ H ⟨rfl, hi, p⟩
  by_cases hlt : i < n
  · exact .inr ⟨hgo i σ H hlt p, Pv (i + 1), fun σ' H' p' => ⟨n - (i + 1), by omega, rfl, hlt, p'⟩, fun x H' y => hs i σ H x H' hlt p y⟩
  · have e : i = n := by omega
    subst e
    exact .inl ⟨hst σ H p, hd σ H p⟩
theorem CompR.of {J : It} {n : Nat} {g : TG} {tc : TT} {te : TE} {σb : St} {Q : VK} {H : Hp} (Pv : Nat → List V → Hp → Prop) (hz : n ≤ sizeLine) (h0 : Pv 0 [] H) (hgo : ∀ i ys H, i < n → Pv i ys H → J.go i H) (hst : ∀ ys H, Pv n ys H → J.stop n H) (hl : ∀ i ys H, i < n → Pv i ys H → ys.length ≤ i)
    (hs : ∀ i ys H x H', i < n → Pv i ys H → J.yld i H x H' → CompTurn Pv g tc te σb i x ys H') (hd : ∀ ys H, Pv n ys H → ∀ p, H p = none → Q (.ref p) (upd H p (.lst ys))) : CompR J g tc te σb Q H := by
  refine ⟨fun i m ys H => m = n - i ∧ i ≤ n ∧ Pv i ys H, ⟨n, by simp, Nat.zero_le _, h0⟩, ?_⟩
  rintro i m ys H ⟨rfl, hi, p⟩
  by_cases hlt : i < n
  · have hyl := hl i ys H hlt p
    refine .inr ⟨hgo i ys H hlt p, by omega, fun x H' y => ?_⟩
    exact hs i ys H x H' hlt p y (fun ys' H' => ∃ m', m' < n - i ∧ m' = n - (i + 1) ∧ i + 1 ≤ n ∧ Pv (i + 1) ys' H') fun ys' H' r => ⟨n - (i + 1), by omega, rfl, hlt, r⟩
  · have e : i = n := by omega
    subst e
    exact .inl ⟨hst ys H p, hd ys H p⟩
section
variable {K : PySem.W.Frag} {a b : Addr} {xs ys : List V} {g : TG} {tb : TS} {D : Ends} {σ σb : St} {H : Hp} {tc : TT} {te : TE} {Q : VK}
theorem ForW.enum (Pv : Nat → St → Hp → Prop) (h0 : Pv 0 σ H) (hl : ∀ i σ H, i ≤ xs.length → Pv i σ H → SqL K H a xs)
    (hs : ∀ i x σ H p, xs[i]? = some x → Pv i σ H → H p = none → g (.ref p) σ (upd H p (.tup [.int i, x])) fun σ2 H2 => tb { D with nx := Pv (i + 1), ct := Pv (i + 1), bk := D.nx } σ2 H2) (hd : ∀ σ H, Pv xs.length σ H → D.nx σ H) : ForW (Ite K a) g tb D σ H := by
  refine ForW.of (n := xs.length) Pv h0 (fun i σ H hi p => ⟨xs, xs[i], hl i σ H (Nat.le_of_lt hi) p, by simp [hi]⟩) (fun σ H p => ⟨xs, hl _ σ H (Nat.le_refl _) p, Nat.le_refl _⟩) (fun i σ H v H' hi p y => ?_) hd
  obtain ⟨q, x, hq, rfl, hx, rfl⟩ := y
  exact hs i x σ H q (hx xs (hl i σ H (Nat.le_of_lt hi) p)) p hq
theorem ForW.zip (Pv : Nat → St → Hp → Prop) (h0 : Pv 0 σ H) (hl : ∀ i σ H, i ≤ xs.length → Pv i σ H → SqL K H a xs ∧ SqL K H b ys) (n : Nat) (hn : n = min xs.length ys.length)
    (hs : ∀ i x y σ H p, xs[i]? = some x → ys[i]? = some y → Pv i σ H → H p = none → g (.ref p) σ (upd H p (.tup [x, y])) fun σ2 H2 => tb { D with nx := Pv (i + 1), ct := Pv (i + 1), bk := D.nx } σ2 H2) (hd : ∀ σ H, Pv n σ H → D.nx σ H) : ForW (Itz K a b) g tb D σ H := by
  subst hn
  refine ForW.of (n := min xs.length ys.length) Pv h0 (fun i σ H hi p => ?_) (fun σ H p => ?_) (fun i σ H v H' hi p y => ?_) hd
  · obtain ⟨z1, z2⟩ := hl i σ H (by omega) p
    exact ⟨xs, ys, xs[i], ys[i], z1, z2, by rw [List.getElem?_eq_getElem (by omega)], by rw [List.getElem?_eq_getElem (by omega)]⟩
  · obtain ⟨z1, z2⟩ := hl _ σ H (by omega) p
    exact ⟨xs, ys, z1, z2, by omega⟩
  · obtain ⟨q, x, y, hq, rfl, hx, hy, rfl⟩ := y
    obtain ⟨z1, z2⟩ := hl i σ H (by omega) p
    exact hs i x y σ H q (hx xs z1) (hy ys z2) p hq
theorem CompR.enum (Pv : Nat → List V → Hp → Prop) (hz : xs.length ≤ sizeLine) (h0 : Pv 0 [] H) (hl : ∀ i ys H, i ≤ xs.length → Pv i ys H → SqL K H a xs ∧ ys.length ≤ i)
    (hs : ∀ i x ys H p, xs[i]? = some x → Pv i ys H → H p = none → CompTurn Pv g tc te σb i (.ref p) ys (upd H p (.tup [.int i, x]))) (hd : ∀ ys H, Pv xs.length ys H → ∀ p, H p = none → Q (.ref p) (upd H p (.lst ys))) : CompR (Ite K a) g tc te σb Q H := by
  refine CompR.of (n := xs.length) Pv hz h0 (fun i ys H hi p => ⟨xs, xs[i], (hl i ys H (Nat.le_of_lt hi) p).1, by simp [hi]⟩) (fun ys H p => ⟨xs, (hl _ ys H (Nat.le_refl _) p).1, Nat.le_refl _⟩) (fun i ys H hi p => (hl i ys H (Nat.le_of_lt hi) p).2) (fun i zs H v H' hi p y => ?_) hd
  obtain ⟨q, x, hq, rfl, hx, rfl⟩ := y
  exact hs i x zs H q (hx xs (hl i zs H (Nat.le_of_lt hi) p).1) p hq
theorem gTup2_at {i j : Nat} {p : Addr} {x y : V} {R : St → Hp → Prop} (h : SqT K H p [x, y]) (q : R ((σ.set i (some x)).set j (some y)) H) : gTup K 2 (gCons (gName i) (gCons (gName j) gNil)) (.ref p) σ H R :=
  ⟨p, _, rfl, h, rfl, x, _, rfl, y, _, rfl, rfl, q⟩
theorem gTup2_new {i j : Nat} {p : Addr} {x y : V} {R : St → Hp → Prop} (q : R ((σ.set i (some x)).set j (some y)) (upd H p (.tup [x, y]))) : gTup K 2 (gCons (gName i) (gCons (gName j) gNil)) (.ref p) σ (upd H p (.tup [x, y])) R :=
  gTup2_at (.inl (.inl upd_same)) q
end
theorem Sub.name2 {r : St} {v w : Option V} : Sub (none :: none :: r) (v :: w :: r) := by
  refine ⟨rfl, fun i u h => ?_⟩
  match i with
  | 0 => cases h
  | 1 => cases h
  | i + 2 => exact h
theorem CompR.list_zs {K : PySem.W.Frag} {a : Addr} {xs zs : List V} {g : TG} {te : TE} {σb : St} {Q : VK} {H : Hp} (hl : SqL K H a xs) (hz : xs.length ≤ sizeLine) (he : zs.length = xs.length)
    (hs : ∀ (i : Nat) (x z : V) (N : V → Hp → Prop), xs[i]? = some x → zs[i]? = some z → N z H → g x σb H fun σ2 H2 => Sub σb σ2 ∧ te σ2 H2 N) (hd : ∀ p, H p = none → Q (.ref p) (upd H p (.lst zs))) : CompR (Itl K a) g tTrue te σb Q H := by
  refine CompR.list (fun i ys H' => H' = H ∧ ys = zs.take i) hz ⟨rfl, rfl⟩ (fun i ys H' hi ⟨e0, e⟩ => ?_) (fun i x ys H' hx ⟨e1, e2⟩ N hN => ?_) (fun ys H' ⟨e1, e2⟩ p hp => ?_)
  · subst e0
    exact ⟨hl, by rw [e, List.length_take]; omega⟩
  · subst e1
    have hi : i < zs.length := by rw [he]; exact (List.getElem?_eq_some_iff.mp hx).1
    have hz' : zs[i]? = some zs[i] := List.getElem?_eq_getElem hi
    exact hs i x zs[i] (fun y H4 => N (ys ++ [y]) H4) hx hz' (hN _ _ ⟨rfl, by rw [e2, List.take_add_one, hz']; rfl⟩)
  · subst e1
    rw [e2, ← he, List.take_length]
    exact hd p hp
theorem Sub.name {r : St} {v : Option V} : Sub (none :: r) (v :: r) := by
  refine ⟨rfl, fun i w h => ?_⟩
  cases i with
  | zero => cases h
  | succ i => exact h
end L2
local macro_rules | `(tactic| walk_at "RD") => `(tactic| ((try dsimp only [L2.cxOf, L2.Cx.nox, L2.Cx.wish, L2.Cx.block, L2.Cx.tr, L2.Cx.hn]); (try simp only [L2.tVar_ap, L2.tC_ap, L2.tAdd_ap, L2.tSub_ap, L2.tMul_ap, L2.tCmp_ap, L2.tIsN_ap, L2.tNotN_ap, L2.tB_ap, L2.tAnd_ap, L2.tOr_ap, L2.tNot_ap, L2.tAndV_ap, L2.tOrV_ap, L2.tNotV_ap, L2.tIf_ap, L2.tNext_ap, L2.tSeq_ap, L2.tBreak_ap, L2.tCont_ap, L2.tDrop_ap, L2.tRet_ap, L2.tRetN_ap, L2.tNever_ap, L2.gName_ap, L2.gNil_ap, L2.gCons_ap, L2.gTup_ap, L2.gSub_ap, L2.tAsg_ap, L2.tPar_ap, L2.tAug_ap, L2.tAugS_ap, L2.iList_ap, L2.iTup_ap, L2.tOp_ap, L2.tUn_ap, L2.rI_ap, L2.rI0_ap, L2.rU_ap, L2.rEq_ap, L2.rNe_ap, L2.tTest_ap, L2.tChain_ap, L2.tCon_ap, L2.sFld_ap, L2.sFldAug_ap, L2.rAdd_ap, L2.rSub_ap, L2.tNil_ap, L2.tCons_ap, L2.tTup_ap, L2.tLst_ap, L2.tCall_ap, L2.tMeth_ap, L2.tMake_ap, L2.tCallK_ap, L2.tCB_ap, L2.tNoPart_ap, L2.tPart_ap, L2.tSl_ap, L2.rSlT_ap, L2.rLtT_ap, L2.rCatT_ap, L2.rIxL_ap, L2.rIxT_ap, L2.rIxS_ap, L2.rIx_ap, L2.rSetL_ap, L2.rSlL_ap, L2.rIn_ap, L2.tBM0_ap, L2.tBM_ap, L2.rAppend_ap, L2.rExtend_ap, L2.rPop_ap, L2.rPopAt_ap, L2.rReverse_ap, L2.rClear_ap, L2.rCat_ap, L2.rRep_ap, L2.tDGet_ap, L2.tDIn_ap, L2.tDNotIn_ap, L2.sDPut_ap, L2.sDAug_ap, L2.sDDel_ap, L2.tDNewK_ap, L2.tDNewT_ap, L2.tDisp_ap, L2.tDGet1_ap, L2.tDGet2_ap, L2.tDPop1_ap, L2.tDPop2_ap, L2.tTrue_ap, L2.iStr_ap, L2.rSlS_ap, L2.rJoin_ap, L2.rSplit_ap, L2.rIndexS_ap, L2.tMethV_ap, L2.tDGetK_ap, L2.iEnum_ap, L2.iZip_ap, L2.iRev_ap, L2.rInsert_ap, L2.rNeL_ap, L2.rEqL_ap, L2.tJ0_ap, L2.tJI_ap, L2.tJS_ap, L2.tJR_ap, L2.tJoined_ap, L2.tXInit_ap, L2.tMakeX_ap, L2.sFldX0_ap, L2.sFldX1_ap, L2.tFldX_ap, L2.tCallX_ap, L2.tMethX_ap, L2.sRaise_ap, L2.iRngD_ap, L2.tListRev_ap, L2.tMinD_ap, L2.tFor_ap, L2.tComp_ap, L2.iRng1_ap, L2.iRng2_ap, L2.tFld_ap, L2.sTry_ap, L2.eHan_ap, L2.tCompX_ap, L2.gone_nx, L2.gone_rt, L2.start, L2.sel_map, List.map_cons, List.map_nil, Option.bind_none, Option.bind_some, Option.join_some, Option.join_none, List.length_cons, List.length_nil, Nat.reduceAdd, Nat.reduceSub, Nat.zero_add, List.replicate, List.cons_append, List.nil_append, List.append_nil, List.set_cons_zero, List.set_cons_succ, List.getElem?_cons_zero, List.getElem?_cons_succ, Option.some.injEq, L2.V.int.injEq, L2.V.bl.injEq, L2.V.str.injEq, L2.V.ref.injEq, L2.V.ty.injEq, exists_eq_left', exists_eq_left, exists_and_left, List.cons.injEq, and_true, true_and, and_assoc, Int.zero_add, reduceCtorEq, false_and, exists_false, and_false, ite_true, ite_false, if_true, if_false, Bool.false_eq_true, L2.scal, L2.tyV, false_or, or_false, Bool.not_true, Bool.not_false, decide_true, decide_false])))
namespace My
open PySem L2
def top (i : Nat) : Stmt := PySem.Challenge.pw_lampway_k06_a_crossing_refused.main.body.getD i (.Pass ⟨0, 0, 0, 0⟩)
abbrev s_words : Stmt := top 10
theorem sc_words : FnScope ["text"] ["text"] (defScope s_words) := ⟨rfl, rfl, rfl, by decide +kernel, rfl, by decide +kernel, by decide +kernel⟩
abbrev s_is_made_of : Stmt := top 11
theorem sc_is_made_of : FnScope ["word", "signs", "most"] ["word", "signs", "most"] (defScope s_is_made_of) := ⟨rfl, rfl, rfl, by decide +kernel, rfl, by decide +kernel, by decide +kernel⟩
abbrev s_is_number : Stmt := top 12
theorem sc_is_number : FnScope ["word", "most_figures"] ["word", "most_figures"] (defScope s_is_number) := ⟨rfl, rfl, rfl, by decide +kernel, rfl, by decide +kernel, by decide +kernel⟩
abbrev s_figured : Stmt := top 13
theorem sc_figured : FnScope ["word", "low", "high", "number"] ["word", "low", "high"] (defScope s_figured) := ⟨rfl, rfl, rfl, by decide +kernel, rfl, by decide +kernel, by decide +kernel⟩
abbrev s_is_name : Stmt := top 14
theorem sc_is_name : FnScope ["word"] ["word"] (defScope s_is_name) := ⟨rfl, rfl, rfl, by decide +kernel, rfl, by decide +kernel, by decide +kernel⟩
abbrev s_readers : Stmt := top 17
theorem sc_readers : FnScope ["text"] ["text"] (defScope s_readers) := ⟨rfl, rfl, rfl, by decide +kernel, rfl, by decide +kernel, by decide +kernel⟩
abbrev s_read_ring : Stmt := top 31
theorem sc_read_ring : FnScope ["reader", "places"] ["reader"] (defScope s_read_ring) := ⟨rfl, rfl, rfl, by decide +kernel, rfl, by decide +kernel, by decide +kernel⟩
abbrev s_read_new_name : Stmt := top 32
theorem sc_read_new_name : FnScope ["reader", "ways", "name"] ["reader", "ways"] (defScope s_read_new_name) := ⟨rfl, rfl, rfl, by decide +kernel, rfl, by decide +kernel, by decide +kernel⟩
abbrev s_read_end : Stmt := top 33
theorem sc_read_end : FnScope ["reader", "places", "start"] ["reader", "places", "start"] (defScope s_read_end) := ⟨rfl, rfl, rfl, by decide +kernel, rfl, by decide +kernel, by decide +kernel⟩
abbrev s_made_way : Stmt := top 34
theorem sc_made_way : FnScope ["sort", "name", "start", "end", "off", "near", "least"] ["sort", "name", "start", "end", "off", "near", "least"] (defScope s_made_way) := ⟨rfl, rfl, rfl, by decide +kernel, rfl, by decide +kernel, by decide +kernel⟩
abbrev s_read_way : Stmt := top 35
theorem sc_read_way : FnScope ["reader", "places", "ways", "sort", "name", "start", "end", "off", "near", "least"] ["reader", "places", "ways"] (defScope s_read_way) := ⟨rfl, rfl, rfl, by decide +kernel, rfl, by decide +kernel, by decide +kernel⟩
abbrev s_read_crossing : Stmt := top 36
theorem sc_read_crossing : FnScope ["text", "rows", "places", "ways", "reader"] ["text"] (defScope s_read_crossing) := ⟨rfl, rfl, rfl, by decide +kernel, rfl, by decide +kernel, by decide +kernel⟩
abbrev s__law_draw : Stmt := top 38
theorem sc__law_draw : FnScope ["_law_script", "_law_k", "_law_many", "_law_cell", "_law_seed"] ["_law_script", "_law_k", "_law_many"] (defScope s__law_draw) := ⟨rfl, rfl, rfl, by decide +kernel, rfl, by decide +kernel, by decide +kernel⟩
abbrev s__law_rows : Stmt := top 39
theorem sc__law_rows : FnScope ["_law_script", "_law_letters", "_law_places", "_law_rows_here", "_law_k", "_law_start", "_law_end", "_law_name", "_law_row"] ["_law_script"] (defScope s__law_rows) := ⟨rfl, rfl, rfl, by decide +kernel, rfl, by decide +kernel, by decide +kernel⟩
abbrev s__law_beyond : Stmt := top 40
theorem sc__law_beyond : FnScope ["_law_rows_here", "_law_at", "_law_word", "_law_places"] ["_law_rows_here", "_law_at", "_law_word"] (defScope s__law_beyond) := ⟨rfl, rfl, rfl, by decide +kernel, rfl, by decide +kernel, by decide +kernel⟩
abbrev s__law_low : Stmt := top 41
theorem sc__law_low : FnScope ["_law_rows_here", "_law_at", "_law_word"] ["_law_rows_here", "_law_at", "_law_word"] (defScope s__law_low) := ⟨rfl, rfl, rfl, by decide +kernel, rfl, by decide +kernel, by decide +kernel⟩
abbrev s__law_spoiled : Stmt := top 42
theorem sc__law_spoiled : FnScope ["_law_script", "_law_rows_here", "_law_at", "_law_word", "_law_way", "_law_row"] ["_law_script", "_law_rows_here"] (defScope s__law_spoiled) := ⟨rfl, rfl, rfl, by decide +kernel, rfl, by decide +kernel, by decide +kernel⟩
abbrev s__law_other : Stmt := top 43
theorem sc__law_other : FnScope ["_law_script", "_law_rows_here", "_law_way", "_law_at", "_law_taken", "_law_over"] ["_law_script", "_law_rows_here"] (defScope s__law_other) := ⟨rfl, rfl, rfl, by decide +kernel, rfl, by decide +kernel, by decide +kernel⟩
abbrev s__law_asked : Stmt := top 44
theorem sc__law_asked : FnScope ["_law_rows_here", "_law_told", "e"] ["_law_rows_here"] (defScope s__law_asked) := ⟨rfl, rfl, rfl, by decide +kernel, rfl, by decide +kernel, by decide +kernel⟩
abbrev s_law : Stmt := top 45
theorem sc_law : FnScope ["_law_script", "_law_rows_here", "_law_found", "_law_spoiled_here", "_law_last", "_law_told", "_law_number"] ["_law_script"] (defScope s_law) := ⟨rfl, rfl, rfl, by decide +kernel, rfl, by decide +kernel, by decide +kernel⟩
abbrev s_NoText_init : Stmt := inClass (top 3) 0
theorem sc_NoText___init__ : FnScope ["self", "row", "word"] ["self", "row", "word"] (defScope s_NoText_init) := ⟨rfl, rfl, rfl, by decide +kernel, rfl, by decide +kernel, by decide +kernel⟩
abbrev s_RowReader_init : Stmt := inClass (top 16) 0
theorem sc_RowReader___init__ : FnScope ["self", "row", "told"] ["self", "row", "told"] (defScope s_RowReader_init) := ⟨rfl, rfl, rfl, by decide +kernel, rfl, by decide +kernel, by decide +kernel⟩
abbrev s_RowReader_ahead : Stmt := inClass (top 16) 1
theorem sc_RowReader_ahead : FnScope ["self"] ["self"] (defScope s_RowReader_ahead) := ⟨rfl, rfl, rfl, by decide +kernel, rfl, by decide +kernel, by decide +kernel⟩
abbrev s_RowReader_has_more : Stmt := inClass (top 16) 2
theorem sc_RowReader_has_more : FnScope ["self"] ["self"] (defScope s_RowReader_has_more) := ⟨rfl, rfl, rfl, by decide +kernel, rfl, by decide +kernel, by decide +kernel⟩
abbrev s_RowReader_refuse : Stmt := inClass (top 16) 3
theorem sc_RowReader_refuse : FnScope ["self"] ["self"] (defScope s_RowReader_refuse) := ⟨rfl, rfl, rfl, by decide +kernel, rfl, by decide +kernel, by decide +kernel⟩
abbrev s_RowReader_take : Stmt := inClass (top 16) 4
theorem sc_RowReader_take : FnScope ["self", "good"] ["self", "good"] (defScope s_RowReader_take) := ⟨rfl, rfl, rfl, by decide +kernel, rfl, by decide +kernel, by decide +kernel⟩
abbrev s_RowReader_one_of : Stmt := inClass (top 16) 5
theorem sc_RowReader_one_of : FnScope ["self", "choices", "found"] ["self", "choices"] (defScope s_RowReader_one_of) := ⟨rfl, rfl, rfl, by decide +kernel, rfl, by decide +kernel, by decide +kernel⟩
abbrev s_RowReader_figures : Stmt := inClass (top 16) 6
theorem sc_RowReader_figures : FnScope ["self", "low", "high", "found"] ["self", "low", "high"] (defScope s_RowReader_figures) := ⟨rfl, rfl, rfl, by decide +kernel, rfl, by decide +kernel, by decide +kernel⟩
abbrev s_RowReader_finish : Stmt := inClass (top 16) 7
theorem sc_RowReader_finish : FnScope ["self"] ["self"] (defScope s_RowReader_finish) := ⟨rfl, rfl, rfl, by decide +kernel, rfl, by decide +kernel, by decide +kernel⟩
abbrev s_Way_init : Stmt := inClass (top 19) 0
theorem sc_Way___init__ : FnScope ["self", "kind", "name", "start", "end", "off", "near", "least"] ["self", "kind", "name", "start", "end", "off", "near", "least"] (defScope s_Way_init) := ⟨rfl, rfl, rfl, by decide +kernel, rfl, by decide +kernel, by decide +kernel⟩
abbrev s_CarWay_init : Stmt := inClass (top 20) 0
theorem sc_CarWay___init__ : FnScope ["self", "name", "start", "end", "off", "near", "least"] ["self", "name", "start", "end", "off", "near", "least"] (defScope s_CarWay_init) := ⟨rfl, rfl, rfl, by decide +kernel, rfl, by decide +kernel, by decide +kernel⟩
abbrev s_FootWay_init : Stmt := inClass (top 21) 0
theorem sc_FootWay___init__ : FnScope ["self", "name", "start", "end", "off", "near", "least"] ["self", "name", "start", "end", "off", "near", "least"] (defScope s_FootWay_init) := ⟨rfl, rfl, rfl, by decide +kernel, rfl, by decide +kernel, by decide +kernel⟩
abbrev s_TramWay_init : Stmt := inClass (top 22) 0
theorem sc_TramWay___init__ : FnScope ["self", "name", "start", "end", "off", "near", "least"] ["self", "name", "start", "end", "off", "near", "least"] (defScope s_TramWay_init) := ⟨rfl, rfl, rfl, by decide +kernel, rfl, by decide +kernel, by decide +kernel⟩
abbrev s_Crossing_init : Stmt := inClass (top 30) 0
theorem sc_Crossing___init__ : FnScope ["self", "places", "ways", "number", "way"] ["self", "places", "ways"] (defScope s_Crossing_init) := ⟨rfl, rfl, rfl, by decide +kernel, rfl, by decide +kernel, by decide +kernel⟩
abbrev s_Crossing_number : Stmt := inClass (top 30) 2
theorem sc_Crossing_number : FnScope ["self", "name"] ["self", "name"] (defScope s_Crossing_number) := ⟨rfl, rfl, rfl, by decide +kernel, rfl, by decide +kernel, by decide +kernel⟩
abbrev s_Crossing_called : Stmt := inClass (top 30) 3
theorem sc_Crossing_called : FnScope ["self", "name"] ["self", "name"] (defScope s_Crossing_called) := ⟨rfl, rfl, rfl, by decide +kernel, rfl, by decide +kernel, by decide +kernel⟩
structure Adr where
  a_words : Addr
  d_words : FuncData
  a_is_made_of : Addr
  d_is_made_of : FuncData
  a_is_number : Addr
  d_is_number : FuncData
  a_figured : Addr
  d_figured : FuncData
  a_is_name : Addr
  d_is_name : FuncData
  a_readers : Addr
  d_readers : FuncData
  a_read_ring : Addr
  d_read_ring : FuncData
  a_read_new_name : Addr
  d_read_new_name : FuncData
  a_read_end : Addr
  d_read_end : FuncData
  a_made_way : Addr
  d_made_way : FuncData
  a_read_way : Addr
  d_read_way : FuncData
  a_read_crossing : Addr
  d_read_crossing : FuncData
  a__law_draw : Addr
  d__law_draw : FuncData
  a__law_rows : Addr
  d__law_rows : FuncData
  a__law_beyond : Addr
  d__law_beyond : FuncData
  a__law_low : Addr
  d__law_low : FuncData
  a__law_spoiled : Addr
  d__law_spoiled : FuncData
  a__law_other : Addr
  d__law_other : FuncData
  a__law_asked : Addr
  d__law_asked : FuncData
  a_law : Addr
  d_law : FuncData
  a_NoText_init : Addr
  d_NoText_init : FuncData
  a_RowReader_init : Addr
  d_RowReader_init : FuncData
  a_RowReader_ahead : Addr
  d_RowReader_ahead : FuncData
  a_RowReader_has_more : Addr
  d_RowReader_has_more : FuncData
  a_RowReader_refuse : Addr
  d_RowReader_refuse : FuncData
  a_RowReader_take : Addr
  d_RowReader_take : FuncData
  a_RowReader_one_of : Addr
  d_RowReader_one_of : FuncData
  a_RowReader_figures : Addr
  d_RowReader_figures : FuncData
  a_RowReader_finish : Addr
  d_RowReader_finish : FuncData
  a_Way_init : Addr
  d_Way_init : FuncData
  a_CarWay_init : Addr
  d_CarWay_init : FuncData
  a_FootWay_init : Addr
  d_FootWay_init : FuncData
  a_TramWay_init : Addr
  d_TramWay_init : FuncData
  a_Crossing_init : Addr
  d_Crossing_init : FuncData
  a_Crossing_number : Addr
  d_Crossing_number : FuncData
  a_Crossing_called : Addr
  d_Crossing_called : FuncData
  c_RowReader : Addr
  c_Way : Addr
  c_CarWay : Addr
  c_FootWay : Addr
  c_TramWay : Addr
  c_Crossing : Addr
  c_LampError : Addr
  c_NoText : Addr
  u_FIGURES : Value
  u_LEAST_PLACES : Value
  u_LETTERS : Value
  u_MOST_FIGURES : Value
  u_MOST_LEAST : Value
  u_MOST_LETTERS : Value
  u_MOST_NEAR : Value
  u_MOST_OFF : Value
  u_MOST_PLACES : Value
  u_MOST_WAYS : Value
structure Txt (w : World) (K : PySem.W.Frag) (mg : Str → Option Value) (t : Adr) : Prop where
  F_words : Fun K "words" "words" s_words t.a_words t.d_words
  n_words : Binds K t.d_words ["text"] []
  m_words : mg "words" = some (.ref t.a_words)
  k_words : PySem.W.keepIn K (.ref t.a_words) = true
  F_is_made_of : Fun K "is_made_of" "is_made_of" s_is_made_of t.a_is_made_of t.d_is_made_of
  n_is_made_of : Binds K t.d_is_made_of ["word", "signs", "most"] []
  m_is_made_of : mg "is_made_of" = some (.ref t.a_is_made_of)
  k_is_made_of : PySem.W.keepIn K (.ref t.a_is_made_of) = true
  F_is_number : Fun K "is_number" "is_number" s_is_number t.a_is_number t.d_is_number
  n_is_number : Binds K t.d_is_number ["word", "most_figures"] []
  m_is_number : mg "is_number" = some (.ref t.a_is_number)
  k_is_number : PySem.W.keepIn K (.ref t.a_is_number) = true
  F_figured : Fun K "figured" "figured" s_figured t.a_figured t.d_figured
  n_figured : Binds K t.d_figured ["word", "low", "high"] []
  m_figured : mg "figured" = some (.ref t.a_figured)
  k_figured : PySem.W.keepIn K (.ref t.a_figured) = true
  F_is_name : Fun K "is_name" "is_name" s_is_name t.a_is_name t.d_is_name
  n_is_name : Binds K t.d_is_name ["word"] []
  m_is_name : mg "is_name" = some (.ref t.a_is_name)
  k_is_name : PySem.W.keepIn K (.ref t.a_is_name) = true
  F_readers : Fun K "readers" "readers" s_readers t.a_readers t.d_readers
  n_readers : Binds K t.d_readers ["text"] []
  m_readers : mg "readers" = some (.ref t.a_readers)
  k_readers : PySem.W.keepIn K (.ref t.a_readers) = true
  F_read_ring : Fun K "read_ring" "read_ring" s_read_ring t.a_read_ring t.d_read_ring
  n_read_ring : Binds K t.d_read_ring ["reader"] []
  m_read_ring : mg "read_ring" = some (.ref t.a_read_ring)
  k_read_ring : PySem.W.keepIn K (.ref t.a_read_ring) = true
  F_read_new_name : Fun K "read_new_name" "read_new_name" s_read_new_name t.a_read_new_name t.d_read_new_name
  n_read_new_name : Binds K t.d_read_new_name ["reader", "ways"] []
  m_read_new_name : mg "read_new_name" = some (.ref t.a_read_new_name)
  k_read_new_name : PySem.W.keepIn K (.ref t.a_read_new_name) = true
  F_read_end : Fun K "read_end" "read_end" s_read_end t.a_read_end t.d_read_end
  n_read_end : Binds K t.d_read_end ["reader", "places", "start"] []
  m_read_end : mg "read_end" = some (.ref t.a_read_end)
  k_read_end : PySem.W.keepIn K (.ref t.a_read_end) = true
  F_made_way : Fun K "made_way" "made_way" s_made_way t.a_made_way t.d_made_way
  n_made_way : Binds K t.d_made_way ["sort", "name", "start", "end", "off", "near", "least"] []
  m_made_way : mg "made_way" = some (.ref t.a_made_way)
  k_made_way : PySem.W.keepIn K (.ref t.a_made_way) = true
  F_read_way : Fun K "read_way" "read_way" s_read_way t.a_read_way t.d_read_way
  n_read_way : Binds K t.d_read_way ["reader", "places", "ways"] []
  m_read_way : mg "read_way" = some (.ref t.a_read_way)
  k_read_way : PySem.W.keepIn K (.ref t.a_read_way) = true
  F_read_crossing : Fun K "read_crossing" "read_crossing" s_read_crossing t.a_read_crossing t.d_read_crossing
  n_read_crossing : Binds K t.d_read_crossing ["text"] []
  m_read_crossing : mg "read_crossing" = some (.ref t.a_read_crossing)
  k_read_crossing : PySem.W.keepIn K (.ref t.a_read_crossing) = true
  F__law_draw : Fun K "_law_draw" "_law_draw" s__law_draw t.a__law_draw t.d__law_draw
  n__law_draw : Binds K t.d__law_draw ["_law_script", "_law_k", "_law_many"] []
  m__law_draw : mg "_law_draw" = some (.ref t.a__law_draw)
  k__law_draw : PySem.W.keepIn K (.ref t.a__law_draw) = true
  F__law_rows : Fun K "_law_rows" "_law_rows" s__law_rows t.a__law_rows t.d__law_rows
  n__law_rows : Binds K t.d__law_rows ["_law_script"] []
  m__law_rows : mg "_law_rows" = some (.ref t.a__law_rows)
  k__law_rows : PySem.W.keepIn K (.ref t.a__law_rows) = true
  F__law_beyond : Fun K "_law_beyond" "_law_beyond" s__law_beyond t.a__law_beyond t.d__law_beyond
  n__law_beyond : Binds K t.d__law_beyond ["_law_rows_here", "_law_at", "_law_word"] []
  m__law_beyond : mg "_law_beyond" = some (.ref t.a__law_beyond)
  k__law_beyond : PySem.W.keepIn K (.ref t.a__law_beyond) = true
  F__law_low : Fun K "_law_low" "_law_low" s__law_low t.a__law_low t.d__law_low
  n__law_low : Binds K t.d__law_low ["_law_rows_here", "_law_at", "_law_word"] []
  m__law_low : mg "_law_low" = some (.ref t.a__law_low)
  k__law_low : PySem.W.keepIn K (.ref t.a__law_low) = true
  F__law_spoiled : Fun K "_law_spoiled" "_law_spoiled" s__law_spoiled t.a__law_spoiled t.d__law_spoiled
  n__law_spoiled : Binds K t.d__law_spoiled ["_law_script", "_law_rows_here"] []
  m__law_spoiled : mg "_law_spoiled" = some (.ref t.a__law_spoiled)
  k__law_spoiled : PySem.W.keepIn K (.ref t.a__law_spoiled) = true
  F__law_other : Fun K "_law_other" "_law_other" s__law_other t.a__law_other t.d__law_other
  n__law_other : Binds K t.d__law_other ["_law_script", "_law_rows_here"] []
  m__law_other : mg "_law_other" = some (.ref t.a__law_other)
  k__law_other : PySem.W.keepIn K (.ref t.a__law_other) = true
  F__law_asked : Fun K "_law_asked" "_law_asked" s__law_asked t.a__law_asked t.d__law_asked
  n__law_asked : Binds K t.d__law_asked ["_law_rows_here"] []
  m__law_asked : mg "_law_asked" = some (.ref t.a__law_asked)
  k__law_asked : PySem.W.keepIn K (.ref t.a__law_asked) = true
  F_law : Fun K "law" "law" s_law t.a_law t.d_law
  n_law : Binds K t.d_law ["_law_script"] []
  m_law : mg "law" = some (.ref t.a_law)
  k_law : PySem.W.keepIn K (.ref t.a_law) = true
  F_NoText_init : Fun K "__init__" "NoText.__init__" s_NoText_init t.a_NoText_init t.d_NoText_init
  n_NoText_init : Binds K t.d_NoText_init ["self", "row", "word"] []
  F_RowReader_init : Fun K "__init__" "RowReader.__init__" s_RowReader_init t.a_RowReader_init t.d_RowReader_init
  n_RowReader_init : Binds K t.d_RowReader_init ["self", "row", "told"] []
  F_RowReader_ahead : Fun K "ahead" "RowReader.ahead" s_RowReader_ahead t.a_RowReader_ahead t.d_RowReader_ahead
  n_RowReader_ahead : Binds K t.d_RowReader_ahead ["self"] []
  F_RowReader_has_more : Fun K "has_more" "RowReader.has_more" s_RowReader_has_more t.a_RowReader_has_more t.d_RowReader_has_more
  n_RowReader_has_more : Binds K t.d_RowReader_has_more ["self"] []
  F_RowReader_refuse : Fun K "refuse" "RowReader.refuse" s_RowReader_refuse t.a_RowReader_refuse t.d_RowReader_refuse
  n_RowReader_refuse : Binds K t.d_RowReader_refuse ["self"] []
  F_RowReader_take : Fun K "take" "RowReader.take" s_RowReader_take t.a_RowReader_take t.d_RowReader_take
  n_RowReader_take : Binds K t.d_RowReader_take ["self", "good"] []
  F_RowReader_one_of : Fun K "one_of" "RowReader.one_of" s_RowReader_one_of t.a_RowReader_one_of t.d_RowReader_one_of
  n_RowReader_one_of : Binds K t.d_RowReader_one_of ["self", "choices"] []
  F_RowReader_figures : Fun K "figures" "RowReader.figures" s_RowReader_figures t.a_RowReader_figures t.d_RowReader_figures
  n_RowReader_figures : Binds K t.d_RowReader_figures ["self", "low", "high"] []
  F_RowReader_finish : Fun K "finish" "RowReader.finish" s_RowReader_finish t.a_RowReader_finish t.d_RowReader_finish
  n_RowReader_finish : Binds K t.d_RowReader_finish ["self"] []
  F_Way_init : Fun K "__init__" "Way.__init__" s_Way_init t.a_Way_init t.d_Way_init
  n_Way_init : Binds K t.d_Way_init ["self", "kind", "name", "start", "end", "off", "near", "least"] []
  F_CarWay_init : Fun K "__init__" "CarWay.__init__" s_CarWay_init t.a_CarWay_init t.d_CarWay_init
  n_CarWay_init : Binds K t.d_CarWay_init ["self", "name", "start", "end", "off", "near", "least"] []
  F_FootWay_init : Fun K "__init__" "FootWay.__init__" s_FootWay_init t.a_FootWay_init t.d_FootWay_init
  n_FootWay_init : Binds K t.d_FootWay_init ["self", "name", "start", "end", "off", "near", "least"] []
  F_TramWay_init : Fun K "__init__" "TramWay.__init__" s_TramWay_init t.a_TramWay_init t.d_TramWay_init
  n_TramWay_init : Binds K t.d_TramWay_init ["self", "name", "start", "end", "off", "near", "least"] []
  F_Crossing_init : Fun K "__init__" "Crossing.__init__" s_Crossing_init t.a_Crossing_init t.d_Crossing_init
  n_Crossing_init : Binds K t.d_Crossing_init ["self", "places", "ways"] []
  F_Crossing_number : Fun K "number" "Crossing.number" s_Crossing_number t.a_Crossing_number t.d_Crossing_number
  n_Crossing_number : Binds K t.d_Crossing_number ["self", "name"] []
  F_Crossing_called : Fun K "called" "Crossing.called" s_Crossing_called t.a_Crossing_called t.d_Crossing_called
  n_Crossing_called : Binds K t.d_Crossing_called ["self", "name"] []
  m_RowReader : mg "RowReader" = some (.ref t.c_RowReader)
  cl_RowReader : Cls K t.c_RowReader
  M_RowReader : Mk K t.c_RowReader t.a_RowReader_init
  M_RowReader_ahead : Meth K t.c_RowReader "ahead" t.a_RowReader_ahead
  M_RowReader_has_more : Meth K t.c_RowReader "has_more" t.a_RowReader_has_more
  M_RowReader_refuse : Meth K t.c_RowReader "refuse" t.a_RowReader_refuse
  M_RowReader_take : Meth K t.c_RowReader "take" t.a_RowReader_take
  M_RowReader_one_of : Meth K t.c_RowReader "one_of" t.a_RowReader_one_of
  M_RowReader_figures : Meth K t.c_RowReader "figures" t.a_RowReader_figures
  M_RowReader_finish : Meth K t.c_RowReader "finish" t.a_RowReader_finish
  nA_RowReader_row : NoAttr K t.c_RowReader "row"
  nA_RowReader_told : NoAttr K t.c_RowReader "told"
  nA_RowReader_place : NoAttr K t.c_RowReader "place"
  m_Way : mg "Way" = some (.ref t.c_Way)
  cl_Way : Cls K t.c_Way
  nA_Way_kind : NoAttr K t.c_Way "kind"
  nA_Way_name : NoAttr K t.c_Way "name"
  nA_Way_start : NoAttr K t.c_Way "start"
  nA_Way_end : NoAttr K t.c_Way "end"
  nA_Way_off : NoAttr K t.c_Way "off"
  nA_Way_near : NoAttr K t.c_Way "near"
  nA_Way_least : NoAttr K t.c_Way "least"
  m_CarWay : mg "CarWay" = some (.ref t.c_CarWay)
  cl_CarWay : Cls K t.c_CarWay
  M_CarWay : Mk K t.c_CarWay t.a_CarWay_init
  nA_CarWay_kind : NoAttr K t.c_CarWay "kind"
  nA_CarWay_name : NoAttr K t.c_CarWay "name"
  nA_CarWay_start : NoAttr K t.c_CarWay "start"
  nA_CarWay_end : NoAttr K t.c_CarWay "end"
  nA_CarWay_off : NoAttr K t.c_CarWay "off"
  nA_CarWay_near : NoAttr K t.c_CarWay "near"
  nA_CarWay_least : NoAttr K t.c_CarWay "least"
  m_FootWay : mg "FootWay" = some (.ref t.c_FootWay)
  cl_FootWay : Cls K t.c_FootWay
  M_FootWay : Mk K t.c_FootWay t.a_FootWay_init
  nA_FootWay_kind : NoAttr K t.c_FootWay "kind"
  nA_FootWay_name : NoAttr K t.c_FootWay "name"
  nA_FootWay_start : NoAttr K t.c_FootWay "start"
  nA_FootWay_end : NoAttr K t.c_FootWay "end"
  nA_FootWay_off : NoAttr K t.c_FootWay "off"
  nA_FootWay_near : NoAttr K t.c_FootWay "near"
  nA_FootWay_least : NoAttr K t.c_FootWay "least"
  m_TramWay : mg "TramWay" = some (.ref t.c_TramWay)
  cl_TramWay : Cls K t.c_TramWay
  M_TramWay : Mk K t.c_TramWay t.a_TramWay_init
  nA_TramWay_kind : NoAttr K t.c_TramWay "kind"
  nA_TramWay_name : NoAttr K t.c_TramWay "name"
  nA_TramWay_start : NoAttr K t.c_TramWay "start"
  nA_TramWay_end : NoAttr K t.c_TramWay "end"
  nA_TramWay_off : NoAttr K t.c_TramWay "off"
  nA_TramWay_near : NoAttr K t.c_TramWay "near"
  nA_TramWay_least : NoAttr K t.c_TramWay "least"
  m_Crossing : mg "Crossing" = some (.ref t.c_Crossing)
  cl_Crossing : Cls K t.c_Crossing
  M_Crossing : Mk K t.c_Crossing t.a_Crossing_init
  M_Crossing_number : Meth K t.c_Crossing "number" t.a_Crossing_number
  M_Crossing_called : Meth K t.c_Crossing "called" t.a_Crossing_called
  nA_Crossing_places : NoAttr K t.c_Crossing "places"
  nA_Crossing_ways : NoAttr K t.c_Crossing "ways"
  nA_Crossing_numbers : NoAttr K t.c_Crossing "numbers"
  m_LampError : mg "LampError" = some (.ref t.c_LampError)
  B_LampError : ClsB K t.c_LampError "__init__"
  m_NoText : mg "NoText" = some (.ref t.c_NoText)
  X_NoText : XCls K t.c_NoText
  MX_NoText : MkX K t.c_NoText t.a_NoText_init
  nA_NoText_row : NoAttr K t.c_NoText "row"
  nA_NoText_word : NoAttr K t.c_NoText "word"
  ex_NoText_LampError : PySem.W.exmOne K (.ref t.c_NoText) (.ref t.c_LampError) = some true
  ex_NoText_NoText : PySem.W.exmOne K (.ref t.c_NoText) (.ref t.c_NoText) = some true
  dC_Way_CarWay : t.c_Way ≠ t.c_CarWay
  dC_Way_FootWay : t.c_Way ≠ t.c_FootWay
  dC_Way_TramWay : t.c_Way ≠ t.c_TramWay
  dC_CarWay_FootWay : t.c_CarWay ≠ t.c_FootWay
  dC_CarWay_TramWay : t.c_CarWay ≠ t.c_TramWay
  dC_FootWay_TramWay : t.c_FootWay ≠ t.c_TramWay
  C_Way_init : ClsM K t.c_Way "__init__" t.a_Way_init
  g_FIGURES : mg "FIGURES" = some t.u_FIGURES
  r_FIGURES : RelV (.str (Str.ofString "0123456789")) t.u_FIGURES
  g_LEAST_PLACES : mg "LEAST_PLACES" = some t.u_LEAST_PLACES
  r_LEAST_PLACES : RelV (.int 2) t.u_LEAST_PLACES
  g_LETTERS : mg "LETTERS" = some t.u_LETTERS
  r_LETTERS : RelV (.str (Str.ofString "abcdefghijklmnopqrstuvwxyz")) t.u_LETTERS
  g_MOST_FIGURES : mg "MOST_FIGURES" = some t.u_MOST_FIGURES
  r_MOST_FIGURES : RelV (.int 3) t.u_MOST_FIGURES
  g_MOST_LEAST : mg "MOST_LEAST" = some t.u_MOST_LEAST
  r_MOST_LEAST : RelV (.int 60) t.u_MOST_LEAST
  g_MOST_LETTERS : mg "MOST_LETTERS" = some t.u_MOST_LETTERS
  r_MOST_LETTERS : RelV (.int 8) t.u_MOST_LETTERS
  g_MOST_NEAR : mg "MOST_NEAR" = some t.u_MOST_NEAR
  r_MOST_NEAR : RelV (.int 30) t.u_MOST_NEAR
  g_MOST_OFF : mg "MOST_OFF" = some t.u_MOST_OFF
  r_MOST_OFF : RelV (.int 30) t.u_MOST_OFF
  g_MOST_PLACES : mg "MOST_PLACES" = some t.u_MOST_PLACES
  r_MOST_PLACES : RelV (.int 99) t.u_MOST_PLACES
  g_MOST_WAYS : mg "MOST_WAYS" = some t.u_MOST_WAYS
  r_MOST_WAYS : RelV (.int 12) t.u_MOST_WAYS
  b_all : mg "all" = none
  b_bool : mg "bool" = none
  b_enumerate : mg "enumerate" = none
  b_int : mg "int" = none
  b_isinstance : mg "isinstance" = none
  b_len : mg "len" = none
  b_list : mg "list" = none
  b_range : mg "range" = none
  b_str : mg "str" = none
  bl_law : ∀ (s : Shared) (u : Value), BindsTo s t.d_law ⟨[u], []⟩ [("_law_script", u)]
theorem txt_mk {w : World} {K : PySem.W.Frag} {h : Heap} {mg : Str → Option Value} (X : K.In h) (G : h.Ns mainGlobals mg)
    {f_words : Addr} {oc_words kV_words dc_words pm_words cd_words ct_words : Value} {od_words an_words : Option Addr} {sl_words : Array (Option Value)}
    {f_is_made_of : Addr} {oc_is_made_of kV_is_made_of dc_is_made_of pm_is_made_of cd_is_made_of ct_is_made_of : Value} {od_is_made_of an_is_made_of : Option Addr} {sl_is_made_of : Array (Option Value)}
    {f_is_number : Addr} {oc_is_number kV_is_number dc_is_number pm_is_number cd_is_number ct_is_number : Value} {od_is_number an_is_number : Option Addr} {sl_is_number : Array (Option Value)}
    {f_figured : Addr} {oc_figured kV_figured dc_figured pm_figured cd_figured ct_figured : Value} {od_figured an_figured : Option Addr} {sl_figured : Array (Option Value)}
    {f_is_name : Addr} {oc_is_name kV_is_name dc_is_name pm_is_name cd_is_name ct_is_name : Value} {od_is_name an_is_name : Option Addr} {sl_is_name : Array (Option Value)}
    {f_readers : Addr} {oc_readers kV_readers dc_readers pm_readers cd_readers ct_readers : Value} {od_readers an_readers : Option Addr} {sl_readers : Array (Option Value)}
    {f_read_ring : Addr} {oc_read_ring kV_read_ring dc_read_ring pm_read_ring cd_read_ring ct_read_ring : Value} {od_read_ring an_read_ring : Option Addr} {sl_read_ring : Array (Option Value)}
    {f_read_new_name : Addr} {oc_read_new_name kV_read_new_name dc_read_new_name pm_read_new_name cd_read_new_name ct_read_new_name : Value} {od_read_new_name an_read_new_name : Option Addr} {sl_read_new_name : Array (Option Value)}
    {f_read_end : Addr} {oc_read_end kV_read_end dc_read_end pm_read_end cd_read_end ct_read_end : Value} {od_read_end an_read_end : Option Addr} {sl_read_end : Array (Option Value)}
    {f_made_way : Addr} {oc_made_way kV_made_way dc_made_way pm_made_way cd_made_way ct_made_way : Value} {od_made_way an_made_way : Option Addr} {sl_made_way : Array (Option Value)}
    {f_read_way : Addr} {oc_read_way kV_read_way dc_read_way pm_read_way cd_read_way ct_read_way : Value} {od_read_way an_read_way : Option Addr} {sl_read_way : Array (Option Value)}
    {f_read_crossing : Addr} {oc_read_crossing kV_read_crossing dc_read_crossing pm_read_crossing cd_read_crossing ct_read_crossing : Value} {od_read_crossing an_read_crossing : Option Addr} {sl_read_crossing : Array (Option Value)}
    {f__law_draw : Addr} {oc__law_draw kV__law_draw dc__law_draw pm__law_draw cd__law_draw ct__law_draw : Value} {od__law_draw an__law_draw : Option Addr} {sl__law_draw : Array (Option Value)}
    {f__law_rows : Addr} {oc__law_rows kV__law_rows dc__law_rows pm__law_rows cd__law_rows ct__law_rows : Value} {od__law_rows an__law_rows : Option Addr} {sl__law_rows : Array (Option Value)}
    {f__law_beyond : Addr} {oc__law_beyond kV__law_beyond dc__law_beyond pm__law_beyond cd__law_beyond ct__law_beyond : Value} {od__law_beyond an__law_beyond : Option Addr} {sl__law_beyond : Array (Option Value)}
    {f__law_low : Addr} {oc__law_low kV__law_low dc__law_low pm__law_low cd__law_low ct__law_low : Value} {od__law_low an__law_low : Option Addr} {sl__law_low : Array (Option Value)}
    {f__law_spoiled : Addr} {oc__law_spoiled kV__law_spoiled dc__law_spoiled pm__law_spoiled cd__law_spoiled ct__law_spoiled : Value} {od__law_spoiled an__law_spoiled : Option Addr} {sl__law_spoiled : Array (Option Value)}
    {f__law_other : Addr} {oc__law_other kV__law_other dc__law_other pm__law_other cd__law_other ct__law_other : Value} {od__law_other an__law_other : Option Addr} {sl__law_other : Array (Option Value)}
    {f__law_asked : Addr} {oc__law_asked kV__law_asked dc__law_asked pm__law_asked cd__law_asked ct__law_asked : Value} {od__law_asked an__law_asked : Option Addr} {sl__law_asked : Array (Option Value)}
    {f_law : Addr} {oc_law kV_law dc_law pm_law cd_law ct_law : Value} {od_law an_law : Option Addr} {sl_law : Array (Option Value)}
    {f_NoText_init : Addr} {oc_NoText_init kV_NoText_init dc_NoText_init pm_NoText_init cd_NoText_init ct_NoText_init : Value} {od_NoText_init an_NoText_init : Option Addr} {sl_NoText_init : Array (Option Value)}
    {f_RowReader_init : Addr} {oc_RowReader_init kV_RowReader_init dc_RowReader_init pm_RowReader_init cd_RowReader_init ct_RowReader_init : Value} {od_RowReader_init an_RowReader_init : Option Addr} {sl_RowReader_init : Array (Option Value)}
    {f_RowReader_ahead : Addr} {oc_RowReader_ahead kV_RowReader_ahead dc_RowReader_ahead pm_RowReader_ahead cd_RowReader_ahead ct_RowReader_ahead : Value} {od_RowReader_ahead an_RowReader_ahead : Option Addr} {sl_RowReader_ahead : Array (Option Value)}
    {f_RowReader_has_more : Addr} {oc_RowReader_has_more kV_RowReader_has_more dc_RowReader_has_more pm_RowReader_has_more cd_RowReader_has_more ct_RowReader_has_more : Value} {od_RowReader_has_more an_RowReader_has_more : Option Addr} {sl_RowReader_has_more : Array (Option Value)}
    {f_RowReader_refuse : Addr} {oc_RowReader_refuse kV_RowReader_refuse dc_RowReader_refuse pm_RowReader_refuse cd_RowReader_refuse ct_RowReader_refuse : Value} {od_RowReader_refuse an_RowReader_refuse : Option Addr} {sl_RowReader_refuse : Array (Option Value)}
    {f_RowReader_take : Addr} {oc_RowReader_take kV_RowReader_take dc_RowReader_take pm_RowReader_take cd_RowReader_take ct_RowReader_take : Value} {od_RowReader_take an_RowReader_take : Option Addr} {sl_RowReader_take : Array (Option Value)}
    {f_RowReader_one_of : Addr} {oc_RowReader_one_of kV_RowReader_one_of dc_RowReader_one_of pm_RowReader_one_of cd_RowReader_one_of ct_RowReader_one_of : Value} {od_RowReader_one_of an_RowReader_one_of : Option Addr} {sl_RowReader_one_of : Array (Option Value)}
    {f_RowReader_figures : Addr} {oc_RowReader_figures kV_RowReader_figures dc_RowReader_figures pm_RowReader_figures cd_RowReader_figures ct_RowReader_figures : Value} {od_RowReader_figures an_RowReader_figures : Option Addr} {sl_RowReader_figures : Array (Option Value)}
    {f_RowReader_finish : Addr} {oc_RowReader_finish kV_RowReader_finish dc_RowReader_finish pm_RowReader_finish cd_RowReader_finish ct_RowReader_finish : Value} {od_RowReader_finish an_RowReader_finish : Option Addr} {sl_RowReader_finish : Array (Option Value)}
    {f_Way_init : Addr} {oc_Way_init kV_Way_init dc_Way_init pm_Way_init cd_Way_init ct_Way_init : Value} {od_Way_init an_Way_init : Option Addr} {sl_Way_init : Array (Option Value)}
    {f_CarWay_init : Addr} {oc_CarWay_init kV_CarWay_init dc_CarWay_init pm_CarWay_init cd_CarWay_init ct_CarWay_init : Value} {od_CarWay_init an_CarWay_init : Option Addr} {sl_CarWay_init : Array (Option Value)}
    {f_FootWay_init : Addr} {oc_FootWay_init kV_FootWay_init dc_FootWay_init pm_FootWay_init cd_FootWay_init ct_FootWay_init : Value} {od_FootWay_init an_FootWay_init : Option Addr} {sl_FootWay_init : Array (Option Value)}
    {f_TramWay_init : Addr} {oc_TramWay_init kV_TramWay_init dc_TramWay_init pm_TramWay_init cd_TramWay_init ct_TramWay_init : Value} {od_TramWay_init an_TramWay_init : Option Addr} {sl_TramWay_init : Array (Option Value)}
    {f_Crossing_init : Addr} {oc_Crossing_init kV_Crossing_init dc_Crossing_init pm_Crossing_init cd_Crossing_init ct_Crossing_init : Value} {od_Crossing_init an_Crossing_init : Option Addr} {sl_Crossing_init : Array (Option Value)}
    {f_Crossing_number : Addr} {oc_Crossing_number kV_Crossing_number dc_Crossing_number pm_Crossing_number cd_Crossing_number ct_Crossing_number : Value} {od_Crossing_number an_Crossing_number : Option Addr} {sl_Crossing_number : Array (Option Value)}
    {f_Crossing_called : Addr} {oc_Crossing_called kV_Crossing_called dc_Crossing_called pm_Crossing_called cd_Crossing_called ct_Crossing_called : Value} {od_Crossing_called an_Crossing_called : Option Addr} {sl_Crossing_called : Array (Option Value)}
    {c_RowReader : Addr}
    {c_Way : Addr}
    {c_CarWay : Addr}
    {c_FootWay : Addr}
    {c_TramWay : Addr}
    {c_Crossing : Addr}
    {c_LampError : Addr}
    {c_NoText : Addr}
    {tk_FIGURES : Tok}
    {tk_LEAST_PLACES : Tok}
    {tk_LETTERS : Tok}
    {tk_MOST_FIGURES : Tok}
    {tk_MOST_LEAST : Tok}
    {tk_MOST_LETTERS : Tok}
    {tk_MOST_NEAR : Tok}
    {tk_MOST_OFF : Tok}
    {tk_MOST_PLACES : Tok}
    {tk_MOST_WAYS : Tok}
    (e1_words : PySem.W.nsIn K mainGlobals "words" = some (some (.ref f_words)))
    (e2_words : K.lookup f_words = some ⟨oc_words, od_words, .func (PySem.W.fnOf "words" "words" (defArgs s_words) (defBody s_words) (defScope s_words) .none kV_words dc_words pm_words an_words cd_words ct_words), sl_words⟩)
    (e3_words : PySem.W.codeIn K cd_words "words" = true)
    (e4_words : PySem.W.keepIn K (.ref f_words) = true)
    (e1_is_made_of : PySem.W.nsIn K mainGlobals "is_made_of" = some (some (.ref f_is_made_of)))
    (e2_is_made_of : K.lookup f_is_made_of = some ⟨oc_is_made_of, od_is_made_of, .func (PySem.W.fnOf "is_made_of" "is_made_of" (defArgs s_is_made_of) (defBody s_is_made_of) (defScope s_is_made_of) .none kV_is_made_of dc_is_made_of pm_is_made_of an_is_made_of cd_is_made_of ct_is_made_of), sl_is_made_of⟩)
    (e3_is_made_of : PySem.W.codeIn K cd_is_made_of "is_made_of" = true)
    (e4_is_made_of : PySem.W.keepIn K (.ref f_is_made_of) = true)
    (e1_is_number : PySem.W.nsIn K mainGlobals "is_number" = some (some (.ref f_is_number)))
    (e2_is_number : K.lookup f_is_number = some ⟨oc_is_number, od_is_number, .func (PySem.W.fnOf "is_number" "is_number" (defArgs s_is_number) (defBody s_is_number) (defScope s_is_number) .none kV_is_number dc_is_number pm_is_number an_is_number cd_is_number ct_is_number), sl_is_number⟩)
    (e3_is_number : PySem.W.codeIn K cd_is_number "is_number" = true)
    (e4_is_number : PySem.W.keepIn K (.ref f_is_number) = true)
    (e1_figured : PySem.W.nsIn K mainGlobals "figured" = some (some (.ref f_figured)))
    (e2_figured : K.lookup f_figured = some ⟨oc_figured, od_figured, .func (PySem.W.fnOf "figured" "figured" (defArgs s_figured) (defBody s_figured) (defScope s_figured) .none kV_figured dc_figured pm_figured an_figured cd_figured ct_figured), sl_figured⟩)
    (e3_figured : PySem.W.codeIn K cd_figured "figured" = true)
    (e4_figured : PySem.W.keepIn K (.ref f_figured) = true)
    (e1_is_name : PySem.W.nsIn K mainGlobals "is_name" = some (some (.ref f_is_name)))
    (e2_is_name : K.lookup f_is_name = some ⟨oc_is_name, od_is_name, .func (PySem.W.fnOf "is_name" "is_name" (defArgs s_is_name) (defBody s_is_name) (defScope s_is_name) .none kV_is_name dc_is_name pm_is_name an_is_name cd_is_name ct_is_name), sl_is_name⟩)
    (e3_is_name : PySem.W.codeIn K cd_is_name "is_name" = true)
    (e4_is_name : PySem.W.keepIn K (.ref f_is_name) = true)
    (e1_readers : PySem.W.nsIn K mainGlobals "readers" = some (some (.ref f_readers)))
    (e2_readers : K.lookup f_readers = some ⟨oc_readers, od_readers, .func (PySem.W.fnOf "readers" "readers" (defArgs s_readers) (defBody s_readers) (defScope s_readers) .none kV_readers dc_readers pm_readers an_readers cd_readers ct_readers), sl_readers⟩)
    (e3_readers : PySem.W.codeIn K cd_readers "readers" = true)
    (e4_readers : PySem.W.keepIn K (.ref f_readers) = true)
    (e1_read_ring : PySem.W.nsIn K mainGlobals "read_ring" = some (some (.ref f_read_ring)))
    (e2_read_ring : K.lookup f_read_ring = some ⟨oc_read_ring, od_read_ring, .func (PySem.W.fnOf "read_ring" "read_ring" (defArgs s_read_ring) (defBody s_read_ring) (defScope s_read_ring) .none kV_read_ring dc_read_ring pm_read_ring an_read_ring cd_read_ring ct_read_ring), sl_read_ring⟩)
    (e3_read_ring : PySem.W.codeIn K cd_read_ring "read_ring" = true)
    (e4_read_ring : PySem.W.keepIn K (.ref f_read_ring) = true)
    (e1_read_new_name : PySem.W.nsIn K mainGlobals "read_new_name" = some (some (.ref f_read_new_name)))
    (e2_read_new_name : K.lookup f_read_new_name = some ⟨oc_read_new_name, od_read_new_name, .func (PySem.W.fnOf "read_new_name" "read_new_name" (defArgs s_read_new_name) (defBody s_read_new_name) (defScope s_read_new_name) .none kV_read_new_name dc_read_new_name pm_read_new_name an_read_new_name cd_read_new_name ct_read_new_name), sl_read_new_name⟩)
    (e3_read_new_name : PySem.W.codeIn K cd_read_new_name "read_new_name" = true)
    (e4_read_new_name : PySem.W.keepIn K (.ref f_read_new_name) = true)
    (e1_read_end : PySem.W.nsIn K mainGlobals "read_end" = some (some (.ref f_read_end)))
    (e2_read_end : K.lookup f_read_end = some ⟨oc_read_end, od_read_end, .func (PySem.W.fnOf "read_end" "read_end" (defArgs s_read_end) (defBody s_read_end) (defScope s_read_end) .none kV_read_end dc_read_end pm_read_end an_read_end cd_read_end ct_read_end), sl_read_end⟩)
    (e3_read_end : PySem.W.codeIn K cd_read_end "read_end" = true)
    (e4_read_end : PySem.W.keepIn K (.ref f_read_end) = true)
    (e1_made_way : PySem.W.nsIn K mainGlobals "made_way" = some (some (.ref f_made_way)))
    (e2_made_way : K.lookup f_made_way = some ⟨oc_made_way, od_made_way, .func (PySem.W.fnOf "made_way" "made_way" (defArgs s_made_way) (defBody s_made_way) (defScope s_made_way) .none kV_made_way dc_made_way pm_made_way an_made_way cd_made_way ct_made_way), sl_made_way⟩)
    (e3_made_way : PySem.W.codeIn K cd_made_way "made_way" = true)
    (e4_made_way : PySem.W.keepIn K (.ref f_made_way) = true)
    (e1_read_way : PySem.W.nsIn K mainGlobals "read_way" = some (some (.ref f_read_way)))
    (e2_read_way : K.lookup f_read_way = some ⟨oc_read_way, od_read_way, .func (PySem.W.fnOf "read_way" "read_way" (defArgs s_read_way) (defBody s_read_way) (defScope s_read_way) .none kV_read_way dc_read_way pm_read_way an_read_way cd_read_way ct_read_way), sl_read_way⟩)
    (e3_read_way : PySem.W.codeIn K cd_read_way "read_way" = true)
    (e4_read_way : PySem.W.keepIn K (.ref f_read_way) = true)
    (e1_read_crossing : PySem.W.nsIn K mainGlobals "read_crossing" = some (some (.ref f_read_crossing)))
    (e2_read_crossing : K.lookup f_read_crossing = some ⟨oc_read_crossing, od_read_crossing, .func (PySem.W.fnOf "read_crossing" "read_crossing" (defArgs s_read_crossing) (defBody s_read_crossing) (defScope s_read_crossing) .none kV_read_crossing dc_read_crossing pm_read_crossing an_read_crossing cd_read_crossing ct_read_crossing), sl_read_crossing⟩)
    (e3_read_crossing : PySem.W.codeIn K cd_read_crossing "read_crossing" = true)
    (e4_read_crossing : PySem.W.keepIn K (.ref f_read_crossing) = true)
    (e1__law_draw : PySem.W.nsIn K mainGlobals "_law_draw" = some (some (.ref f__law_draw)))
    (e2__law_draw : K.lookup f__law_draw = some ⟨oc__law_draw, od__law_draw, .func (PySem.W.fnOf "_law_draw" "_law_draw" (defArgs s__law_draw) (defBody s__law_draw) (defScope s__law_draw) .none kV__law_draw dc__law_draw pm__law_draw an__law_draw cd__law_draw ct__law_draw), sl__law_draw⟩)
    (e3__law_draw : PySem.W.codeIn K cd__law_draw "_law_draw" = true)
    (e4__law_draw : PySem.W.keepIn K (.ref f__law_draw) = true)
    (e1__law_rows : PySem.W.nsIn K mainGlobals "_law_rows" = some (some (.ref f__law_rows)))
    (e2__law_rows : K.lookup f__law_rows = some ⟨oc__law_rows, od__law_rows, .func (PySem.W.fnOf "_law_rows" "_law_rows" (defArgs s__law_rows) (defBody s__law_rows) (defScope s__law_rows) .none kV__law_rows dc__law_rows pm__law_rows an__law_rows cd__law_rows ct__law_rows), sl__law_rows⟩)
    (e3__law_rows : PySem.W.codeIn K cd__law_rows "_law_rows" = true)
    (e4__law_rows : PySem.W.keepIn K (.ref f__law_rows) = true)
    (e1__law_beyond : PySem.W.nsIn K mainGlobals "_law_beyond" = some (some (.ref f__law_beyond)))
    (e2__law_beyond : K.lookup f__law_beyond = some ⟨oc__law_beyond, od__law_beyond, .func (PySem.W.fnOf "_law_beyond" "_law_beyond" (defArgs s__law_beyond) (defBody s__law_beyond) (defScope s__law_beyond) .none kV__law_beyond dc__law_beyond pm__law_beyond an__law_beyond cd__law_beyond ct__law_beyond), sl__law_beyond⟩)
    (e3__law_beyond : PySem.W.codeIn K cd__law_beyond "_law_beyond" = true)
    (e4__law_beyond : PySem.W.keepIn K (.ref f__law_beyond) = true)
    (e1__law_low : PySem.W.nsIn K mainGlobals "_law_low" = some (some (.ref f__law_low)))
    (e2__law_low : K.lookup f__law_low = some ⟨oc__law_low, od__law_low, .func (PySem.W.fnOf "_law_low" "_law_low" (defArgs s__law_low) (defBody s__law_low) (defScope s__law_low) .none kV__law_low dc__law_low pm__law_low an__law_low cd__law_low ct__law_low), sl__law_low⟩)
    (e3__law_low : PySem.W.codeIn K cd__law_low "_law_low" = true)
    (e4__law_low : PySem.W.keepIn K (.ref f__law_low) = true)
    (e1__law_spoiled : PySem.W.nsIn K mainGlobals "_law_spoiled" = some (some (.ref f__law_spoiled)))
    (e2__law_spoiled : K.lookup f__law_spoiled = some ⟨oc__law_spoiled, od__law_spoiled, .func (PySem.W.fnOf "_law_spoiled" "_law_spoiled" (defArgs s__law_spoiled) (defBody s__law_spoiled) (defScope s__law_spoiled) .none kV__law_spoiled dc__law_spoiled pm__law_spoiled an__law_spoiled cd__law_spoiled ct__law_spoiled), sl__law_spoiled⟩)
    (e3__law_spoiled : PySem.W.codeIn K cd__law_spoiled "_law_spoiled" = true)
    (e4__law_spoiled : PySem.W.keepIn K (.ref f__law_spoiled) = true)
    (e1__law_other : PySem.W.nsIn K mainGlobals "_law_other" = some (some (.ref f__law_other)))
    (e2__law_other : K.lookup f__law_other = some ⟨oc__law_other, od__law_other, .func (PySem.W.fnOf "_law_other" "_law_other" (defArgs s__law_other) (defBody s__law_other) (defScope s__law_other) .none kV__law_other dc__law_other pm__law_other an__law_other cd__law_other ct__law_other), sl__law_other⟩)
    (e3__law_other : PySem.W.codeIn K cd__law_other "_law_other" = true)
    (e4__law_other : PySem.W.keepIn K (.ref f__law_other) = true)
    (e1__law_asked : PySem.W.nsIn K mainGlobals "_law_asked" = some (some (.ref f__law_asked)))
    (e2__law_asked : K.lookup f__law_asked = some ⟨oc__law_asked, od__law_asked, .func (PySem.W.fnOf "_law_asked" "_law_asked" (defArgs s__law_asked) (defBody s__law_asked) (defScope s__law_asked) .none kV__law_asked dc__law_asked pm__law_asked an__law_asked cd__law_asked ct__law_asked), sl__law_asked⟩)
    (e3__law_asked : PySem.W.codeIn K cd__law_asked "_law_asked" = true)
    (e4__law_asked : PySem.W.keepIn K (.ref f__law_asked) = true)
    (e1_law : PySem.W.nsIn K mainGlobals "law" = some (some (.ref f_law)))
    (e2_law : K.lookup f_law = some ⟨oc_law, od_law, .func (PySem.W.fnOf "law" "law" (defArgs s_law) (defBody s_law) (defScope s_law) .none kV_law dc_law pm_law an_law cd_law ct_law), sl_law⟩)
    (e3_law : PySem.W.codeIn K cd_law "law" = true)
    (e4_law : PySem.W.keepIn K (.ref f_law) = true)
    (eC_NoText : PySem.W.nsIn K mainGlobals "NoText" = some (some (.ref c_NoText)))
    (e1_NoText_init : PySem.W.findIn K (.ref c_NoText) "__init__" = some (some (.ref f_NoText_init)))
    (e2_NoText_init : K.lookup f_NoText_init = some ⟨oc_NoText_init, od_NoText_init, .func (PySem.W.fnOf "__init__" "NoText.__init__" (defArgs s_NoText_init) (defBody s_NoText_init) (defScope s_NoText_init) .none kV_NoText_init dc_NoText_init pm_NoText_init an_NoText_init cd_NoText_init ct_NoText_init), sl_NoText_init⟩)
    (e3_NoText_init : PySem.W.codeIn K cd_NoText_init "NoText.__init__" = true)
    (e4_NoText_init : PySem.W.keepIn K (.ref f_NoText_init) = true)
    (i_NoText_init : PySem.W.isFn K (.ref f_NoText_init) = true)
    (eC_RowReader : PySem.W.nsIn K mainGlobals "RowReader" = some (some (.ref c_RowReader)))
    (e1_RowReader_init : PySem.W.findIn K (.ref c_RowReader) "__init__" = some (some (.ref f_RowReader_init)))
    (e2_RowReader_init : K.lookup f_RowReader_init = some ⟨oc_RowReader_init, od_RowReader_init, .func (PySem.W.fnOf "__init__" "RowReader.__init__" (defArgs s_RowReader_init) (defBody s_RowReader_init) (defScope s_RowReader_init) .none kV_RowReader_init dc_RowReader_init pm_RowReader_init an_RowReader_init cd_RowReader_init ct_RowReader_init), sl_RowReader_init⟩)
    (e3_RowReader_init : PySem.W.codeIn K cd_RowReader_init "RowReader.__init__" = true)
    (e4_RowReader_init : PySem.W.keepIn K (.ref f_RowReader_init) = true)
    (i_RowReader_init : PySem.W.isFn K (.ref f_RowReader_init) = true)
    (e1_RowReader_ahead : PySem.W.findIn K (.ref c_RowReader) "ahead" = some (some (.ref f_RowReader_ahead)))
    (e2_RowReader_ahead : K.lookup f_RowReader_ahead = some ⟨oc_RowReader_ahead, od_RowReader_ahead, .func (PySem.W.fnOf "ahead" "RowReader.ahead" (defArgs s_RowReader_ahead) (defBody s_RowReader_ahead) (defScope s_RowReader_ahead) .none kV_RowReader_ahead dc_RowReader_ahead pm_RowReader_ahead an_RowReader_ahead cd_RowReader_ahead ct_RowReader_ahead), sl_RowReader_ahead⟩)
    (e3_RowReader_ahead : PySem.W.codeIn K cd_RowReader_ahead "RowReader.ahead" = true)
    (e4_RowReader_ahead : PySem.W.keepIn K (.ref f_RowReader_ahead) = true)
    (i_RowReader_ahead : PySem.W.isFn K (.ref f_RowReader_ahead) = true)
    (e1_RowReader_has_more : PySem.W.findIn K (.ref c_RowReader) "has_more" = some (some (.ref f_RowReader_has_more)))
    (e2_RowReader_has_more : K.lookup f_RowReader_has_more = some ⟨oc_RowReader_has_more, od_RowReader_has_more, .func (PySem.W.fnOf "has_more" "RowReader.has_more" (defArgs s_RowReader_has_more) (defBody s_RowReader_has_more) (defScope s_RowReader_has_more) .none kV_RowReader_has_more dc_RowReader_has_more pm_RowReader_has_more an_RowReader_has_more cd_RowReader_has_more ct_RowReader_has_more), sl_RowReader_has_more⟩)
    (e3_RowReader_has_more : PySem.W.codeIn K cd_RowReader_has_more "RowReader.has_more" = true)
    (e4_RowReader_has_more : PySem.W.keepIn K (.ref f_RowReader_has_more) = true)
    (i_RowReader_has_more : PySem.W.isFn K (.ref f_RowReader_has_more) = true)
    (e1_RowReader_refuse : PySem.W.findIn K (.ref c_RowReader) "refuse" = some (some (.ref f_RowReader_refuse)))
    (e2_RowReader_refuse : K.lookup f_RowReader_refuse = some ⟨oc_RowReader_refuse, od_RowReader_refuse, .func (PySem.W.fnOf "refuse" "RowReader.refuse" (defArgs s_RowReader_refuse) (defBody s_RowReader_refuse) (defScope s_RowReader_refuse) .none kV_RowReader_refuse dc_RowReader_refuse pm_RowReader_refuse an_RowReader_refuse cd_RowReader_refuse ct_RowReader_refuse), sl_RowReader_refuse⟩)
    (e3_RowReader_refuse : PySem.W.codeIn K cd_RowReader_refuse "RowReader.refuse" = true)
    (e4_RowReader_refuse : PySem.W.keepIn K (.ref f_RowReader_refuse) = true)
    (i_RowReader_refuse : PySem.W.isFn K (.ref f_RowReader_refuse) = true)
    (e1_RowReader_take : PySem.W.findIn K (.ref c_RowReader) "take" = some (some (.ref f_RowReader_take)))
    (e2_RowReader_take : K.lookup f_RowReader_take = some ⟨oc_RowReader_take, od_RowReader_take, .func (PySem.W.fnOf "take" "RowReader.take" (defArgs s_RowReader_take) (defBody s_RowReader_take) (defScope s_RowReader_take) .none kV_RowReader_take dc_RowReader_take pm_RowReader_take an_RowReader_take cd_RowReader_take ct_RowReader_take), sl_RowReader_take⟩)
    (e3_RowReader_take : PySem.W.codeIn K cd_RowReader_take "RowReader.take" = true)
    (e4_RowReader_take : PySem.W.keepIn K (.ref f_RowReader_take) = true)
    (i_RowReader_take : PySem.W.isFn K (.ref f_RowReader_take) = true)
    (e1_RowReader_one_of : PySem.W.findIn K (.ref c_RowReader) "one_of" = some (some (.ref f_RowReader_one_of)))
    (e2_RowReader_one_of : K.lookup f_RowReader_one_of = some ⟨oc_RowReader_one_of, od_RowReader_one_of, .func (PySem.W.fnOf "one_of" "RowReader.one_of" (defArgs s_RowReader_one_of) (defBody s_RowReader_one_of) (defScope s_RowReader_one_of) .none kV_RowReader_one_of dc_RowReader_one_of pm_RowReader_one_of an_RowReader_one_of cd_RowReader_one_of ct_RowReader_one_of), sl_RowReader_one_of⟩)
    (e3_RowReader_one_of : PySem.W.codeIn K cd_RowReader_one_of "RowReader.one_of" = true)
    (e4_RowReader_one_of : PySem.W.keepIn K (.ref f_RowReader_one_of) = true)
    (i_RowReader_one_of : PySem.W.isFn K (.ref f_RowReader_one_of) = true)
    (e1_RowReader_figures : PySem.W.findIn K (.ref c_RowReader) "figures" = some (some (.ref f_RowReader_figures)))
    (e2_RowReader_figures : K.lookup f_RowReader_figures = some ⟨oc_RowReader_figures, od_RowReader_figures, .func (PySem.W.fnOf "figures" "RowReader.figures" (defArgs s_RowReader_figures) (defBody s_RowReader_figures) (defScope s_RowReader_figures) .none kV_RowReader_figures dc_RowReader_figures pm_RowReader_figures an_RowReader_figures cd_RowReader_figures ct_RowReader_figures), sl_RowReader_figures⟩)
    (e3_RowReader_figures : PySem.W.codeIn K cd_RowReader_figures "RowReader.figures" = true)
    (e4_RowReader_figures : PySem.W.keepIn K (.ref f_RowReader_figures) = true)
    (i_RowReader_figures : PySem.W.isFn K (.ref f_RowReader_figures) = true)
    (e1_RowReader_finish : PySem.W.findIn K (.ref c_RowReader) "finish" = some (some (.ref f_RowReader_finish)))
    (e2_RowReader_finish : K.lookup f_RowReader_finish = some ⟨oc_RowReader_finish, od_RowReader_finish, .func (PySem.W.fnOf "finish" "RowReader.finish" (defArgs s_RowReader_finish) (defBody s_RowReader_finish) (defScope s_RowReader_finish) .none kV_RowReader_finish dc_RowReader_finish pm_RowReader_finish an_RowReader_finish cd_RowReader_finish ct_RowReader_finish), sl_RowReader_finish⟩)
    (e3_RowReader_finish : PySem.W.codeIn K cd_RowReader_finish "RowReader.finish" = true)
    (e4_RowReader_finish : PySem.W.keepIn K (.ref f_RowReader_finish) = true)
    (i_RowReader_finish : PySem.W.isFn K (.ref f_RowReader_finish) = true)
    (eC_Way : PySem.W.nsIn K mainGlobals "Way" = some (some (.ref c_Way)))
    (e1_Way_init : PySem.W.findIn K (.ref c_Way) "__init__" = some (some (.ref f_Way_init)))
    (e2_Way_init : K.lookup f_Way_init = some ⟨oc_Way_init, od_Way_init, .func (PySem.W.fnOf "__init__" "Way.__init__" (defArgs s_Way_init) (defBody s_Way_init) (defScope s_Way_init) .none kV_Way_init dc_Way_init pm_Way_init an_Way_init cd_Way_init ct_Way_init), sl_Way_init⟩)
    (e3_Way_init : PySem.W.codeIn K cd_Way_init "Way.__init__" = true)
    (e4_Way_init : PySem.W.keepIn K (.ref f_Way_init) = true)
    (i_Way_init : PySem.W.isFn K (.ref f_Way_init) = true)
    (eC_CarWay : PySem.W.nsIn K mainGlobals "CarWay" = some (some (.ref c_CarWay)))
    (e1_CarWay_init : PySem.W.findIn K (.ref c_CarWay) "__init__" = some (some (.ref f_CarWay_init)))
    (e2_CarWay_init : K.lookup f_CarWay_init = some ⟨oc_CarWay_init, od_CarWay_init, .func (PySem.W.fnOf "__init__" "CarWay.__init__" (defArgs s_CarWay_init) (defBody s_CarWay_init) (defScope s_CarWay_init) .none kV_CarWay_init dc_CarWay_init pm_CarWay_init an_CarWay_init cd_CarWay_init ct_CarWay_init), sl_CarWay_init⟩)
    (e3_CarWay_init : PySem.W.codeIn K cd_CarWay_init "CarWay.__init__" = true)
    (e4_CarWay_init : PySem.W.keepIn K (.ref f_CarWay_init) = true)
    (i_CarWay_init : PySem.W.isFn K (.ref f_CarWay_init) = true)
    (eC_FootWay : PySem.W.nsIn K mainGlobals "FootWay" = some (some (.ref c_FootWay)))
    (e1_FootWay_init : PySem.W.findIn K (.ref c_FootWay) "__init__" = some (some (.ref f_FootWay_init)))
    (e2_FootWay_init : K.lookup f_FootWay_init = some ⟨oc_FootWay_init, od_FootWay_init, .func (PySem.W.fnOf "__init__" "FootWay.__init__" (defArgs s_FootWay_init) (defBody s_FootWay_init) (defScope s_FootWay_init) .none kV_FootWay_init dc_FootWay_init pm_FootWay_init an_FootWay_init cd_FootWay_init ct_FootWay_init), sl_FootWay_init⟩)
    (e3_FootWay_init : PySem.W.codeIn K cd_FootWay_init "FootWay.__init__" = true)
    (e4_FootWay_init : PySem.W.keepIn K (.ref f_FootWay_init) = true)
    (i_FootWay_init : PySem.W.isFn K (.ref f_FootWay_init) = true)
    (eC_TramWay : PySem.W.nsIn K mainGlobals "TramWay" = some (some (.ref c_TramWay)))
    (e1_TramWay_init : PySem.W.findIn K (.ref c_TramWay) "__init__" = some (some (.ref f_TramWay_init)))
    (e2_TramWay_init : K.lookup f_TramWay_init = some ⟨oc_TramWay_init, od_TramWay_init, .func (PySem.W.fnOf "__init__" "TramWay.__init__" (defArgs s_TramWay_init) (defBody s_TramWay_init) (defScope s_TramWay_init) .none kV_TramWay_init dc_TramWay_init pm_TramWay_init an_TramWay_init cd_TramWay_init ct_TramWay_init), sl_TramWay_init⟩)
    (e3_TramWay_init : PySem.W.codeIn K cd_TramWay_init "TramWay.__init__" = true)
    (e4_TramWay_init : PySem.W.keepIn K (.ref f_TramWay_init) = true)
    (i_TramWay_init : PySem.W.isFn K (.ref f_TramWay_init) = true)
    (eC_Crossing : PySem.W.nsIn K mainGlobals "Crossing" = some (some (.ref c_Crossing)))
    (e1_Crossing_init : PySem.W.findIn K (.ref c_Crossing) "__init__" = some (some (.ref f_Crossing_init)))
    (e2_Crossing_init : K.lookup f_Crossing_init = some ⟨oc_Crossing_init, od_Crossing_init, .func (PySem.W.fnOf "__init__" "Crossing.__init__" (defArgs s_Crossing_init) (defBody s_Crossing_init) (defScope s_Crossing_init) .none kV_Crossing_init dc_Crossing_init pm_Crossing_init an_Crossing_init cd_Crossing_init ct_Crossing_init), sl_Crossing_init⟩)
    (e3_Crossing_init : PySem.W.codeIn K cd_Crossing_init "Crossing.__init__" = true)
    (e4_Crossing_init : PySem.W.keepIn K (.ref f_Crossing_init) = true)
    (i_Crossing_init : PySem.W.isFn K (.ref f_Crossing_init) = true)
    (e1_Crossing_number : PySem.W.findIn K (.ref c_Crossing) "number" = some (some (.ref f_Crossing_number)))
    (e2_Crossing_number : K.lookup f_Crossing_number = some ⟨oc_Crossing_number, od_Crossing_number, .func (PySem.W.fnOf "number" "Crossing.number" (defArgs s_Crossing_number) (defBody s_Crossing_number) (defScope s_Crossing_number) .none kV_Crossing_number dc_Crossing_number pm_Crossing_number an_Crossing_number cd_Crossing_number ct_Crossing_number), sl_Crossing_number⟩)
    (e3_Crossing_number : PySem.W.codeIn K cd_Crossing_number "Crossing.number" = true)
    (e4_Crossing_number : PySem.W.keepIn K (.ref f_Crossing_number) = true)
    (i_Crossing_number : PySem.W.isFn K (.ref f_Crossing_number) = true)
    (e1_Crossing_called : PySem.W.findIn K (.ref c_Crossing) "called" = some (some (.ref f_Crossing_called)))
    (e2_Crossing_called : K.lookup f_Crossing_called = some ⟨oc_Crossing_called, od_Crossing_called, .func (PySem.W.fnOf "called" "Crossing.called" (defArgs s_Crossing_called) (defBody s_Crossing_called) (defScope s_Crossing_called) .none kV_Crossing_called dc_Crossing_called pm_Crossing_called an_Crossing_called cd_Crossing_called ct_Crossing_called), sl_Crossing_called⟩)
    (e3_Crossing_called : PySem.W.codeIn K cd_Crossing_called "Crossing.called" = true)
    (e4_Crossing_called : PySem.W.keepIn K (.ref f_Crossing_called) = true)
    (i_Crossing_called : PySem.W.isFn K (.ref f_Crossing_called) = true)
    (pg_RowReader : PySem.W.plainGet K c_RowReader Str.empty = true)
    (hd_RowReader : PySem.W.hasDictIn K c_RowReader = true)
    (po_RowReader : PySem.W.plainOver K c_RowReader = true)
    (sa_RowReader : PySem.W.findIn K (.ref c_RowReader) "__setattr__" = some (some (.builtin "object.__setattr__")))
    (mk_RowReader : PySem.W.makesIn K c_RowReader = true)
    (kc_RowReader : PySem.W.keepIn K (.ref c_RowReader) = true)
    (nA_RowReader_row : PySem.W.findIn K (.ref c_RowReader) "row" = some none)
    (nA_RowReader_told : PySem.W.findIn K (.ref c_RowReader) "told" = some none)
    (nA_RowReader_place : PySem.W.findIn K (.ref c_RowReader) "place" = some none)
    (pg_Way : PySem.W.plainGet K c_Way Str.empty = true)
    (hd_Way : PySem.W.hasDictIn K c_Way = true)
    (po_Way : PySem.W.plainOver K c_Way = true)
    (sa_Way : PySem.W.findIn K (.ref c_Way) "__setattr__" = some (some (.builtin "object.__setattr__")))
    (nA_Way_kind : PySem.W.findIn K (.ref c_Way) "kind" = some none)
    (nA_Way_name : PySem.W.findIn K (.ref c_Way) "name" = some none)
    (nA_Way_start : PySem.W.findIn K (.ref c_Way) "start" = some none)
    (nA_Way_end : PySem.W.findIn K (.ref c_Way) "end" = some none)
    (nA_Way_off : PySem.W.findIn K (.ref c_Way) "off" = some none)
    (nA_Way_near : PySem.W.findIn K (.ref c_Way) "near" = some none)
    (nA_Way_least : PySem.W.findIn K (.ref c_Way) "least" = some none)
    (pg_CarWay : PySem.W.plainGet K c_CarWay Str.empty = true)
    (hd_CarWay : PySem.W.hasDictIn K c_CarWay = true)
    (po_CarWay : PySem.W.plainOver K c_CarWay = true)
    (sa_CarWay : PySem.W.findIn K (.ref c_CarWay) "__setattr__" = some (some (.builtin "object.__setattr__")))
    (mk_CarWay : PySem.W.makesIn K c_CarWay = true)
    (kc_CarWay : PySem.W.keepIn K (.ref c_CarWay) = true)
    (nA_CarWay_kind : PySem.W.findIn K (.ref c_CarWay) "kind" = some none)
    (nA_CarWay_name : PySem.W.findIn K (.ref c_CarWay) "name" = some none)
    (nA_CarWay_start : PySem.W.findIn K (.ref c_CarWay) "start" = some none)
    (nA_CarWay_end : PySem.W.findIn K (.ref c_CarWay) "end" = some none)
    (nA_CarWay_off : PySem.W.findIn K (.ref c_CarWay) "off" = some none)
    (nA_CarWay_near : PySem.W.findIn K (.ref c_CarWay) "near" = some none)
    (nA_CarWay_least : PySem.W.findIn K (.ref c_CarWay) "least" = some none)
    (pg_FootWay : PySem.W.plainGet K c_FootWay Str.empty = true)
    (hd_FootWay : PySem.W.hasDictIn K c_FootWay = true)
    (po_FootWay : PySem.W.plainOver K c_FootWay = true)
    (sa_FootWay : PySem.W.findIn K (.ref c_FootWay) "__setattr__" = some (some (.builtin "object.__setattr__")))
    (mk_FootWay : PySem.W.makesIn K c_FootWay = true)
    (kc_FootWay : PySem.W.keepIn K (.ref c_FootWay) = true)
    (nA_FootWay_kind : PySem.W.findIn K (.ref c_FootWay) "kind" = some none)
    (nA_FootWay_name : PySem.W.findIn K (.ref c_FootWay) "name" = some none)
    (nA_FootWay_start : PySem.W.findIn K (.ref c_FootWay) "start" = some none)
    (nA_FootWay_end : PySem.W.findIn K (.ref c_FootWay) "end" = some none)
    (nA_FootWay_off : PySem.W.findIn K (.ref c_FootWay) "off" = some none)
    (nA_FootWay_near : PySem.W.findIn K (.ref c_FootWay) "near" = some none)
    (nA_FootWay_least : PySem.W.findIn K (.ref c_FootWay) "least" = some none)
    (pg_TramWay : PySem.W.plainGet K c_TramWay Str.empty = true)
    (hd_TramWay : PySem.W.hasDictIn K c_TramWay = true)
    (po_TramWay : PySem.W.plainOver K c_TramWay = true)
    (sa_TramWay : PySem.W.findIn K (.ref c_TramWay) "__setattr__" = some (some (.builtin "object.__setattr__")))
    (mk_TramWay : PySem.W.makesIn K c_TramWay = true)
    (kc_TramWay : PySem.W.keepIn K (.ref c_TramWay) = true)
    (nA_TramWay_kind : PySem.W.findIn K (.ref c_TramWay) "kind" = some none)
    (nA_TramWay_name : PySem.W.findIn K (.ref c_TramWay) "name" = some none)
    (nA_TramWay_start : PySem.W.findIn K (.ref c_TramWay) "start" = some none)
    (nA_TramWay_end : PySem.W.findIn K (.ref c_TramWay) "end" = some none)
    (nA_TramWay_off : PySem.W.findIn K (.ref c_TramWay) "off" = some none)
    (nA_TramWay_near : PySem.W.findIn K (.ref c_TramWay) "near" = some none)
    (nA_TramWay_least : PySem.W.findIn K (.ref c_TramWay) "least" = some none)
    (pg_Crossing : PySem.W.plainGet K c_Crossing Str.empty = true)
    (hd_Crossing : PySem.W.hasDictIn K c_Crossing = true)
    (po_Crossing : PySem.W.plainOver K c_Crossing = true)
    (sa_Crossing : PySem.W.findIn K (.ref c_Crossing) "__setattr__" = some (some (.builtin "object.__setattr__")))
    (mk_Crossing : PySem.W.makesIn K c_Crossing = true)
    (kc_Crossing : PySem.W.keepIn K (.ref c_Crossing) = true)
    (nA_Crossing_places : PySem.W.findIn K (.ref c_Crossing) "places" = some none)
    (nA_Crossing_ways : PySem.W.findIn K (.ref c_Crossing) "ways" = some none)
    (nA_Crossing_numbers : PySem.W.findIn K (.ref c_Crossing) "numbers" = some none)
    (eC_LampError : PySem.W.nsIn K mainGlobals "LampError" = some (some (.ref c_LampError)))
    (br_LampError : PySem.W.readsIn K c_LampError (.type "type") = true)
    (bf_LampError : PySem.W.findCls K (.ref c_LampError) (.type "type") "__init__" = some (.val (.builtin "ValueError.__init__")))
    (bg_LampError : PySem.W.specialIn K (.ref c_LampError) "__getattribute__" = some (some (.builtin "type.__getattribute__")))
    (hd_NoText : PySem.W.hasDictIn K c_NoText = true)
    (ov_NoText : ((PySem.W.clsIn K c_NoText).any fun cd => overV cd.mro) = true)
    (sa_NoText : PySem.W.findIn K (.ref c_NoText) "__setattr__" = some (some (.builtin "object.__setattr__")))
    (ga_NoText : PySem.W.findIn K (.ref c_NoText) "__getattribute__" = some (some (.builtin "BaseException.__getattribute__")))
    (gt_NoText : PySem.W.findIn K (.ref c_NoText) "__getattr__" = some none)
    (ei_NoText : excInI K c_NoText f_NoText_init = true)
    (kc_NoText : PySem.W.keepIn K (.ref c_NoText) = true)
    (nA_NoText_row : PySem.W.findIn K (.ref c_NoText) "row" = some none)
    (nA_NoText_word : PySem.W.findIn K (.ref c_NoText) "word" = some none)
    (ex_NoText_LampError : PySem.W.exmOne K (.ref c_NoText) (.ref c_LampError) = some true)
    (ex_NoText_NoText : PySem.W.exmOne K (.ref c_NoText) (.ref c_NoText) = some true)
    (dC_Way_CarWay : c_Way ≠ c_CarWay)
    (dC_Way_FootWay : c_Way ≠ c_FootWay)
    (dC_Way_TramWay : c_Way ≠ c_TramWay)
    (dC_CarWay_FootWay : c_CarWay ≠ c_FootWay)
    (dC_CarWay_TramWay : c_CarWay ≠ c_TramWay)
    (dC_FootWay_TramWay : c_FootWay ≠ c_TramWay)
    (cr_Way_init : PySem.W.readsIn K c_Way (.type "type") = true)
    (cf_Way_init : PySem.W.findCls K (.ref c_Way) (.type "type") "__init__" = some (.val (.ref f_Way_init)))
    (cg_Way_init : PySem.W.specialIn K (.ref c_Way) "__getattribute__" = some (some (.builtin "type.__getattribute__")))
    (g_FIGURES : PySem.W.nsIn K mainGlobals "FIGURES" = some (some (.str (Str.ofString "0123456789") tk_FIGURES)))
    (g_LEAST_PLACES : PySem.W.nsIn K mainGlobals "LEAST_PLACES" = some (some (.int 2 tk_LEAST_PLACES)))
    (g_LETTERS : PySem.W.nsIn K mainGlobals "LETTERS" = some (some (.str (Str.ofString "abcdefghijklmnopqrstuvwxyz") tk_LETTERS)))
    (g_MOST_FIGURES : PySem.W.nsIn K mainGlobals "MOST_FIGURES" = some (some (.int 3 tk_MOST_FIGURES)))
    (g_MOST_LEAST : PySem.W.nsIn K mainGlobals "MOST_LEAST" = some (some (.int 60 tk_MOST_LEAST)))
    (g_MOST_LETTERS : PySem.W.nsIn K mainGlobals "MOST_LETTERS" = some (some (.int 8 tk_MOST_LETTERS)))
    (g_MOST_NEAR : PySem.W.nsIn K mainGlobals "MOST_NEAR" = some (some (.int 30 tk_MOST_NEAR)))
    (g_MOST_OFF : PySem.W.nsIn K mainGlobals "MOST_OFF" = some (some (.int 30 tk_MOST_OFF)))
    (g_MOST_PLACES : PySem.W.nsIn K mainGlobals "MOST_PLACES" = some (some (.int 99 tk_MOST_PLACES)))
    (g_MOST_WAYS : PySem.W.nsIn K mainGlobals "MOST_WAYS" = some (some (.int 12 tk_MOST_WAYS)))
    (b_all : PySem.W.nsIn K mainGlobals "all" = some none)
    (b_bool : PySem.W.nsIn K mainGlobals "bool" = some none)
    (b_enumerate : PySem.W.nsIn K mainGlobals "enumerate" = some none)
    (b_int : PySem.W.nsIn K mainGlobals "int" = some none)
    (b_isinstance : PySem.W.nsIn K mainGlobals "isinstance" = some none)
    (b_len : PySem.W.nsIn K mainGlobals "len" = some none)
    (b_list : PySem.W.nsIn K mainGlobals "list" = some none)
    (b_range : PySem.W.nsIn K mainGlobals "range" = some none)
    (b_str : PySem.W.nsIn K mainGlobals "str" = some none) : ∃ t, Txt w K mg t := by
  refine ⟨⟨f_words, PySem.W.fnOf "words" "words" (defArgs s_words) (defBody s_words) (defScope s_words) .none kV_words dc_words pm_words an_words cd_words ct_words, f_is_made_of, PySem.W.fnOf "is_made_of" "is_made_of" (defArgs s_is_made_of) (defBody s_is_made_of) (defScope s_is_made_of) .none kV_is_made_of dc_is_made_of pm_is_made_of an_is_made_of cd_is_made_of ct_is_made_of, f_is_number, PySem.W.fnOf "is_number" "is_number" (defArgs s_is_number) (defBody s_is_number) (defScope s_is_number) .none kV_is_number dc_is_number pm_is_number an_is_number cd_is_number ct_is_number, f_figured, PySem.W.fnOf "figured" "figured" (defArgs s_figured) (defBody s_figured) (defScope s_figured) .none kV_figured dc_figured pm_figured an_figured cd_figured ct_figured, f_is_name, PySem.W.fnOf "is_name" "is_name" (defArgs s_is_name) (defBody s_is_name) (defScope s_is_name) .none kV_is_name dc_is_name pm_is_name an_is_name cd_is_name ct_is_name, f_readers, PySem.W.fnOf "readers" "readers" (defArgs s_readers) (defBody s_readers) (defScope s_readers) .none kV_readers dc_readers pm_readers an_readers cd_readers ct_readers, f_read_ring, PySem.W.fnOf "read_ring" "read_ring" (defArgs s_read_ring) (defBody s_read_ring) (defScope s_read_ring) .none kV_read_ring dc_read_ring pm_read_ring an_read_ring cd_read_ring ct_read_ring, f_read_new_name, PySem.W.fnOf "read_new_name" "read_new_name" (defArgs s_read_new_name) (defBody s_read_new_name) (defScope s_read_new_name) .none kV_read_new_name dc_read_new_name pm_read_new_name an_read_new_name cd_read_new_name ct_read_new_name, f_read_end, PySem.W.fnOf "read_end" "read_end" (defArgs s_read_end) (defBody s_read_end) (defScope s_read_end) .none kV_read_end dc_read_end pm_read_end an_read_end cd_read_end ct_read_end, f_made_way, PySem.W.fnOf "made_way" "made_way" (defArgs s_made_way) (defBody s_made_way) (defScope s_made_way) .none kV_made_way dc_made_way pm_made_way an_made_way cd_made_way ct_made_way, f_read_way, PySem.W.fnOf "read_way" "read_way" (defArgs s_read_way) (defBody s_read_way) (defScope s_read_way) .none kV_read_way dc_read_way pm_read_way an_read_way cd_read_way ct_read_way, f_read_crossing, PySem.W.fnOf "read_crossing" "read_crossing" (defArgs s_read_crossing) (defBody s_read_crossing) (defScope s_read_crossing) .none kV_read_crossing dc_read_crossing pm_read_crossing an_read_crossing cd_read_crossing ct_read_crossing, f__law_draw, PySem.W.fnOf "_law_draw" "_law_draw" (defArgs s__law_draw) (defBody s__law_draw) (defScope s__law_draw) .none kV__law_draw dc__law_draw pm__law_draw an__law_draw cd__law_draw ct__law_draw, f__law_rows, PySem.W.fnOf "_law_rows" "_law_rows" (defArgs s__law_rows) (defBody s__law_rows) (defScope s__law_rows) .none kV__law_rows dc__law_rows pm__law_rows an__law_rows cd__law_rows ct__law_rows, f__law_beyond, PySem.W.fnOf "_law_beyond" "_law_beyond" (defArgs s__law_beyond) (defBody s__law_beyond) (defScope s__law_beyond) .none kV__law_beyond dc__law_beyond pm__law_beyond an__law_beyond cd__law_beyond ct__law_beyond, f__law_low, PySem.W.fnOf "_law_low" "_law_low" (defArgs s__law_low) (defBody s__law_low) (defScope s__law_low) .none kV__law_low dc__law_low pm__law_low an__law_low cd__law_low ct__law_low, f__law_spoiled, PySem.W.fnOf "_law_spoiled" "_law_spoiled" (defArgs s__law_spoiled) (defBody s__law_spoiled) (defScope s__law_spoiled) .none kV__law_spoiled dc__law_spoiled pm__law_spoiled an__law_spoiled cd__law_spoiled ct__law_spoiled, f__law_other, PySem.W.fnOf "_law_other" "_law_other" (defArgs s__law_other) (defBody s__law_other) (defScope s__law_other) .none kV__law_other dc__law_other pm__law_other an__law_other cd__law_other ct__law_other, f__law_asked, PySem.W.fnOf "_law_asked" "_law_asked" (defArgs s__law_asked) (defBody s__law_asked) (defScope s__law_asked) .none kV__law_asked dc__law_asked pm__law_asked an__law_asked cd__law_asked ct__law_asked, f_law, PySem.W.fnOf "law" "law" (defArgs s_law) (defBody s_law) (defScope s_law) .none kV_law dc_law pm_law an_law cd_law ct_law, f_NoText_init, PySem.W.fnOf "__init__" "NoText.__init__" (defArgs s_NoText_init) (defBody s_NoText_init) (defScope s_NoText_init) .none kV_NoText_init dc_NoText_init pm_NoText_init an_NoText_init cd_NoText_init ct_NoText_init, f_RowReader_init, PySem.W.fnOf "__init__" "RowReader.__init__" (defArgs s_RowReader_init) (defBody s_RowReader_init) (defScope s_RowReader_init) .none kV_RowReader_init dc_RowReader_init pm_RowReader_init an_RowReader_init cd_RowReader_init ct_RowReader_init, f_RowReader_ahead, PySem.W.fnOf "ahead" "RowReader.ahead" (defArgs s_RowReader_ahead) (defBody s_RowReader_ahead) (defScope s_RowReader_ahead) .none kV_RowReader_ahead dc_RowReader_ahead pm_RowReader_ahead an_RowReader_ahead cd_RowReader_ahead ct_RowReader_ahead, f_RowReader_has_more, PySem.W.fnOf "has_more" "RowReader.has_more" (defArgs s_RowReader_has_more) (defBody s_RowReader_has_more) (defScope s_RowReader_has_more) .none kV_RowReader_has_more dc_RowReader_has_more pm_RowReader_has_more an_RowReader_has_more cd_RowReader_has_more ct_RowReader_has_more, f_RowReader_refuse, PySem.W.fnOf "refuse" "RowReader.refuse" (defArgs s_RowReader_refuse) (defBody s_RowReader_refuse) (defScope s_RowReader_refuse) .none kV_RowReader_refuse dc_RowReader_refuse pm_RowReader_refuse an_RowReader_refuse cd_RowReader_refuse ct_RowReader_refuse, f_RowReader_take, PySem.W.fnOf "take" "RowReader.take" (defArgs s_RowReader_take) (defBody s_RowReader_take) (defScope s_RowReader_take) .none kV_RowReader_take dc_RowReader_take pm_RowReader_take an_RowReader_take cd_RowReader_take ct_RowReader_take, f_RowReader_one_of, PySem.W.fnOf "one_of" "RowReader.one_of" (defArgs s_RowReader_one_of) (defBody s_RowReader_one_of) (defScope s_RowReader_one_of) .none kV_RowReader_one_of dc_RowReader_one_of pm_RowReader_one_of an_RowReader_one_of cd_RowReader_one_of ct_RowReader_one_of, f_RowReader_figures, PySem.W.fnOf "figures" "RowReader.figures" (defArgs s_RowReader_figures) (defBody s_RowReader_figures) (defScope s_RowReader_figures) .none kV_RowReader_figures dc_RowReader_figures pm_RowReader_figures an_RowReader_figures cd_RowReader_figures ct_RowReader_figures, f_RowReader_finish, PySem.W.fnOf "finish" "RowReader.finish" (defArgs s_RowReader_finish) (defBody s_RowReader_finish) (defScope s_RowReader_finish) .none kV_RowReader_finish dc_RowReader_finish pm_RowReader_finish an_RowReader_finish cd_RowReader_finish ct_RowReader_finish, f_Way_init, PySem.W.fnOf "__init__" "Way.__init__" (defArgs s_Way_init) (defBody s_Way_init) (defScope s_Way_init) .none kV_Way_init dc_Way_init pm_Way_init an_Way_init cd_Way_init ct_Way_init, f_CarWay_init, PySem.W.fnOf "__init__" "CarWay.__init__" (defArgs s_CarWay_init) (defBody s_CarWay_init) (defScope s_CarWay_init) .none kV_CarWay_init dc_CarWay_init pm_CarWay_init an_CarWay_init cd_CarWay_init ct_CarWay_init, f_FootWay_init, PySem.W.fnOf "__init__" "FootWay.__init__" (defArgs s_FootWay_init) (defBody s_FootWay_init) (defScope s_FootWay_init) .none kV_FootWay_init dc_FootWay_init pm_FootWay_init an_FootWay_init cd_FootWay_init ct_FootWay_init, f_TramWay_init, PySem.W.fnOf "__init__" "TramWay.__init__" (defArgs s_TramWay_init) (defBody s_TramWay_init) (defScope s_TramWay_init) .none kV_TramWay_init dc_TramWay_init pm_TramWay_init an_TramWay_init cd_TramWay_init ct_TramWay_init, f_Crossing_init, PySem.W.fnOf "__init__" "Crossing.__init__" (defArgs s_Crossing_init) (defBody s_Crossing_init) (defScope s_Crossing_init) .none kV_Crossing_init dc_Crossing_init pm_Crossing_init an_Crossing_init cd_Crossing_init ct_Crossing_init, f_Crossing_number, PySem.W.fnOf "number" "Crossing.number" (defArgs s_Crossing_number) (defBody s_Crossing_number) (defScope s_Crossing_number) .none kV_Crossing_number dc_Crossing_number pm_Crossing_number an_Crossing_number cd_Crossing_number ct_Crossing_number, f_Crossing_called, PySem.W.fnOf "called" "Crossing.called" (defArgs s_Crossing_called) (defBody s_Crossing_called) (defScope s_Crossing_called) .none kV_Crossing_called dc_Crossing_called pm_Crossing_called an_Crossing_called cd_Crossing_called ct_Crossing_called, c_RowReader, c_Way, c_CarWay, c_FootWay, c_TramWay, c_Crossing, c_LampError, c_NoText, .str (Str.ofString "0123456789") tk_FIGURES, .int 2 tk_LEAST_PLACES, .str (Str.ofString "abcdefghijklmnopqrstuvwxyz") tk_LETTERS, .int 3 tk_MOST_FIGURES, .int 60 tk_MOST_LEAST, .int 8 tk_MOST_LETTERS, .int 30 tk_MOST_NEAR, .int 30 tk_MOST_OFF, .int 99 tk_MOST_PLACES, .int 12 tk_MOST_WAYS⟩, ?_⟩
  exact ⟨fun_mk (st := s_words) e2_words e3_words e4_words,
    (fun_mk (st := s_words) e2_words e3_words e4_words).binds fun _ _ _ _ _ _ us hl => match us, hl with | [_], _ => rfl,
    PySem.W.mg_of X G e1_words,
    e4_words,
    fun_mk (st := s_is_made_of) e2_is_made_of e3_is_made_of e4_is_made_of,
    (fun_mk (st := s_is_made_of) e2_is_made_of e3_is_made_of e4_is_made_of).binds fun _ _ _ _ _ _ us hl => match us, hl with | [_, _, _], _ => rfl,
    PySem.W.mg_of X G e1_is_made_of,
    e4_is_made_of,
    fun_mk (st := s_is_number) e2_is_number e3_is_number e4_is_number,
    (fun_mk (st := s_is_number) e2_is_number e3_is_number e4_is_number).binds fun _ _ _ _ _ _ us hl => match us, hl with | [_, _], _ => rfl,
    PySem.W.mg_of X G e1_is_number,
    e4_is_number,
    fun_mk (st := s_figured) e2_figured e3_figured e4_figured,
    (fun_mk (st := s_figured) e2_figured e3_figured e4_figured).binds fun _ _ _ _ _ _ us hl => match us, hl with | [_, _, _], _ => rfl,
    PySem.W.mg_of X G e1_figured,
    e4_figured,
    fun_mk (st := s_is_name) e2_is_name e3_is_name e4_is_name,
    (fun_mk (st := s_is_name) e2_is_name e3_is_name e4_is_name).binds fun _ _ _ _ _ _ us hl => match us, hl with | [_], _ => rfl,
    PySem.W.mg_of X G e1_is_name,
    e4_is_name,
    fun_mk (st := s_readers) e2_readers e3_readers e4_readers,
    (fun_mk (st := s_readers) e2_readers e3_readers e4_readers).binds fun _ _ _ _ _ _ us hl => match us, hl with | [_], _ => rfl,
    PySem.W.mg_of X G e1_readers,
    e4_readers,
    fun_mk (st := s_read_ring) e2_read_ring e3_read_ring e4_read_ring,
    (fun_mk (st := s_read_ring) e2_read_ring e3_read_ring e4_read_ring).binds fun _ _ _ _ _ _ us hl => match us, hl with | [_], _ => rfl,
    PySem.W.mg_of X G e1_read_ring,
    e4_read_ring,
    fun_mk (st := s_read_new_name) e2_read_new_name e3_read_new_name e4_read_new_name,
    (fun_mk (st := s_read_new_name) e2_read_new_name e3_read_new_name e4_read_new_name).binds fun _ _ _ _ _ _ us hl => match us, hl with | [_, _], _ => rfl,
    PySem.W.mg_of X G e1_read_new_name,
    e4_read_new_name,
    fun_mk (st := s_read_end) e2_read_end e3_read_end e4_read_end,
    (fun_mk (st := s_read_end) e2_read_end e3_read_end e4_read_end).binds fun _ _ _ _ _ _ us hl => match us, hl with | [_, _, _], _ => rfl,
    PySem.W.mg_of X G e1_read_end,
    e4_read_end,
    fun_mk (st := s_made_way) e2_made_way e3_made_way e4_made_way,
    (fun_mk (st := s_made_way) e2_made_way e3_made_way e4_made_way).binds fun _ _ _ _ _ _ us hl => match us, hl with | [_, _, _, _, _, _, _], _ => rfl,
    PySem.W.mg_of X G e1_made_way,
    e4_made_way,
    fun_mk (st := s_read_way) e2_read_way e3_read_way e4_read_way,
    (fun_mk (st := s_read_way) e2_read_way e3_read_way e4_read_way).binds fun _ _ _ _ _ _ us hl => match us, hl with | [_, _, _], _ => rfl,
    PySem.W.mg_of X G e1_read_way,
    e4_read_way,
    fun_mk (st := s_read_crossing) e2_read_crossing e3_read_crossing e4_read_crossing,
    (fun_mk (st := s_read_crossing) e2_read_crossing e3_read_crossing e4_read_crossing).binds fun _ _ _ _ _ _ us hl => match us, hl with | [_], _ => rfl,
    PySem.W.mg_of X G e1_read_crossing,
    e4_read_crossing,
    fun_mk (st := s__law_draw) e2__law_draw e3__law_draw e4__law_draw,
    (fun_mk (st := s__law_draw) e2__law_draw e3__law_draw e4__law_draw).binds fun _ _ _ _ _ _ us hl => match us, hl with | [_, _, _], _ => rfl,
    PySem.W.mg_of X G e1__law_draw,
    e4__law_draw,
    fun_mk (st := s__law_rows) e2__law_rows e3__law_rows e4__law_rows,
    (fun_mk (st := s__law_rows) e2__law_rows e3__law_rows e4__law_rows).binds fun _ _ _ _ _ _ us hl => match us, hl with | [_], _ => rfl,
    PySem.W.mg_of X G e1__law_rows,
    e4__law_rows,
    fun_mk (st := s__law_beyond) e2__law_beyond e3__law_beyond e4__law_beyond,
    (fun_mk (st := s__law_beyond) e2__law_beyond e3__law_beyond e4__law_beyond).binds fun _ _ _ _ _ _ us hl => match us, hl with | [_, _, _], _ => rfl,
    PySem.W.mg_of X G e1__law_beyond,
    e4__law_beyond,
    fun_mk (st := s__law_low) e2__law_low e3__law_low e4__law_low,
    (fun_mk (st := s__law_low) e2__law_low e3__law_low e4__law_low).binds fun _ _ _ _ _ _ us hl => match us, hl with | [_, _, _], _ => rfl,
    PySem.W.mg_of X G e1__law_low,
    e4__law_low,
    fun_mk (st := s__law_spoiled) e2__law_spoiled e3__law_spoiled e4__law_spoiled,
    (fun_mk (st := s__law_spoiled) e2__law_spoiled e3__law_spoiled e4__law_spoiled).binds fun _ _ _ _ _ _ us hl => match us, hl with | [_, _], _ => rfl,
    PySem.W.mg_of X G e1__law_spoiled,
    e4__law_spoiled,
    fun_mk (st := s__law_other) e2__law_other e3__law_other e4__law_other,
    (fun_mk (st := s__law_other) e2__law_other e3__law_other e4__law_other).binds fun _ _ _ _ _ _ us hl => match us, hl with | [_, _], _ => rfl,
    PySem.W.mg_of X G e1__law_other,
    e4__law_other,
    fun_mk (st := s__law_asked) e2__law_asked e3__law_asked e4__law_asked,
    (fun_mk (st := s__law_asked) e2__law_asked e3__law_asked e4__law_asked).binds fun _ _ _ _ _ _ us hl => match us, hl with | [_], _ => rfl,
    PySem.W.mg_of X G e1__law_asked,
    e4__law_asked,
    fun_mk (st := s_law) e2_law e3_law e4_law,
    (fun_mk (st := s_law) e2_law e3_law e4_law).binds fun _ _ _ _ _ _ us hl => match us, hl with | [_], _ => rfl,
    PySem.W.mg_of X G e1_law,
    e4_law,
    fun_mk (st := s_NoText_init) e2_NoText_init e3_NoText_init e4_NoText_init,
    (fun_mk (st := s_NoText_init) e2_NoText_init e3_NoText_init e4_NoText_init).binds fun _ _ _ _ _ _ us hl => match us, hl with | [_, _, _], _ => rfl,
    fun_mk (st := s_RowReader_init) e2_RowReader_init e3_RowReader_init e4_RowReader_init,
    (fun_mk (st := s_RowReader_init) e2_RowReader_init e3_RowReader_init e4_RowReader_init).binds fun _ _ _ _ _ _ us hl => match us, hl with | [_, _, _], _ => rfl,
    fun_mk (st := s_RowReader_ahead) e2_RowReader_ahead e3_RowReader_ahead e4_RowReader_ahead,
    (fun_mk (st := s_RowReader_ahead) e2_RowReader_ahead e3_RowReader_ahead e4_RowReader_ahead).binds fun _ _ _ _ _ _ us hl => match us, hl with | [_], _ => rfl,
    fun_mk (st := s_RowReader_has_more) e2_RowReader_has_more e3_RowReader_has_more e4_RowReader_has_more,
    (fun_mk (st := s_RowReader_has_more) e2_RowReader_has_more e3_RowReader_has_more e4_RowReader_has_more).binds fun _ _ _ _ _ _ us hl => match us, hl with | [_], _ => rfl,
    fun_mk (st := s_RowReader_refuse) e2_RowReader_refuse e3_RowReader_refuse e4_RowReader_refuse,
    (fun_mk (st := s_RowReader_refuse) e2_RowReader_refuse e3_RowReader_refuse e4_RowReader_refuse).binds fun _ _ _ _ _ _ us hl => match us, hl with | [_], _ => rfl,
    fun_mk (st := s_RowReader_take) e2_RowReader_take e3_RowReader_take e4_RowReader_take,
    (fun_mk (st := s_RowReader_take) e2_RowReader_take e3_RowReader_take e4_RowReader_take).binds fun _ _ _ _ _ _ us hl => match us, hl with | [_, _], _ => rfl,
    fun_mk (st := s_RowReader_one_of) e2_RowReader_one_of e3_RowReader_one_of e4_RowReader_one_of,
    (fun_mk (st := s_RowReader_one_of) e2_RowReader_one_of e3_RowReader_one_of e4_RowReader_one_of).binds fun _ _ _ _ _ _ us hl => match us, hl with | [_, _], _ => rfl,
    fun_mk (st := s_RowReader_figures) e2_RowReader_figures e3_RowReader_figures e4_RowReader_figures,
    (fun_mk (st := s_RowReader_figures) e2_RowReader_figures e3_RowReader_figures e4_RowReader_figures).binds fun _ _ _ _ _ _ us hl => match us, hl with | [_, _, _], _ => rfl,
    fun_mk (st := s_RowReader_finish) e2_RowReader_finish e3_RowReader_finish e4_RowReader_finish,
    (fun_mk (st := s_RowReader_finish) e2_RowReader_finish e3_RowReader_finish e4_RowReader_finish).binds fun _ _ _ _ _ _ us hl => match us, hl with | [_], _ => rfl,
    fun_mk (st := s_Way_init) e2_Way_init e3_Way_init e4_Way_init,
    (fun_mk (st := s_Way_init) e2_Way_init e3_Way_init e4_Way_init).binds fun _ _ _ _ _ _ us hl => match us, hl with | [_, _, _, _, _, _, _, _], _ => rfl,
    fun_mk (st := s_CarWay_init) e2_CarWay_init e3_CarWay_init e4_CarWay_init,
    (fun_mk (st := s_CarWay_init) e2_CarWay_init e3_CarWay_init e4_CarWay_init).binds fun _ _ _ _ _ _ us hl => match us, hl with | [_, _, _, _, _, _, _], _ => rfl,
    fun_mk (st := s_FootWay_init) e2_FootWay_init e3_FootWay_init e4_FootWay_init,
    (fun_mk (st := s_FootWay_init) e2_FootWay_init e3_FootWay_init e4_FootWay_init).binds fun _ _ _ _ _ _ us hl => match us, hl with | [_, _, _, _, _, _, _], _ => rfl,
    fun_mk (st := s_TramWay_init) e2_TramWay_init e3_TramWay_init e4_TramWay_init,
    (fun_mk (st := s_TramWay_init) e2_TramWay_init e3_TramWay_init e4_TramWay_init).binds fun _ _ _ _ _ _ us hl => match us, hl with | [_, _, _, _, _, _, _], _ => rfl,
    fun_mk (st := s_Crossing_init) e2_Crossing_init e3_Crossing_init e4_Crossing_init,
    (fun_mk (st := s_Crossing_init) e2_Crossing_init e3_Crossing_init e4_Crossing_init).binds fun _ _ _ _ _ _ us hl => match us, hl with | [_, _, _], _ => rfl,
    fun_mk (st := s_Crossing_number) e2_Crossing_number e3_Crossing_number e4_Crossing_number,
    (fun_mk (st := s_Crossing_number) e2_Crossing_number e3_Crossing_number e4_Crossing_number).binds fun _ _ _ _ _ _ us hl => match us, hl with | [_, _], _ => rfl,
    fun_mk (st := s_Crossing_called) e2_Crossing_called e3_Crossing_called e4_Crossing_called,
    (fun_mk (st := s_Crossing_called) e2_Crossing_called e3_Crossing_called e4_Crossing_called).binds fun _ _ _ _ _ _ us hl => match us, hl with | [_, _], _ => rfl,
    PySem.W.mg_of X G eC_RowReader,
    ⟨pg_RowReader, hd_RowReader, po_RowReader, sa_RowReader⟩,
    ⟨mk_RowReader, e1_RowReader_init, i_RowReader_init, kc_RowReader⟩,
    ⟨e1_RowReader_ahead, i_RowReader_ahead, e4_RowReader_ahead⟩,
    ⟨e1_RowReader_has_more, i_RowReader_has_more, e4_RowReader_has_more⟩,
    ⟨e1_RowReader_refuse, i_RowReader_refuse, e4_RowReader_refuse⟩,
    ⟨e1_RowReader_take, i_RowReader_take, e4_RowReader_take⟩,
    ⟨e1_RowReader_one_of, i_RowReader_one_of, e4_RowReader_one_of⟩,
    ⟨e1_RowReader_figures, i_RowReader_figures, e4_RowReader_figures⟩,
    ⟨e1_RowReader_finish, i_RowReader_finish, e4_RowReader_finish⟩,
    nA_RowReader_row,
    nA_RowReader_told,
    nA_RowReader_place,
    PySem.W.mg_of X G eC_Way,
    ⟨pg_Way, hd_Way, po_Way, sa_Way⟩,
    nA_Way_kind,
    nA_Way_name,
    nA_Way_start,
    nA_Way_end,
    nA_Way_off,
    nA_Way_near,
    nA_Way_least,
    PySem.W.mg_of X G eC_CarWay,
    ⟨pg_CarWay, hd_CarWay, po_CarWay, sa_CarWay⟩,
    ⟨mk_CarWay, e1_CarWay_init, i_CarWay_init, kc_CarWay⟩,
    nA_CarWay_kind,
    nA_CarWay_name,
    nA_CarWay_start,
    nA_CarWay_end,
    nA_CarWay_off,
    nA_CarWay_near,
    nA_CarWay_least,
    PySem.W.mg_of X G eC_FootWay,
    ⟨pg_FootWay, hd_FootWay, po_FootWay, sa_FootWay⟩,
    ⟨mk_FootWay, e1_FootWay_init, i_FootWay_init, kc_FootWay⟩,
    nA_FootWay_kind,
    nA_FootWay_name,
    nA_FootWay_start,
    nA_FootWay_end,
    nA_FootWay_off,
    nA_FootWay_near,
    nA_FootWay_least,
    PySem.W.mg_of X G eC_TramWay,
    ⟨pg_TramWay, hd_TramWay, po_TramWay, sa_TramWay⟩,
    ⟨mk_TramWay, e1_TramWay_init, i_TramWay_init, kc_TramWay⟩,
    nA_TramWay_kind,
    nA_TramWay_name,
    nA_TramWay_start,
    nA_TramWay_end,
    nA_TramWay_off,
    nA_TramWay_near,
    nA_TramWay_least,
    PySem.W.mg_of X G eC_Crossing,
    ⟨pg_Crossing, hd_Crossing, po_Crossing, sa_Crossing⟩,
    ⟨mk_Crossing, e1_Crossing_init, i_Crossing_init, kc_Crossing⟩,
    ⟨e1_Crossing_number, i_Crossing_number, e4_Crossing_number⟩,
    ⟨e1_Crossing_called, i_Crossing_called, e4_Crossing_called⟩,
    nA_Crossing_places,
    nA_Crossing_ways,
    nA_Crossing_numbers,
    PySem.W.mg_of X G eC_LampError,
    ⟨br_LampError, bf_LampError, bg_LampError⟩,
    PySem.W.mg_of X G eC_NoText,
    ⟨hd_NoText, ov_NoText, sa_NoText, ga_NoText, gt_NoText, _, ei_NoText⟩,
    ⟨ei_NoText, beq_iff_eq.mp i_NoText_init, kc_NoText⟩,
    nA_NoText_row,
    nA_NoText_word,
    ex_NoText_LampError,
    ex_NoText_NoText,
    dC_Way_CarWay,
    dC_Way_FootWay,
    dC_Way_TramWay,
    dC_CarWay_FootWay,
    dC_CarWay_TramWay,
    dC_FootWay_TramWay,
    ⟨cr_Way_init, cf_Way_init, cg_Way_init, e4_Way_init⟩,
    PySem.W.mg_of X G g_FIGURES,
    ⟨_, rfl⟩,
    PySem.W.mg_of X G g_LEAST_PLACES,
    ⟨_, rfl⟩,
    PySem.W.mg_of X G g_LETTERS,
    ⟨_, rfl⟩,
    PySem.W.mg_of X G g_MOST_FIGURES,
    ⟨_, rfl⟩,
    PySem.W.mg_of X G g_MOST_LEAST,
    ⟨_, rfl⟩,
    PySem.W.mg_of X G g_MOST_LETTERS,
    ⟨_, rfl⟩,
    PySem.W.mg_of X G g_MOST_NEAR,
    ⟨_, rfl⟩,
    PySem.W.mg_of X G g_MOST_OFF,
    ⟨_, rfl⟩,
    PySem.W.mg_of X G g_MOST_PLACES,
    ⟨_, rfl⟩,
    PySem.W.mg_of X G g_MOST_WAYS,
    ⟨_, rfl⟩,
    PySem.W.mg_none_of X G b_all,
    PySem.W.mg_none_of X G b_bool,
    PySem.W.mg_none_of X G b_enumerate,
    PySem.W.mg_none_of X G b_int,
    PySem.W.mg_none_of X G b_isinstance,
    PySem.W.mg_none_of X G b_len,
    PySem.W.mg_none_of X G b_list,
    PySem.W.mg_none_of X G b_range,
    PySem.W.mg_none_of X G b_str,
    fun _ _ => .of_eq rfl⟩
/-! ### drawing -/
def draw (ns : List Int) (k m : Int) : Int :=
  ((((if 0 < (ns.length : Int) then ns.getD (k % (ns.length : Int)).toNat 0 else 0) % 1000003 + 31 * k * k + 1) * 48271 % 999983 * 7919) % 524287) % m
theorem draw_lo (ns : List Int) (k : Int) {m : Int} (h : 0 < m) : 0 ≤ draw ns k m := Int.emod_nonneg _ (by omega)
theorem draw_hi (ns : List Int) (k : Int) {m : Int} (h : 0 < m) : draw ns k m < m := Int.emod_lt_of_pos _ h
def sp_draw (K : PySem.W.Frag) (a : Addr) (ns : List Int) : Sp := fun vs H Q _ => ∃ k m, vs = [.ref a, .int k, .int m] ∧ Sc K a ns H ∧ (0 ≤ k ∧ k < 1000000) ∧ 0 < m ∧ Q (.int (draw ns k m)) H
section
variable {P : Program} {w : World} {K : PySem.W.Frag} {mg : Str → Option Value} {base : Heap} {t : Adr}
theorem ok_draw (T : Txt w K mg t) (a : Addr) (ns : List Int) (h63 : ns.length ≤ 63) : FnOk P w K mg base CX0 1 t.a__law_draw t.d__law_draw ["_law_script", "_law_k", "_law_many"] (sp_draw K a ns) := by
  refine T.F__law_draw.ok sc__law_draw (fun vs H Q E h => ?_) (fun cdv A outer s H vs Q E hr h => ?_)
  · obtain ⟨k, m, rfl, _⟩ := h; rfl
  obtain ⟨k, m, rfl, S, ⟨h0, h1⟩, hm, q⟩ := h
  refine ⟨_, (pss_cons (ps_set (i := 3) sc__law_draw.nd rfl (Or.inl rfl) (pe_ifExp (pt_cmpR op_gt (pe_callB call_len_seq rfl T.b_len boot_b_len (pa_cons (pv 0) pa_nil)) pe_int (nomark _)) (pe_ix ix_list (pv 0) (pe_op op_mod (pv 1) (pe_callB call_len_seq rfl T.b_len boot_b_len (pa_cons (pv 0) pa_nil))) (fun _ _ => rfl)) pe_int))
      (pss_cons (ps_set (i := 4) sc__law_draw.nd rfl (Or.inl rfl) (pe_op op_add (pe_op op_add (pe_op op_mod (pv 3) pe_int) (pe_op op_mul (pe_op op_mul pe_int (pv 1)) (pv 1))) pe_int))
      (pss_one (ps_ret (pe_op op_mod (pe_op op_mod (pe_op op_mul (pe_op op_mod (pe_op op_mul (pv 4) pe_int) pe_int) pe_int) pe_int) (pv 2)))))), ?_⟩
  (walk_at "RD")
  refine ⟨_, .inl S.seq, ?_⟩
  rw [List.length_map]
  have hkk : (0 : Int) ≤ k * k ∧ k * k < 1000000 * 1000000 := ⟨Int.mul_nonneg h0 h0, Int.mul_lt_mul' (by omega) h1 h0 (by decide)⟩
  have fin : ∀ i : Int, (0 : Int) < 1000003 ∧ CMul 31 k ∧ CMul (31 * k) k ∧ CMul (i % 1000003 + 31 * k * k + 1) 48271 ∧ (0 : Int) < 999983 ∧ CMul ((i % 1000003 + 31 * k * k + 1) * 48271 % 999983) 7919 ∧ (0 : Int) < 524287 ∧ 0 < m := by
    intro i
    refine ⟨by decide, .inl (by decide), .inr (by omega), .inr (by decide), by decide, .inr (by decide), by decide, hm⟩
  by_cases c : (0 : Int) < (ns.length : Int)
  · rw [if_pos (decide_eq_true c)]
    have hk : 0 ≤ k % (ns.length : Int) ∧ k % (ns.length : Int) < (ns.length : Int) := ⟨Int.emod_nonneg _ (by omega), Int.emod_lt_of_pos _ c⟩
    refine ⟨_, .inl S.seq, by rw [List.length_map]; exact c, _, S.seq, ?_⟩
    rw [List.length_map]
    have hj : (k % (ns.length : Int)).toNat < ns.length := by omega
    refine ⟨.int ns[(k % (ns.length : Int)).toNat], ?_, _, rfl, ?_⟩
    · have e := atI_nat (xs := ns.map V.int) (j := (k % (ns.length : Int)).toNat) (v := .int ns[(k % (ns.length : Int)).toNat]) (by rw [List.getElem?_map, List.getElem?_eq_getElem hj] <;> rfl)
      rwa [Int.toNat_of_nonneg hk.1] at e
    · obtain ⟨f1, f2, f3, f4, f5, f6, f7, f8⟩ := fin ns[(k % (ns.length : Int)).toNat]
      refine ⟨f1, f2, f3, f4, f5, f6, f7, f8, ?_⟩
      have e : draw ns k m = (((ns[(k % (ns.length : Int)).toNat] % 1000003 + 31 * k * k + 1) * 48271 % 999983 * 7919) % 524287) % m := by
        unfold draw
        rw [if_pos c, List.getD_eq_getElem?_getD, List.getElem?_eq_getElem hj]
        rfl
      rw [← e]; exact q
  · rw [if_neg (by simpa using c)]
    obtain ⟨f1, f2, f3, f4, f5, f6, f7, f8⟩ := fin 0
    refine ⟨f1, f2, f3, f4, f5, f6, f7, f8, ?_⟩
    have e : draw ns k m = (((0 % 1000003 + 31 * k * k + 1) * 48271 % 999983 * 7919) % 524287) % m := by
      unfold draw
      rw [if_neg c]
    rw [← e]; exact q
end
/-! ### words made of signs -/
theorem len0 {w : Str} : w = Str.ofString "" ↔ w.length = 0 := by
  constructor
  · rintro rfl; decide +kernel
  · intro h
    have e : w.cps = #[] := Array.eq_empty_of_size_eq_zero h
    have e2 : (Str.ofString "").cps = #[] := by decide +kernel
    cases w
    cases h2 : Str.ofString ""
    rw [h2] at e2
    simp only at e e2
    rw [e, e2]
def inL (sg : Str) (c : Nat) : Bool := !(Builtin.Str.occurrences sg (sign c) 0 sg.length 1).isEmpty
theorem inL_mem (sg : Str) (c : Nat) : inL sg c = decide (c ∈ sg.cps.toList) := StrLaws.found_one sg c
def made (w sg : Str) (m : Int) : Bool := if w = Str.ofString "" then false else if m < (w.length : Int) then false else w.cps.toList.all (inL sg)
def sp_made : Sp := fun vs H Q _ => ∃ w sg m, vs = [.str w, .str sg, .int m] ∧ w.length ≤ 1000 ∧ NoT H ∧ Q (.bl (made w sg m)) H
def sp_made' : Sp := fun vs H Q _ => ∃ w sg m, vs = [.str w, .str sg, .int m] ∧ w.length ≤ 1000 ∧ ∀ H', Same H H' → Q (.bl (made w sg m)) H'
section
variable {P : Program} {w : World} {K : PySem.W.Frag} {mg : Str → Option Value} {base : Heap} {t : Adr}
theorem ok_made (T : Txt w K mg t) : FnOk P w K mg base CX0 1 t.a_is_made_of t.d_is_made_of ["word", "signs", "most"] sp_made := by
  refine FnOk.forget (sp := sp_made') ?_ fun vs H Q E h => ?_
  · refine T.F_is_made_of.ok sc_is_made_of (fun vs H Q E h => ?_) (fun cdv A outer s H vs Q E hr h => ?_)
    · obtain ⟨w, sg, m, rfl, _⟩ := h; rfl
    obtain ⟨w, sg, m, rfl, hz, q⟩ := h
    have hz' : w.length ≤ sizeLine := Nat.le_trans hz (by decide)
    refine ⟨_, (pss_cons (ps_if (PW.pt (pw_or (pt_cmpR op_eq (pv 0) pe_str (nomark _)) (pw_or1 (pt_cmpR op_gt (pe_callB call_len_str rfl T.b_len boot_b_len (pa_cons (pv 0) pa_nil)) (pv 2) (nomark _))))) (pss_one (ps_ret pe_bl)) pss_nil)
      (pss_one (ps_ret (pe_callB (call_all rfl) rfl T.b_all boot_b_all (pa_cons (pe_comp rfl (pi_str (pv 0)) (cscope_of (sc := defScope s_is_made_of) rfl (by decide +kernel)) (N := ["sign", "signs"]) (sel := [none, some 1]) (selOk_of (M := ["word", "signs", "most"]) (by decide +kernel)) (Blk.of (fun _ _ _ _ => (pg_name (i := 0) (nd_of (N := ["sign", "signs"]) (by decide +kernel) rfl) rfl (Or.inl rfl))) (fun _ _ _ _ => ⟨_, pts_nil, by first | rfl | (dsimp only [Cx.block]; done) | (dsimp only [Cx.block]; exact rfl)⟩) (fun _ _ _ _ => ⟨_, (pe_cmpR op_in_str (pv 0) (pv 1) (by with_unfolding_all rfl)), by first | rfl | (dsimp only [Cx.block]; done) | (dsimp only [Cx.block]; exact rfl)⟩))) pa_nil))))), ?_⟩
    (walk_at "RD")
    refine tIfS_by (decide (w = Str.ofString "") || decide (m < (w.length : Int))) (fun Q hQ => ?_) (fun hb => ?_) (fun hb => ?_)
    · (walk_at "RD")
      by_cases c : w = Str.ofString ""
      · rw [if_pos (decide_eq_true c)]
        rw [decide_eq_true c, Bool.true_or] at hQ
        exact hQ
      · rw [if_neg (by simpa using c)]
        rw [decide_eq_false c, Bool.false_or] at hQ
        exact ⟨hz', hQ⟩
    · (walk_at "RD")
      have e : made w sg m = false := by
        unfold made
        simp only [Bool.or_eq_true, decide_eq_true_eq] at hb
        by_cases c : w = Str.ofString ""
        · rw [if_pos c]
        · rw [if_neg c, if_pos (hb.resolve_left c)]
      have := q H (Same.refl H)
      rw [e] at this
      exact this
    · (walk_at "RD")
      have e : made w sg m = w.cps.toList.all (inL sg) := by
        unfold made
        simp only [Bool.or_eq_false_iff, decide_eq_false_iff_not] at hb
        rw [if_neg hb.1, if_neg hb.2]
      refine CompR.its_map (fun x => match x with | .str y => .bl (!(Builtin.Str.occurrences sg y 0 sg.length 1).isEmpty) | _ => .non) (by rw [signsV_length]; exact hz') (fun i x N hx hN => ?_) (fun p hp => ?_)
      · unfold signsV at hx
        rw [List.getElem?_map] at hx
        cases hc : w.cps.toList[i]? with
        | none => rw [hc] at hx; cases hx
        | some c =>
          rw [hc] at hx
          have hx' : V.str (sign c) = x := Option.some.inj hx
          subst hx'
          (walk_at "RD")
          exact ⟨Sub.name, hN⟩
      · refine ⟨p, rfl, w.cps.toList.map (inL sg), SqL.of ?_, ?_⟩
        · rw [upd_same]
          unfold signsV
          rw [List.map_map, List.map_map]
          rfl
        · have := q (upd H p (.lst (List.map (fun x => match x with | .str y => .bl (!(Builtin.Str.occurrences sg y 0 sg.length 1).isEmpty) | _ => .non) (signsV w)))) (same_new hp)
          rw [e] at this
          rw [List.all_map]
          exact this
  · obtain ⟨w, sg, m, e, hz, nt, q⟩ := h
    exact ⟨nt, w, sg, m, e, hz, fun H' sm => ⟨sm, q⟩⟩
end
/-! ### the mathematics: number words -/
abbrev figs : Str := Str.ofString "0123456789"
def isFig (c : Nat) : Bool := decide (48 ≤ c ∧ c ≤ 57)
theorem figs_list : figs.cps.toList = [48, 49, 50, 51, 52, 53, 54, 55, 56, 57] := by decide +kernel
theorem inL_figs (c : Nat) : inL figs c = isFig c := by
  rw [inL_mem, figs_list]
  unfold isFig
  rw [Bool.eq_iff_iff]
  simp only [decide_eq_true_eq, List.mem_cons, List.not_mem_nil, or_false]
  omega
abbrev cs (w : Str) : List Nat := w.cps.toList
theorem cs_len (w : Str) : (cs w).length = w.length := by simp [cs, Str.length]
/-- a number word -/
def okB (w : Str) : Bool := decide (1 ≤ (cs w).length) && decide ((cs w).length ≤ 3) && (cs w).all isFig && (decide ((cs w).length ≤ 1) || decide ((cs w).headD 0 ≠ 48))
abbrev val (w : Str) : Int := ((NumText.digitsVal (cs w) : Nat) : Int)
def figV (w : Str) (lo hi : Int) : V := if okB w && !(decide (val w < lo) || decide (hi < val w)) then .int (val w) else .non
def dueI (w : Str) (lo hi : Int) : Int := if okB w && !(decide (val w < lo) || decide (hi < val w)) then val w else -1
theorem str_one {w : Str} {c : Nat} : w = ⟨#[c]⟩ ↔ cs w = [c] := by
  constructor
  · rintro rfl; rfl
  · intro h
    cases w with
    | mk a =>
      have e : a = #[c] := Array.toList_inj.mp h
      rw [e]
theorem zero_eq : Str.ofString "0" = ⟨#[48]⟩ := by decide +kernel
theorem made_figs (w : Str) : made w figs 3 = (decide (1 ≤ (cs w).length) && decide ((cs w).length ≤ 3) && (cs w).all isFig) := by
  unfold made
  have e : (inL figs) = isFig := funext inL_figs
  rw [e]
  by_cases h1 : w = Str.ofString ""
  · have h2 := len0.mp h1
    rw [if_pos h1, cs_len, h2]; rfl
  · have h2 : ¬ w.length = 0 := fun z => h1 (len0.mpr z)
    rw [if_neg h1, cs_len]
    by_cases h3 : (3 : Int) < (w.length : Int)
    · rw [if_pos h3, decide_eq_false (show ¬ w.length ≤ 3 by omega), Bool.and_false, Bool.false_and]
    · rw [if_neg h3, decide_eq_true (show 1 ≤ w.length by omega), decide_eq_true (show w.length ≤ 3 by omega)]; rfl
theorem val_le {w : Str} (h : okB w = true) : 0 ≤ val w := Int.natCast_nonneg _
theorem digits_of_all {l : List Nat} (h : l.all isFig = true) : NumText.AllDigits l := fun c hc => by
  have := List.all_eq_true.mp h c hc
  simpa [isFig] using this
theorem digits_step (l : List Nat) (c : Nat) : NumText.digitsVal (l ++ [c]) = NumText.digitsVal l * 10 + (c - 48) := by
  unfold NumText.digitsVal
  rw [List.foldl_append]; rfl
theorem head_at {w : Str} (h : 1 ≤ w.length) : ∃ c r, cs w = c :: r ∧ atI w.cps.toList 0 = some c := by
  rw [← cs_len] at h
  cases hc : cs w with
  | nil => rw [hc] at h; exact absurd h (by decide)
  | cons c r => exact ⟨c, r, rfl, atI_nat (xs := cs w) (j := 0) (v := c) (by rw [hc]; rfl)⟩
theorem one_zero (c : Nat) : decide ((⟨#[c]⟩ : Str) = Str.ofString "0") = decide (c = 48) := by
  rw [zero_eq]
  by_cases h48 : c = 48
  · rw [h48]; simp
  · rw [decide_eq_false h48, decide_eq_false]
    intro z
    have z2 := str_one.mp z
    exact h48 (List.cons.inj z2).1
theorem occ_fig {c : Nat} (h : isFig c = true) : ∃ rest, Builtin.Str.occurrences figs (sign c) 0 figs.length 1 = (c - 48) :: rest := by
  have h' : 48 ≤ c ∧ c ≤ 57 := by simpa [isFig] using h
  have : c = 48 ∨ c = 49 ∨ c = 50 ∨ c = 51 ∨ c = 52 ∨ c = 53 ∨ c = 54 ∨ c = 55 ∨ c = 56 ∨ c = 57 := by omega
  rcases this with rfl | rfl | rfl | rfl | rfl | rfl | rfl | rfl | rfl | rfl <;> exact ⟨[], by decide +kernel⟩
theorem okB_of {w : Str} (h : okB w = true) : (1 ≤ (cs w).length ∧ (cs w).length ≤ 3) ∧ (cs w).all isFig = true := by
  unfold okB at h
  simp only [Bool.and_eq_true, decide_eq_true_eq] at h
  exact h.1
theorem okB_bad {w : Str} {i c : Nat} (h : (cs w)[i]? = some c) (hc : isFig c = false) : okB w = false := by
  cases e : okB w with
  | false => rfl
  | true =>
    have := List.all_eq_true.mp (okB_of e).2 c (List.mem_of_getElem? h)
    rw [hc] at this; cases this
theorem dueI_bad {w : Str} (h : okB w = false) (lo hi : Int) : dueI w lo hi = -1 := by unfold dueI; rw [h]; rfl
def sp_num : Sp := fun vs H Q _ => ∃ w, vs = [.str w, .int 3] ∧ w.length ≤ 1000 ∧ NoT H ∧ Q (.bl (okB w)) H
def sp_fig : Sp := fun vs H Q _ => ∃ w lo hi, vs = [.str w, .int lo, .int hi] ∧ w.length ≤ 1000 ∧ NoT H ∧ Q (figV w lo hi) H
section
variable {P : Program} {w : World} {K : PySem.W.Frag} {mg : Str → Option Value} {base : Heap} {t : Adr}
theorem ok_num (T : Txt w K mg t) : FnOk P w K mg base CX0 2 t.a_is_number t.d_is_number ["word", "most_figures"] sp_num := by
  have G_is_made_of : FnOk P w K mg base CX0 1 t.a_is_made_of t.d_is_made_of ["word", "signs", "most"] sp_made := ok_made T
  refine T.F_is_number.ok sc_is_number (fun vs H Q E h => ?_) (fun cdv A outer s H vs Q E hr h => ?_)
  · obtain ⟨w, rfl, _⟩ := h; rfl
  obtain ⟨w, rfl, hz, nt, q⟩ := h
  have hz' : w.length ≤ sizeLine := Nat.le_trans hz (by decide)
  refine ⟨_, (pss_cons (ps_if (pt_not (pt_val (pe_call G_is_made_of hr rfl T.m_is_made_of T.k_is_made_of T.n_is_made_of .nil pass0 (pa_cons (pv 0) (pa_cons (pe_glob rfl T.g_FIGURES T.r_FIGURES) (pa_cons (pv 1) pa_nil)))))) (pss_one (ps_ret pe_bl)) pss_nil)
      (pss_one (ps_ret (pe_or (pe_cmpR op_eq (pv 0) pe_str (nomark _)) (pe_one (pe_cmpR op_ne (pe_ix ix_str (pv 0) pe_int (fun _ _ => rfl)) pe_str (nomark _))))))), ?_⟩
  refine tIfS_by (!made w figs 3) (fun Q hQ => ?_) (fun hb => ?_) (fun hb => ?_)
  · (walk_at "RD"; repeat (simp only [sp_made]; walk_at "RD"))
    exact ⟨hz, nt, hQ⟩
  · (walk_at "RD")
    have e : okB w = false := by
      have hb' : made w figs 3 = false := by simpa using hb
      rw [made_figs] at hb'
      unfold okB
      rw [hb']; rfl
    rw [e] at q
    exact q
  · have hb' : made w figs 3 = true := by simpa using hb
    rw [made_figs] at hb'
    rw [tNext_ap]
    dsimp only
    refine tRet_by (.bl (okB w)) (fun Q hQ => ?_) ?_
    case refine_2 => exact q
    (walk_at "RD")
    have hb2 : (1 ≤ (cs w).length ∧ (cs w).length ≤ 3) ∧ (cs w).all isFig = true := by
      simpa only [Bool.and_eq_true, decide_eq_true_eq] using hb'
    obtain ⟨c, r, hcr⟩ : ∃ c r, cs w = c :: r := by
      cases h : cs w with
      | nil => rw [h] at hb2; exact absurd hb2.1.1 (by decide)
      | cons c r => exact ⟨c, r, rfl⟩
    have ok : okB w = (decide ((cs w).length ≤ 1) || decide ((cs w).headD 0 ≠ 48)) := by
      unfold okB
      rw [hb', Bool.true_and]
    by_cases c0 : w = Str.ofString "0"
    · rw [if_pos (decide_eq_true c0)]
      have e : cs w = [48] := by rw [c0, zero_eq]
      rw [ok, e] at hQ
      exact hQ
    · rw [if_neg (by simpa using c0)]
      refine ⟨hz', c, ?_, ?_⟩
      · have := atI_nat (xs := cs w) (j := 0) (v := c) (by rw [hcr]; rfl)
        exact this
      · have e2 : decide ((⟨#[c]⟩ : Str) = Str.ofString "0") = decide (c = 48) := by
          rw [zero_eq]
          by_cases h48 : c = 48
          · rw [h48]; simp
          · rw [decide_eq_false h48, decide_eq_false]
            intro z
            have z2 := str_one.mp z
            exact h48 (List.cons.inj z2).1
        rw [e2]
        have e3 : okB w = !decide (c = 48) := by
          rw [ok, hcr]
          show (decide ((c :: r).length ≤ 1) || decide (c ≠ 48)) = _
          by_cases h48 : c = 48
          · have hr : r ≠ [] := fun z => c0 (by rw [zero_eq]; exact str_one.mpr (by rw [hcr, z, h48]))
            have : ¬ (c :: r).length ≤ 1 := by
              cases r with
              | nil => exact absurd rfl hr
              | cons d r => simp
            rw [decide_eq_false this, h48]; rfl
          · rw [decide_eq_true h48, Bool.or_true, decide_eq_false h48]; rfl
        rw [← e3]
        exact hQ
theorem ok_fig (T : Txt w K mg t) : FnOk P w K mg base CX0 3 t.a_figured t.d_figured ["word", "low", "high"] sp_fig := by
  have G_is_number : FnOk P w K mg base CX0 2 t.a_is_number t.d_is_number ["word", "most_figures"] sp_num := ok_num T
  refine T.F_figured.ok sc_figured (fun vs H Q E h => ?_) (fun cdv A outer s H vs Q E hr h => ?_)
  · obtain ⟨w, lo, hi, rfl, _⟩ := h; rfl
  obtain ⟨w, lo, hi, rfl, hz, nt, q⟩ := h
  refine ⟨_, (pss_cons (ps_if (pt_not (pt_val (pe_call G_is_number hr rfl T.m_is_number T.k_is_number T.n_is_number .nil pass0 (pa_cons (pv 0) (pa_cons (pe_glob rfl T.g_MOST_FIGURES T.r_MOST_FIGURES) pa_nil))))) (pss_one (ps_ret pe_non)) pss_nil)
      (pss_cons (ps_set (i := 3) sc_figured.nd rfl (Or.inl rfl) (pe_callTy call_intS rfl T.b_int boot_t_int (pa_cons (pv 0) pa_nil)))
      (pss_cons (ps_if (PW.pt (pw_or (pt_cmpR op_lt (pv 3) (pv 1) (nomark _)) (pw_or1 (pt_cmpR op_gt (pv 3) (pv 2) (nomark _))))) (pss_one (ps_ret pe_non)) pss_nil)
      (pss_one (ps_ret (pv 3)))))), ?_⟩
  refine tIfS_by (!okB w) (fun Q hQ => ?_) (fun hb => ?_) (fun hb => ?_)
  · (walk_at "RD"; repeat (simp only [sp_num]; walk_at "RD"))
    exact ⟨hz, nt, hQ⟩
  · (walk_at "RD")
    have hb' : okB w = false := by simpa using hb
    have e : figV w lo hi = .non := by unfold figV; rw [hb']; rfl
    rw [e] at q; exact q
  · have hb' : okB w = true := by simpa using hb
    have h3 : (1 ≤ (cs w).length ∧ (cs w).length ≤ 3) ∧ (cs w).all isFig = true := by
      have := hb'
      unfold okB at this
      simp only [Bool.and_eq_true, decide_eq_true_eq] at this
      exact this.1
    have hl := cs_len w
    have hi' : intText? w = some (val w) := intText_digits (digits_of_all h3.2) (fun z => by have z' : cs w = [] := z; rw [z'] at h3; exact absurd h3.1.1 (by decide)) (by omega)
    (walk_at "RD")
    refine ⟨val w, hi', by omega, ?_⟩
    refine tIfS_by (decide (val w < lo) || decide (hi < val w)) (fun Q hQ => ?_) (fun hc => ?_) (fun hc => ?_)
    · (walk_at "RD")
      by_cases c : val w < lo
      · rw [if_pos (decide_eq_true c)]
        rw [decide_eq_true c, Bool.true_or] at hQ
        exact hQ
      · rw [if_neg (by simpa using c)]
        rw [decide_eq_false c, Bool.false_or] at hQ
        exact hQ
    · (walk_at "RD")
      have e : figV w lo hi = .non := by unfold figV; rw [hb', hc]; rfl
      rw [e] at q; exact q
    · (walk_at "RD")
      have e : figV w lo hi = .int (val w) := by unfold figV; rw [hb', hc]; rfl
      rw [e] at q; exact q
end
theorem log_small {n : Nat} (h : n < 1000) : n.log2 < 1920 := by
  by_cases h0 : n = 0
  · subst h0; decide
  · rw [Nat.log2_lt h0]
    exact Nat.lt_of_lt_of_le h (Nat.le_trans (show 1000 ≤ 2 ^ 10 by decide) (Nat.pow_le_pow_right (by decide) (by decide)))
theorem digs_len : ∀ n, n < 1000 → (Nat.toDigits 10 n).length ≤ 3 := by decide +kernel
theorem num_len {n : Int} (h0 : 0 ≤ n) (h1 : n ≤ 999) : (Str.ofString (toString n)).length ≤ 3 := by
  have e := PySem.W.KIN.signs_num n.toNat
  rw [Int.toNat_of_nonneg h0] at e
  have l : (Str.ofString (toString n)).length = (Str.ofString (toString n)).cps.toList.length := by simp [Str.length]
  rw [l, e, List.length_map]
  exact digs_len _ (by omega)
abbrev letters : Str := Str.ofString "abcdefghijklmnopqrstuvwxyz"
def sp_name : Sp := fun vs H Q _ => ∃ w, vs = [.str w] ∧ w.length ≤ 1000 ∧ NoT H ∧ Q (.bl (made w letters 8)) H
section
variable {P : Program} {w : World} {K : PySem.W.Frag} {mg : Str → Option Value} {base : Heap} {t : Adr}
theorem ok_name (T : Txt w K mg t) : FnOk P w K mg base CX0 2 t.a_is_name t.d_is_name ["word"] sp_name := by
  have G_is_made_of : FnOk P w K mg base CX0 1 t.a_is_made_of t.d_is_made_of ["word", "signs", "most"] sp_made := ok_made T
  refine T.F_is_name.ok sc_is_name (fun vs H Q E h => ?_) (fun cdv A outer s H vs Q E hr h => ?_)
  · obtain ⟨w, rfl, _⟩ := h; rfl
  obtain ⟨w, rfl, hz, nt, q⟩ := h
  refine ⟨_, (pss_one (ps_ret (pe_call G_is_made_of hr rfl T.m_is_made_of T.k_is_made_of T.n_is_made_of .nil pass0 (pa_cons (pv 0) (pa_cons (pe_glob rfl T.g_LETTERS T.r_LETTERS) (pa_cons (pe_glob rfl T.g_MOST_LETTERS T.r_MOST_LETTERS) pa_nil)))))), ?_⟩
  (walk_at "RD"; repeat (simp only [sp_made]; walk_at "RD"))
  exact ⟨hz, nt, q⟩
end
abbrev nl : Str := Str.ofString "\n"
abbrev bk : Str := Str.ofString " "
theorem nl_eq : nl = ⟨#[10]⟩ := by decide +kernel
theorem bk_eq : bk = ⟨#[32]⟩ := by decide +kernel
def rowsOf (x : Str) : List (List Str) := (Txt.split x nl).map fun r => Txt.split r bk
theorem mem_le_sum : ∀ {ys : List Str} {y : Str}, y ∈ ys → y.length ≤ (ys.map (·.length)).sum
  | [], _, h => nomatch h
  | a :: r, y, h => by
    rw [List.map_cons, List.sum_cons]
    rcases List.mem_cons.mp h with rfl | h
    · omega
    · have := mem_le_sum h; omega
theorem part_le {x y r : Str} (hy : 1 ≤ y.length) (h : r ∈ Txt.split x y) : r.length ≤ x.length + 1 := by
  have h1 := PyProof.Rows.split_weight x y hy
  have h2 := mem_le_sum h
  omega
theorem split_len {x y : Str} (hy : 1 ≤ y.length) : (Txt.split x y).length ≤ x.length + 1 := by
  have h1 := PyProof.Rows.split_weight x y hy
  omega
theorem join_mem {sep : Str} : ∀ {ys : List Str} {y : Str} {c : Nat}, y ∈ ys → c ∈ y.cps.toList → c ∈ (Str.join sep ys).cps.toList
  | [], _, _, h, _ => nomatch h
  | [a], y, c, h, hc => by
    rw [List.mem_singleton.mp h] at hc
    exact hc
  | a :: b :: r, y, c, h, hc => by
    show c ∈ (a ++ sep ++ Str.join sep (b :: r)).cps.toList
    rw [Str.cps_append, Array.toList_append, Str.cps_append, Array.toList_append]
    rcases List.mem_cons.mp h with rfl | h
    · exact List.mem_append_left _ (List.mem_append_left _ hc)
    · exact List.mem_append_right _ (join_mem h hc)
theorem split_ne (x y : Str) : Txt.split x y ≠ [] := by
  unfold Txt.split
  split
  · simp
  · split
    · simp
    · rw [StrLaws.partsBetween_eq]
      obtain ⟨p, r, e⟩ := StrLaws.partsFrom_ne x y.length 0 (Builtin.Str.occurrences x y 0 x.length (x.length + 1))
      rw [e]; simp
theorem free_bk {r w : Str} (h : w ∈ Txt.split r bk) : (32 : Nat) ∉ w.cps.toList := by
  rw [bk_eq] at h; exact StrLaws.split_free r 32 w h
theorem free_nl {x r w : Str} (hr : r ∈ Txt.split x nl) (h : w ∈ Txt.split r bk) : (10 : Nat) ∉ w.cps.toList := by
  intro hc
  rw [nl_eq] at hr
  refine StrLaws.split_free x 10 r hr ?_
  have := join_mem (sep := bk) h hc
  rwa [StrLaws.join_split] at this
theorem join_back (sep r : Str) : Txt.join sep (Txt.split r sep) = r := by
  show Builtin.Str.glued sep (Txt.split r sep) = r
  rw [StrLaws.glued_eq_join, StrLaws.join_split]
/-- a list of lists of texts, all new since H -/
def LL (H0 H : Hp) (p : Addr) (rows : List (List Str)) : Prop := ∃ qs : List Addr, H p = some (.lst (qs.map V.ref)) ∧ H0 p = none ∧ p ∉ qs ∧ qs.length = rows.length ∧ ∀ (i : Nat) (q : Addr) (r : List Str), qs[i]? = some q → rows[i]? = some r → H q = some (.lst (strsV r)) ∧ H0 q = none
def sp_words : Sp := fun vs H Q _ => ∃ x, vs = [.str x] ∧ x.length ≤ 20000 ∧ NoT H ∧ ∀ p H', Same H H' → NoT H' → LL H H' p (rowsOf x) → Q (.ref p) H'
theorem len_nl : nl.length = 1 := by decide +kernel
theorem len_bk : bk.length = 1 := by decide +kernel
section
variable {P : Program} {w : World} {K : PySem.W.Frag} {mg : Str → Option Value} {base : Heap} {t : Adr}
theorem ok_words (T : Txt w K mg t) : FnOk P w K mg base CX0 1 t.a_words t.d_words ["text"] sp_words := by
  refine T.F_words.ok sc_words (fun vs H Q E h => ?_) (fun cdv A outer s H vs Q E hr h => ?_)
  · obtain ⟨x, rfl, _⟩ := h; rfl
  obtain ⟨x, rfl, hz, nt, q⟩ := h
  have hzz : ∀ n : Nat, n ≤ 40000 → n ≤ sizeLine := fun n h => Nat.le_trans h (by decide)
  refine ⟨_, (pss_one (ps_ret (pe_comp rfl (pi_list (pe_bm PySem.F.plainAttrs_str PySem.F.slot_str_split PySem.F.type_str_split mt_split (pv 0) (pa_cons pe_str pa_nil))) (cscope_of (sc := defScope s_words) rfl (by decide +kernel)) (N := ["row"]) (sel := [none]) (selOk_of (M := ["text"]) (by decide +kernel)) (Blk.of (fun _ _ _ _ => (pg_name (i := 0) (nd_of (N := ["row"]) (by decide +kernel) rfl) rfl (Or.inl rfl))) (fun _ _ _ _ => ⟨_, pts_nil, by first | rfl | (dsimp only [Cx.block]; done) | (dsimp only [Cx.block]; exact rfl)⟩) (fun _ _ _ _ => ⟨_, (pe_bm PySem.F.plainAttrs_str PySem.F.slot_str_split PySem.F.type_str_split mt_split (pv 0) (pa_cons pe_str pa_nil)), by first | rfl | (dsimp only [Cx.block]; done) | (dsimp only [Cx.block]; exact rfl)⟩))))), ?_⟩
  (walk_at "RD")
  have hy : 1 ≤ nl.length := by rw [len_nl]; exact Nat.le_refl _
  have hy2 : 1 ≤ bk.length := by rw [len_bk]; exact Nat.le_refl _
  have hs := split_len (x := x) hy
  have hs' : (strsV (Txt.split x nl)).length ≤ sizeLine := by unfold strsV; rw [List.length_map]; exact hzz _ (by omega)
  refine ⟨by rw [len_nl]; decide, hzz _ (by omega), hzz _ (show (Txt.split x nl).length ≤ 40000 by omega), fun p hp => ⟨⟨_, SqL.of upd_same⟩, ?_⟩⟩
  refine CompR.list_mk (xs := strsV (Txt.split x nl)) (fun v => match v with | .str r => .lst (strsV (Txt.split r bk)) | _ => .lst []) (SqL.of upd_same) hs' (fun v => by cases v <;> rfl) (fun i v H1 N hx sm nt1 hN => ?_) (fun qs H1 sm nt1 hl al p2 hp2 => ?_)
  · unfold strsV at hx
    rw [List.getElem?_map] at hx
    cases hr : (Txt.split x nl)[i]? with
    | none => rw [hr] at hx; cases hx
    | some r =>
      rw [hr] at hx
      have e := Option.some.inj hx
      subst e
      have hm := part_le hy (List.mem_of_getElem? hr)
      have hs2 := split_len (x := r) hy2
      (walk_at "RD")
      exact ⟨Sub.name, by rw [len_bk]; decide, hzz _ (by omega), hzz _ (show (Txt.split r bk).length ≤ 40000 by omega), hN⟩
  · have sm0 : Same H H1 := (same_new hp).trans sm
    refine q _ _ (sm0.updN (sm0.free hp2)) ((nt1 (nt.upd)).upd) ⟨qs, upd_same, sm0.free hp2, fun hm => ?_, ?_, fun i q' r h1 h2 => ?_⟩
    · obtain ⟨j, hj, e⟩ := List.getElem_of_mem hm
      have hj2 : j < (strsV (Txt.split x nl)).length := by omega
      have := al j p2 _ (by rw [List.getElem?_eq_getElem hj, e]) (List.getElem?_eq_getElem hj2)
      rw [hp2] at this
      cases this.1
    · rw [hl]; unfold rowsOf strsV; rw [List.length_map, List.length_map]
    · unfold rowsOf at h2
      rw [List.getElem?_map] at h2
      cases hr : (Txt.split x nl)[i]? with
      | none => rw [hr] at h2; cases h2
      | some r0 =>
        rw [hr] at h2
        have e := Option.some.inj h2
        subst e
        have z := al i q' (.str r0) h1 (by unfold strsV; rw [List.getElem?_map, hr]; rfl)
        refine ⟨by rw [upd_ne (ne_of_none z.1 hp2)]; exact z.1, ?_⟩
        have := z.2
        by_cases hq : q' = p
        · rw [hq]; exact hp
        · rwa [upd_ne hq] at this
end
end My
namespace My
open PySem L2
/-! ### ways -/
structure WD where
  k : Nat
  name : Str
  start : Int
  fin : Int
  off : Int
  near : Int
  least : Int
def sortS : Nat → Str
  | 0 => Str.ofString "car"
  | 1 => Str.ofString "foot"
  | _ => Str.ofString "tram"
def Adr.cw (t : Adr) : Nat → Addr
  | 0 => t.c_CarWay
  | 1 => t.c_FootWay
  | _ => t.c_TramWay
def wFlds (d : WD) : List (Str × V) := [(Str.ofString "kind", .str (sortS d.k)), (Str.ofString "name", .str d.name), (Str.ofString "start", .int d.start), (Str.ofString "end", .int d.fin), (Str.ofString "off", .int d.off), (Str.ofString "near", .int d.near), (Str.ofString "least", .int d.least)]
abbrev wKeys : List Str := [Str.ofString "kind", Str.ofString "name", Str.ofString "start", Str.ofString "end", Str.ofString "off", Str.ofString "near", Str.ofString "least"]
theorem wFlds_keys (d : WD) : (wFlds d).map (·.1) = wKeys := rfl
def WayAt (t : Adr) (H : Hp) (p : Addr) (d : WD) : Prop := d.k < 3 ∧ ∃ dx, H p = some (.ins (t.cw d.k) dx (wFlds d))
theorem WayAt.same {t : Adr} {H H' : Hp} {p : Addr} {d : WD} (h : WayAt t H p d) (s : Same H H') : WayAt t H' p d := ⟨h.1, h.2.imp fun dx e => s _ _ e⟩
def isW (t : Adr) (C : Addr) : Prop := ∃ k, k < 3 ∧ C = t.cw k
def readyW (d : WD) : Int := match d.k with | 0 => 1 | 1 => 0 | _ => 2
def fadeW (d : WD) : Int := match d.k with | 0 => 2 | 1 => d.off | _ => 1
def goesW (d : WD) (n : Int) : Int := match d.k with | 1 => n | _ => if 1 < n then 1 else n
section
variable {w : World} {K : PySem.W.Frag} {mg : Str → Option Value} {t : Adr}
theorem Txt.clw (T : Txt w K mg t) : ∀ k, Cls K (t.cw k)
  | 0 => T.cl_CarWay
  | 1 => T.cl_FootWay
  | _ + 2 => T.cl_TramWay
theorem Txt.naw (T : Txt w K mg t) {f : Str} (hf : f ∈ wKeys) : ∀ k, NoAttr K (t.cw k) f := by
  intro k
  simp only [wKeys, List.mem_cons, List.not_mem_nil, or_false] at hf
  rcases hf with rfl | rfl | rfl | rfl | rfl | rfl | rfl
  · match k with
    | 0 => exact T.nA_CarWay_kind
    | 1 => exact T.nA_FootWay_kind
    | _ + 2 => exact T.nA_TramWay_kind
  · match k with
    | 0 => exact T.nA_CarWay_name
    | 1 => exact T.nA_FootWay_name
    | _ + 2 => exact T.nA_TramWay_name
  · match k with
    | 0 => exact T.nA_CarWay_start
    | 1 => exact T.nA_FootWay_start
    | _ + 2 => exact T.nA_TramWay_start
  · match k with
    | 0 => exact T.nA_CarWay_end
    | 1 => exact T.nA_FootWay_end
    | _ + 2 => exact T.nA_TramWay_end
  · match k with
    | 0 => exact T.nA_CarWay_off
    | 1 => exact T.nA_FootWay_off
    | _ + 2 => exact T.nA_TramWay_off
  · match k with
    | 0 => exact T.nA_CarWay_near
    | 1 => exact T.nA_FootWay_near
    | _ + 2 => exact T.nA_TramWay_near
  · match k with
    | 0 => exact T.nA_CarWay_least
    | 1 => exact T.nA_FootWay_least
    | _ + 2 => exact T.nA_TramWay_least
theorem Txt.cw_inj (T : Txt w K mg t) {j k : Nat} (hj : j < 3) (hk : k < 3) (e : t.cw j = t.cw k) : j = k := by
  match j, k, hj, hk with
  | 0, 0, _, _ => rfl
  | 0, 1, _, _ => exact absurd e T.dC_CarWay_FootWay
  | 0, 2, _, _ => exact absurd e T.dC_CarWay_TramWay
  | 1, 0, _, _ => exact absurd e.symm T.dC_CarWay_FootWay
  | 1, 1, _, _ => rfl
  | 1, 2, _, _ => exact absurd e T.dC_FootWay_TramWay
  | 2, 0, _, _ => exact absurd e.symm T.dC_CarWay_TramWay
  | 2, 1, _, _ => exact absurd e.symm T.dC_FootWay_TramWay
  | 2, 2, _, _ => rfl
  | j + 3, _, h, _ => omega
  | _, k + 3, _, h => omega
theorem WayAt.fld (T : Txt w K mg t) {H : Hp} {p : Addr} {d : WD} (h : WayAt t H p d) {f : Str} {v : V} (i : Nat) (hi : wKeys.findIdx? (· == f) = some i) (hv : (wFlds d)[i]? = some (f, v)) : FldAt K H p f v := by
  obtain ⟨_, dx, e⟩ := h
  have hm : f ∈ wKeys := by
    obtain ⟨hlt, h1, _⟩ := List.findIdx?_eq_some_iff_getElem.mp hi
    have : wKeys[i] = f := by simpa using h1
    rw [← this]; exact List.getElem_mem hlt
  exact ⟨_, dx, _, e, T.clw _, T.naw hm _, lookup_at wKeys i (wFlds_keys d) hi hv⟩
theorem WayAt.f_kind (T : Txt w K mg t) {H : Hp} {p : Addr} {d : WD} (h : WayAt t H p d) : FldAt K H p (Str.ofString "kind") (.str (sortS d.k)) := h.fld T 0 (by decide +kernel) rfl
theorem WayAt.f_name (T : Txt w K mg t) {H : Hp} {p : Addr} {d : WD} (h : WayAt t H p d) : FldAt K H p (Str.ofString "name") (.str d.name) := h.fld T 1 (by decide +kernel) rfl
theorem WayAt.f_start (T : Txt w K mg t) {H : Hp} {p : Addr} {d : WD} (h : WayAt t H p d) : FldAt K H p (Str.ofString "start") (.int d.start) := h.fld T 2 (by decide +kernel) rfl
theorem WayAt.f_end (T : Txt w K mg t) {H : Hp} {p : Addr} {d : WD} (h : WayAt t H p d) : FldAt K H p (Str.ofString "end") (.int d.fin) := h.fld T 3 (by decide +kernel) rfl
theorem WayAt.f_off (T : Txt w K mg t) {H : Hp} {p : Addr} {d : WD} (h : WayAt t H p d) : FldAt K H p (Str.ofString "off") (.int d.off) := h.fld T 4 (by decide +kernel) rfl
theorem WayAt.f_near (T : Txt w K mg t) {H : Hp} {p : Addr} {d : WD} (h : WayAt t H p d) : FldAt K H p (Str.ofString "near") (.int d.near) := h.fld T 5 (by decide +kernel) rfl
theorem WayAt.f_least (T : Txt w K mg t) {H : Hp} {p : Addr} {d : WD} (h : WayAt t H p d) : FldAt K H p (Str.ofString "least") (.int d.least) := h.fld T 6 (by decide +kernel) rfl
end
/-- Way.__init__: the fields are stored -/
def sp_wayI (t : Adr) : Sp := fun vs H Q _ => ∃ (p dx : Addr) (d : WD), vs = [.ref p, .str (sortS d.k), .str d.name, .int d.start, .int d.fin, .int d.off, .int d.near, .int d.least] ∧ d.k < 3 ∧ H p = some (.ins (t.cw d.k) dx []) ∧ Q .non (upd H p (.ins (t.cw d.k) dx (wFlds d)))
def sp_sortI (t : Adr) (k : Nat) : Sp := fun vs H Q _ => ∃ (p dx : Addr) (d : WD), vs = [.ref p, .str d.name, .int d.start, .int d.fin, .int d.off, .int d.near, .int d.least] ∧ d.k = k ∧ H p = some (.ins (t.cw d.k) dx []) ∧ Q .non (upd H p (.ins (t.cw d.k) dx (wFlds d)))
section
variable {P : Program} {w : World} {K : PySem.W.Frag} {mg : Str → Option Value} {base : Heap} {t : Adr}
theorem ok_wayI (T : Txt w K mg t) : FnOk P w K mg base CX0 1 t.a_Way_init t.d_Way_init ["self", "kind", "name", "start", "end", "off", "near", "least"] (sp_wayI t) := by
  refine T.F_Way_init.ok sc_Way___init__ (fun vs H Q E h => ?_) (fun cdv A outer s H vs Q E hr h => ?_)
  · obtain ⟨p, dx, d, rfl, _⟩ := h; rfl
  obtain ⟨p, dx, d, rfl, hk, hp, q⟩ := h
  refine ⟨_, (pss_cons (ps_fld (pv 0) (pv 1) rfl)
      (pss_cons (ps_fld (pv 0) (pv 2) rfl)
      (pss_cons (ps_fld (pv 0) (pv 3) rfl)
      (pss_cons (ps_fld (pv 0) (pv 4) rfl)
      (pss_cons (ps_fld (pv 0) (pv 5) rfl)
      (pss_cons (ps_fld (pv 0) (pv 6) rfl)
      (pss_one (ps_fld (pv 0) (pv 7) rfl)))))))), ?_⟩
  (walk_at "RD")
  have na : ∀ {f : Str}, f ∈ wKeys → NoAttr K (t.cw d.k) f := fun hf => T.naw hf d.k
  refine ⟨_, _, _, hp, T.clw _, na (by decide +kernel), by decide, ?_⟩
  refine ⟨_, _, _, upd_same, T.clw _, na (by decide +kernel), lenP (n := 999) (by decide), ?_⟩
  refine ⟨_, _, _, upd_same, T.clw _, na (by decide +kernel), lenP (n := 999) (lenP (n := 998) (by decide)), ?_⟩
  refine ⟨_, _, _, upd_same, T.clw _, na (by decide +kernel), lenP (n := 999) (lenP (n := 998) (lenP (n := 997) (by decide))), ?_⟩
  refine ⟨_, _, _, upd_same, T.clw _, na (by decide +kernel), lenP (n := 999) (lenP (n := 998) (lenP (n := 997) (lenP (n := 996) (by decide)))), ?_⟩
  refine ⟨_, _, _, upd_same, T.clw _, na (by decide +kernel), lenP (n := 999) (lenP (n := 998) (lenP (n := 997) (lenP (n := 996) (lenP (n := 995) (by decide))))), ?_⟩
  refine ⟨_, _, _, upd_same, T.clw _, na (by decide +kernel), lenP (n := 999) (lenP (n := 998) (lenP (n := 997) (lenP (n := 996) (lenP (n := 995) (lenP (n := 994) (by decide)))))), ?_⟩
  simp only [upd_upd]
  rw [show putF (Str.ofString "kind") (V.str (sortS d.k)) ([] : List (Str × V)) = [(Str.ofString "kind", V.str (sortS d.k))] from putF_new [] rfl (by decide +kernel),
    show putF (Str.ofString "name") (V.str d.name) ([(Str.ofString "kind", V.str (sortS d.k))] : List (Str × V)) = [(Str.ofString "kind", V.str (sortS d.k)), (Str.ofString "name", V.str d.name)] from putF_new [Str.ofString "kind"] rfl (by decide +kernel),
    show putF (Str.ofString "start") (V.int d.start) ([(Str.ofString "kind", V.str (sortS d.k)), (Str.ofString "name", V.str d.name)] : List (Str × V)) = [(Str.ofString "kind", V.str (sortS d.k)), (Str.ofString "name", V.str d.name), (Str.ofString "start", V.int d.start)] from putF_new [Str.ofString "kind", Str.ofString "name"] rfl (by decide +kernel),
    show putF (Str.ofString "end") (V.int d.fin) ([(Str.ofString "kind", V.str (sortS d.k)), (Str.ofString "name", V.str d.name), (Str.ofString "start", V.int d.start)] : List (Str × V)) = [(Str.ofString "kind", V.str (sortS d.k)), (Str.ofString "name", V.str d.name), (Str.ofString "start", V.int d.start), (Str.ofString "end", V.int d.fin)] from putF_new [Str.ofString "kind", Str.ofString "name", Str.ofString "start"] rfl (by decide +kernel),
    show putF (Str.ofString "off") (V.int d.off) ([(Str.ofString "kind", V.str (sortS d.k)), (Str.ofString "name", V.str d.name), (Str.ofString "start", V.int d.start), (Str.ofString "end", V.int d.fin)] : List (Str × V)) = [(Str.ofString "kind", V.str (sortS d.k)), (Str.ofString "name", V.str d.name), (Str.ofString "start", V.int d.start), (Str.ofString "end", V.int d.fin), (Str.ofString "off", V.int d.off)] from putF_new [Str.ofString "kind", Str.ofString "name", Str.ofString "start", Str.ofString "end"] rfl (by decide +kernel),
    show putF (Str.ofString "near") (V.int d.near) ([(Str.ofString "kind", V.str (sortS d.k)), (Str.ofString "name", V.str d.name), (Str.ofString "start", V.int d.start), (Str.ofString "end", V.int d.fin), (Str.ofString "off", V.int d.off)] : List (Str × V)) = [(Str.ofString "kind", V.str (sortS d.k)), (Str.ofString "name", V.str d.name), (Str.ofString "start", V.int d.start), (Str.ofString "end", V.int d.fin), (Str.ofString "off", V.int d.off), (Str.ofString "near", V.int d.near)] from putF_new [Str.ofString "kind", Str.ofString "name", Str.ofString "start", Str.ofString "end", Str.ofString "off"] rfl (by decide +kernel),
    show putF (Str.ofString "least") (V.int d.least) ([(Str.ofString "kind", V.str (sortS d.k)), (Str.ofString "name", V.str d.name), (Str.ofString "start", V.int d.start), (Str.ofString "end", V.int d.fin), (Str.ofString "off", V.int d.off), (Str.ofString "near", V.int d.near)] : List (Str × V)) = [(Str.ofString "kind", V.str (sortS d.k)), (Str.ofString "name", V.str d.name), (Str.ofString "start", V.int d.start), (Str.ofString "end", V.int d.fin), (Str.ofString "off", V.int d.off), (Str.ofString "near", V.int d.near), (Str.ofString "least", V.int d.least)] from putF_new [Str.ofString "kind", Str.ofString "name", Str.ofString "start", Str.ofString "end", Str.ofString "off", Str.ofString "near"] rfl (by decide +kernel)]
  exact q
theorem ok_carI (T : Txt w K mg t) : FnOk P w K mg base CX0 2 t.a_CarWay_init t.d_CarWay_init ["self", "name", "start", "end", "off", "near", "least"] (sp_sortI t 0) := by
  have G_Way_init : FnOk P w K mg base CX0 1 t.a_Way_init t.d_Way_init ["self", "kind", "name", "start", "end", "off", "near", "least"] (sp_wayI t) := ok_wayI T
  refine T.F_CarWay_init.ok sc_CarWay___init__ (fun vs H Q E h => ?_) (fun cdv A outer s H vs Q E hr h => ?_)
  · obtain ⟨p, dx, d, rfl, _⟩ := h; rfl
  obtain ⟨p, dx, d, rfl, hk, hp, q⟩ := h
  refine ⟨_, (pss_one (ps_expr (pe_callC rfl T.m_Way T.C_Way_init G_Way_init hr T.n_Way_init .nil pass0 (pa_cons (pv 0) (pa_cons pe_str (pa_cons (pv 1) (pa_cons (pv 2) (pa_cons (pv 3) (pa_cons (pv 4) (pa_cons (pv 5) (pa_cons (pv 6) pa_nil))))))))))), ?_⟩
  (walk_at "RD")
  exact ⟨p, dx, d, by rw [hk]; rfl, by omega, hp, q⟩
theorem ok_footI (T : Txt w K mg t) : FnOk P w K mg base CX0 2 t.a_FootWay_init t.d_FootWay_init ["self", "name", "start", "end", "off", "near", "least"] (sp_sortI t 1) := by
  have G_Way_init : FnOk P w K mg base CX0 1 t.a_Way_init t.d_Way_init ["self", "kind", "name", "start", "end", "off", "near", "least"] (sp_wayI t) := ok_wayI T
  refine T.F_FootWay_init.ok sc_FootWay___init__ (fun vs H Q E h => ?_) (fun cdv A outer s H vs Q E hr h => ?_)
  · obtain ⟨p, dx, d, rfl, _⟩ := h; rfl
  obtain ⟨p, dx, d, rfl, hk, hp, q⟩ := h
  refine ⟨_, (pss_one (ps_expr (pe_callC rfl T.m_Way T.C_Way_init G_Way_init hr T.n_Way_init .nil pass0 (pa_cons (pv 0) (pa_cons pe_str (pa_cons (pv 1) (pa_cons (pv 2) (pa_cons (pv 3) (pa_cons (pv 4) (pa_cons (pv 5) (pa_cons (pv 6) pa_nil))))))))))), ?_⟩
  (walk_at "RD")
  exact ⟨p, dx, d, by rw [hk]; rfl, by omega, hp, q⟩
theorem ok_tramI (T : Txt w K mg t) : FnOk P w K mg base CX0 2 t.a_TramWay_init t.d_TramWay_init ["self", "name", "start", "end", "off", "near", "least"] (sp_sortI t 2) := by
  have G_Way_init : FnOk P w K mg base CX0 1 t.a_Way_init t.d_Way_init ["self", "kind", "name", "start", "end", "off", "near", "least"] (sp_wayI t) := ok_wayI T
  refine T.F_TramWay_init.ok sc_TramWay___init__ (fun vs H Q E h => ?_) (fun cdv A outer s H vs Q E hr h => ?_)
  · obtain ⟨p, dx, d, rfl, _⟩ := h; rfl
  obtain ⟨p, dx, d, rfl, hk, hp, q⟩ := h
  refine ⟨_, (pss_one (ps_expr (pe_callC rfl T.m_Way T.C_Way_init G_Way_init hr T.n_Way_init .nil pass0 (pa_cons (pv 0) (pa_cons pe_str (pa_cons (pv 1) (pa_cons (pv 2) (pa_cons (pv 3) (pa_cons (pv 4) (pa_cons (pv 5) (pa_cons (pv 6) pa_nil))))))))))), ?_⟩
  (walk_at "RD")
  exact ⟨p, dx, d, by rw [hk]; rfl, by omega, hp, q⟩
end
/-! ### texts joined and cut again -/
def jl (c : Nat) : List (List Nat) → List Nat
  | [] => []
  | [a] => a
  | a :: b :: r => a ++ c :: jl c (b :: r)
theorem app_inj {c : Nat} : ∀ {a b X Y : List Nat}, c ∉ a → c ∉ b → a ++ c :: X = b ++ c :: Y → a = b ∧ X = Y
  | [], [], X, Y, _, _, h => ⟨rfl, (List.cons.inj h).2⟩
  | [], d :: b, X, Y, _, hb, h => absurd (List.cons.inj h).1 (fun z => hb (by simp [← z]))
  | d :: a, [], X, Y, ha, _, h => absurd (List.cons.inj h).1 (fun z => ha (by simp [z]))
  | d :: a, e :: b, X, Y, ha, hb, h => by
    obtain ⟨h1, h2⟩ := List.cons.inj h
    obtain ⟨e1, e2⟩ := app_inj (fun z => ha (List.mem_cons_of_mem _ z)) (fun z => hb (List.mem_cons_of_mem _ z)) h2
    exact ⟨by rw [h1, e1], e2⟩
theorem jl_inj {c : Nat} : ∀ {ps qs : List (List Nat)}, (∀ p ∈ ps, c ∉ p) → (∀ q ∈ qs, c ∉ q) → ps ≠ [] → qs ≠ [] → jl c ps = jl c qs → ps = qs
  | [a], [b], _, _, _, _, h => by rw [show a = b from h]
  | [a], b :: b' :: r, ha, _, _, _, h => absurd (show c ∈ a by rw [show a = b ++ c :: jl c (b' :: r) from h]; simp) (ha a (by simp))
  | a :: a' :: r, [b], _, hb, _, _, h => absurd (show c ∈ b by rw [show b = a ++ c :: jl c (a' :: r) from h.symm]; simp) (hb b (by simp))
  | a :: a' :: r, b :: b' :: s, ha, hb, _, _, h => by
    obtain ⟨e1, e2⟩ := app_inj (ha a (by simp)) (hb b (by simp)) (show a ++ c :: jl c (a' :: r) = b ++ c :: jl c (b' :: s) from h)
    rw [e1, jl_inj (fun p hp => ha p (List.mem_cons_of_mem _ hp)) (fun q hq => hb q (List.mem_cons_of_mem _ hq)) (by simp) (by simp) e2]
  | [], _, _, _, h, _, _ => absurd rfl h
  | _ :: _, [], _, _, _, h, _ => absurd rfl h
theorem jl_mem {c d : Nat} : ∀ {ps : List (List Nat)}, d ∈ jl c ps → d = c ∨ ∃ p ∈ ps, d ∈ p
  | [], h => nomatch h
  | [a], h => .inr ⟨a, by simp, h⟩
  | a :: b :: r, h => by
    rcases List.mem_append.mp (show d ∈ a ++ c :: jl c (b :: r) from h) with h | h
    · exact .inr ⟨a, by simp, h⟩
    · rcases List.mem_cons.mp h with h | h
      · exact .inl h
      · rcases jl_mem h with h | ⟨p, hp, h⟩
        · exact .inl h
        · exact .inr ⟨p, List.mem_cons_of_mem _ hp, h⟩
theorem join_jl (c : Nat) : ∀ ys : List Str, (Str.join ⟨#[c]⟩ ys).cps.toList = jl c (ys.map (·.cps.toList))
  | [] => rfl
  | [a] => rfl
  | a :: b :: r => by
    show (a ++ ⟨#[c]⟩ ++ Str.join ⟨#[c]⟩ (b :: r)).cps.toList = _
    rw [Str.cps_append, Array.toList_append, Str.cps_append, Array.toList_append, join_jl c (b :: r)]
    simp [jl]
theorem str_ext {x y : Str} (h : x.cps.toList = y.cps.toList) : x = y := by
  cases x; cases y
  exact congrArg Str.mk (Array.toList_inj.mp h)
theorem split_join {c : Nat} {ys : List Str} (hn : ys ≠ []) (hf : ∀ y ∈ ys, c ∉ y.cps.toList) : Txt.split (Str.join ⟨#[c]⟩ ys) ⟨#[c]⟩ = ys := by
  have e := congrArg (·.cps.toList) (StrLaws.join_split (Str.join ⟨#[c]⟩ ys) ⟨#[c]⟩)
  simp only [join_jl] at e
  have e2 := jl_inj (c := c) (ps := (Txt.split (Str.join ⟨#[c]⟩ ys) ⟨#[c]⟩).map (·.cps.toList)) (qs := ys.map (·.cps.toList)) (fun p hp => by
    obtain ⟨y, hy, rfl⟩ := List.mem_map.mp hp
    exact StrLaws.split_free _ c y hy) (fun p hp => by
    obtain ⟨y, hy, rfl⟩ := List.mem_map.mp hp
    exact hf y hy) (by simp [split_ne]) (by simpa using hn) e
  exact (List.map_inj_right fun x y h => str_ext h).mp e2
/-! ### numbers as words -/
abbrev num (v : Int) : Str := Str.ofString (toString v)
theorem num_all : ∀ n, n < 1000 → (decide (1 ≤ ((Nat.toDigits 10 n).map Char.toNat).length) && decide (((Nat.toDigits 10 n).map Char.toNat).length ≤ 3) && ((Nat.toDigits 10 n).map Char.toNat).all isFig && (decide (((Nat.toDigits 10 n).map Char.toNat).length ≤ 1) || decide (((Nat.toDigits 10 n).map Char.toNat).headD 0 ≠ 48)) &&
    decide (NumText.digitsVal ((Nat.toDigits 10 n).map Char.toNat) = n)) = true := by decide +kernel
theorem num_ok {v : Int} (h0 : 0 ≤ v) (h1 : v < 1000) : okB (num v) = true ∧ val (num v) = v := by
  have e := PySem.W.KIN.signs_num v.toNat
  rw [Int.toNat_of_nonneg h0] at e
  have a := num_all v.toNat (by omega)
  rw [← e, Bool.and_eq_true, decide_eq_true_eq] at a
  exact ⟨a.1, by show ((NumText.digitsVal (cs (num v)) : Nat) : Int) = v; rw [a.2]; omega⟩
theorem num_fig {v lo hi : Int} (h0 : 0 ≤ v) (h1 : v < 1000) (hl : lo ≤ v) (hh : v ≤ hi) : figV (num v) lo hi = .int v := by
  obtain ⟨a, b⟩ := num_ok h0 h1
  unfold figV
  rw [a, b, decide_eq_false (by omega : ¬ v < lo), decide_eq_false (by omega : ¬ hi < v)]; rfl
theorem num_inj {u v : Int} (h0 : 0 ≤ u) (h1 : u < 1000) (h2 : 0 ≤ v) (h3 : v < 1000) (e : num u = num v) : u = v := by
  rw [← (num_ok h0 h1).2, e, (num_ok h2 h3).2]
theorem num_figs {v : Int} (h0 : 0 ≤ v) (h1 : v < 1000) : ∀ c ∈ (num v).cps.toList, 48 ≤ c ∧ c ≤ 57 := fun c hc => by
  have := List.all_eq_true.mp (okB_of (num_ok h0 h1).1).2 c hc
  simpa [isFig] using this
/-! ### the words of a crossing's text -/
theorem letters_list : letters.cps.toList = [97, 98, 99, 100, 101, 102, 103, 104, 105, 106, 107, 108, 109, 110, 111, 112, 113, 114, 115, 116, 117, 118, 119, 120, 121, 122] := by decide +kernel
theorem made_letters {x : Str} (h : made x letters 8 = true) : (1 ≤ x.length ∧ x.length ≤ 8) ∧ ∀ c ∈ x.cps.toList, 97 ≤ c ∧ c ≤ 122 := by
  unfold made at h
  split at h
  · cases h
  · rename_i h1
    split at h
    · cases h
    · rename_i h2
      have h3 : ¬ x.length = 0 := fun z => h1 (len0.mpr z)
      refine ⟨by omega, fun c hc => ?_⟩
      have := List.all_eq_true.mp h c hc
      rw [inL_mem, letters_list] at this
      simp only [decide_eq_true_eq, List.mem_cons, List.not_mem_nil, or_false] at this
      omega
theorem letters_made {x : Str} (h0 : 1 ≤ x.length) (h1 : x.length ≤ 8) (h : ∀ c ∈ x.cps.toList, 97 ≤ c ∧ c ≤ 122) : made x letters 8 = true := by
  unfold made
  rw [if_neg (fun z => by have := len0.mp z; omega), if_neg (by omega)]
  refine List.all_eq_true.mpr fun c hc => ?_
  have := h c hc
  rw [inL_mem, letters_list]
  simp only [decide_eq_true_eq, List.mem_cons, List.not_mem_nil, or_false]
  omega
structure WOk (n : Int) (d : WD) : Prop where
  k : d.k < 3
  nm : made d.name letters 8 = true
  st : 0 ≤ d.start ∧ d.start < n
  fi : 0 ≤ d.fin ∧ d.fin < n
  ne : d.start ≠ d.fin
  of : 0 ≤ d.off ∧ d.off ≤ 30
  nr : 0 ≤ d.near ∧ d.near ≤ 30
  le : 1 ≤ d.least ∧ d.least ≤ 60
structure COk (n : Int) (ds : List WD) : Prop where
  nn : 2 ≤ n ∧ n ≤ 99
  ln : 1 ≤ ds.length ∧ ds.length ≤ 12
  al : ∀ d ∈ ds, WOk n d
  nd : (ds.map (·.name)).Nodup
def wWords (d : WD) : List Str := [sortS d.k, d.name, num d.start, num d.fin, num d.off, num d.near, num d.least]
def cRows (n : Int) (ds : List WD) : List (List Str) := [Str.ofString "ring", num n] :: ds.map wWords
def cText (n : Int) (ds : List WD) : Str := Str.join nl ((cRows n ds).map (Str.join bk))
def Plain (x : Str) : Prop := x.length ≤ 8 ∧ (32 : Nat) ∉ x.cps.toList ∧ (10 : Nat) ∉ x.cps.toList
theorem plain_sort (k : Nat) : Plain (sortS k) := by
  match k with
  | 0 => exact ⟨by decide +kernel, by decide +kernel, by decide +kernel⟩
  | 1 => exact ⟨by decide +kernel, by decide +kernel, by decide +kernel⟩
  | _ + 2 => exact ⟨show (Str.ofString "tram").length ≤ 8 by decide +kernel, show (32 : Nat) ∉ (Str.ofString "tram").cps.toList by decide +kernel, show (10 : Nat) ∉ (Str.ofString "tram").cps.toList by decide +kernel⟩
theorem plain_num {v : Int} (h0 : 0 ≤ v) (h1 : v < 1000) : Plain (num v) :=
  ⟨Nat.le_trans (num_len h0 (by omega)) (by decide), fun z => by have := num_figs h0 h1 _ z; omega, fun z => by have := num_figs h0 h1 _ z; omega⟩
theorem plain_name {x : Str} (h : made x letters 8 = true) : Plain x :=
  ⟨(made_letters h).1.2, fun z => by have := (made_letters h).2 _ z; omega, fun z => by have := (made_letters h).2 _ z; omega⟩
theorem WOk.plain {n : Int} {d : WD} (h : WOk n d) (hn : n ≤ 99) : ∀ x ∈ wWords d, Plain x := fun x hx => by
  have h1 := h.st; have h2 := h.fi; have h3 := h.of; have h4 := h.nr; have h5 := h.le
  simp only [wWords, List.mem_cons, List.not_mem_nil, or_false] at hx
  rcases hx with rfl | rfl | rfl | rfl | rfl | rfl | rfl
  · exact plain_sort _
  · exact plain_name h.nm
  · exact plain_num (by omega) (by omega)
  · exact plain_num (by omega) (by omega)
  · exact plain_num (by omega) (by omega)
  · exact plain_num (by omega) (by omega)
  · exact plain_num (by omega) (by omega)
theorem COk.plain {n : Int} {ds : List WD} (h : COk n ds) : ∀ r ∈ cRows n ds, ∀ x ∈ r, Plain x := fun r hr x hx => by
  have hn := h.nn
  rcases List.mem_cons.mp hr with rfl | hr
  · simp only [List.mem_cons, List.not_mem_nil, or_false] at hx
    rcases hx with rfl | rfl
    · exact ⟨by decide +kernel, by decide +kernel, by decide +kernel⟩
    · exact plain_num (by omega) (by omega)
  · obtain ⟨d, hd, rfl⟩ := List.mem_map.mp hr
    exact (h.al d hd).plain hn.2 x hx
theorem rows_join {rs : List (List Str)} (h0 : rs ≠ []) (h1 : ∀ r ∈ rs, r ≠ []) (h2 : ∀ r ∈ rs, ∀ x ∈ r, Plain x) : rowsOf (Str.join nl (rs.map (Str.join bk))) = rs := by
  unfold rowsOf
  rw [nl_eq, bk_eq]
  rw [split_join (by simpa using h0) (fun y hy => by
    obtain ⟨r, hr, rfl⟩ := List.mem_map.mp hy
    rw [join_jl]
    intro z
    rcases jl_mem z with z | ⟨p, hp, z⟩
    · cases z
    · obtain ⟨x, hx, rfl⟩ := List.mem_map.mp hp
      exact (h2 r hr x hx).2.2 z)]
  rw [List.map_map]
  have : ∀ r ∈ rs, ((fun r => Txt.split r ⟨#[32]⟩) ∘ Str.join ⟨#[32]⟩) r = r := fun r hr => split_join (h1 r hr) fun x hx => (h2 r hr x hx).2.1
  exact (List.map_congr_left this).trans (List.map_id rs)
theorem rows_cText {n : Int} {ds : List WD} (h : COk n ds) : rowsOf (cText n ds) = cRows n ds := rows_join (by simp [cRows]) (fun r hr => by
  rcases List.mem_cons.mp hr with rfl | hr
  · simp
  · obtain ⟨d, hd, rfl⟩ := List.mem_map.mp hr
    simp [wWords]) h.plain
theorem join_le (sep : Str) (B : Nat) : ∀ ys : List Str, (∀ y ∈ ys, y.length ≤ B) → (Str.join sep ys).length ≤ ys.length * (B + sep.length)
  | [], _ => by show (Str.empty).length ≤ _; exact Nat.zero_le _
  | [a], h => by
    have := h a (by simp)
    show a.length ≤ _
    simp only [List.length_cons, List.length_nil]; omega
  | a :: b :: r, h => by
    have h1 := h a (by simp)
    have h2 := join_le sep B (b :: r) fun y hy => h y (List.mem_cons_of_mem _ hy)
    show (a ++ sep ++ Str.join sep (b :: r)).length ≤ _
    rw [len_app, len_app, List.length_cons, Nat.succ_mul]
    omega
theorem cText_len {n : Int} {ds : List WD} (h : COk n ds) : (cText n ds).length ≤ 1000 := by
  have h1 : ∀ y ∈ (cRows n ds).map (Str.join bk), y.length ≤ 63 := fun y hy => by
    obtain ⟨r, hr, rfl⟩ := List.mem_map.mp hy
    have := join_le bk 8 r fun x hx => (h.plain r hr x hx).1
    rw [len_bk] at this
    have hl : r.length ≤ 7 := by
      rcases List.mem_cons.mp hr with rfl | hr
      · simp
      · obtain ⟨d, hd, rfl⟩ := List.mem_map.mp hr
        simp [wWords]
    omega
  have h2 := join_le nl 63 _ h1
  rw [len_nl] at h2
  have h3 : ((cRows n ds).map (Str.join bk)).length ≤ 13 := by
    have := h.ln
    simp [cRows]; omega
  unfold cText
  omega
end My
namespace My
open PySem L2
/-! ### readers of rows -/
abbrev rKeys : List Str := [Str.ofString "row", Str.ofString "told", Str.ofString "place"]
def rdF (row : Int) (ta : Addr) (pl : Int) : List (Str × V) := [(Str.ofString "row", .int row), (Str.ofString "told", .ref ta), (Str.ofString "place", .int pl)]
theorem rdF_keys (row : Int) (ta : Addr) (pl : Int) : (rdF row ta pl).map (·.1) = rKeys := rfl
theorem putF_pl (row : Int) (ta : Addr) (pl v : Int) : putF (Str.ofString "place") (.int v) (rdF row ta pl) = rdF row ta v := by
  unfold rdF
  simp only [putF]
  rw [if_neg (by decide +kernel), if_neg (by decide +kernel)]; rfl
def RdAt (t : Adr) (H : Hp) (p : Addr) (row : Int) (ws : List Str) (pl : Nat) : Prop :=
  (ws.length ≤ 1000 ∧ ∀ x ∈ ws, x.length ≤ 1000) ∧ ∃ dx ta, H p = some (.ins t.c_RowReader dx (rdF row ta pl)) ∧ H ta = some (.lst (strsV ws))
def SameX (p : Addr) (H H' : Hp) : Prop := ∀ b u, b ≠ p → H b = some u → H' b = some u
theorem SameX.trans {p : Addr} {H H1 H2 : Hp} (a : SameX p H H1) (b : SameX p H1 H2) : SameX p H H2 := fun c u n e => b c u n (a c u n e)
theorem SameX.of {p : Addr} {H H1 : Hp} (a : Same H H1) : SameX p H H1 := fun c u _ e => a c u e
theorem SameX.put {p : Addr} {H : Hp} {o : HO} : SameX p H (upd H p o) := fun c u n e => by rw [upd_ne n]; exact e
theorem strsV_len (ws : List Str) : (strsV ws).length = ws.length := by unfold strsV; rw [List.length_map]
theorem strsV_at {ws : List Str} {i : Nat} {x : Str} (h : ws[i]? = some x) : (strsV ws)[i]? = some (.str x) := by unfold strsV; rw [List.getElem?_map, h]; rfl
theorem strsV_flat (ws : List Str) : (strsV ws).all flatV = true := by unfold strsV; simp [flatV]
theorem inV_strs (x : Str) (xs : List Str) : inV (.str x) (strsV xs) = decide (x ∈ xs) := by
  unfold inV strsV
  rw [List.any_map, Bool.eq_iff_iff]
  simp only [List.any_eq_true, Function.comp, eqV, beq_iff_eq, decide_eq_true_eq]
  constructor
  · rintro ⟨y, hy, rfl⟩; exact hy
  · intro h; exact ⟨x, h, rfl⟩
section
variable {w : World} {K : PySem.W.Frag} {mg : Str → Option Value} {t : Adr} {H H' : Hp} {p : Addr} {row : Int} {ws : List Str} {pl : Nat}
theorem RdAt.same (h : RdAt t H p row ws pl) (s : Same H H') : RdAt t H' p row ws pl := by
  obtain ⟨hz, dx, ta, e1, e2⟩ := h
  exact ⟨hz, dx, ta, s _ _ e1, s _ _ e2⟩
theorem RdAt.sameX {q : Addr} (h : RdAt t H p row ws pl) (s : SameX q H H') (n : p ≠ q) (k : ∃ C dx fs, H q = some (.ins C dx fs)) : RdAt t H' p row ws pl := by
  obtain ⟨hz, dx, ta, e1, e2⟩ := h
  obtain ⟨C, dq, fs, e3⟩ := k
  exact ⟨hz, dx, ta, s _ _ n e1, s _ _ (ne_of e2 e3 (by intro z; cases z)) e2⟩
theorem RdAt.ins (h : RdAt t H p row ws pl) : ∃ C dx fs, H p = some (.ins C dx fs) := by
  obtain ⟨hz, dx, ta, e1, e2⟩ := h
  exact ⟨_, _, _, e1⟩
theorem RdAt.no {m : Str} (row : Int) (ta : Addr) (pl : Int) (h : rKeys.contains m = false) : (rdF row ta pl).lookup m = none := lookup_no rKeys (rdF_keys ..) h
theorem rd_place (T : Txt w K mg t) {dx ta : Addr} {pl : Int} (e : H p = some (.ins t.c_RowReader dx (rdF row ta pl))) : FldAt K H p (Str.ofString "place") (.int pl) :=
  ⟨_, dx, _, e, T.cl_RowReader, T.nA_RowReader_place, lookup_at rKeys 2 (rdF_keys ..) (by decide +kernel) rfl⟩
theorem rd_told (T : Txt w K mg t) {dx ta : Addr} {pl : Int} (e : H p = some (.ins t.c_RowReader dx (rdF row ta pl))) : FldAt K H p (Str.ofString "told") (.ref ta) :=
  ⟨_, dx, _, e, T.cl_RowReader, T.nA_RowReader_told, lookup_at rKeys 1 (rdF_keys ..) (by decide +kernel) rfl⟩
end
def sp_rdI (t : Adr) : Sp := fun vs H Q _ => ∃ (p dx ta : Addr) (row : Int), vs = [.ref p, .int row, .ref ta] ∧ H p = some (.ins t.c_RowReader dx []) ∧ Q .non (upd H p (.ins t.c_RowReader dx (rdF row ta 0)))
def sp_ahead (t : Adr) : Sp := fun vs H Q _ => ∃ p row ws pl, vs = [.ref p] ∧ RdAt t H p row ws pl ∧ pl ≤ ws.length ∧ Q (.str (ws.getD pl (Str.ofString ""))) H
def sp_more (t : Adr) : Sp := fun vs H Q _ => ∃ p row ws pl, vs = [.ref p] ∧ RdAt t H p row ws pl ∧ Q (.bl (decide (pl < ws.length))) H
def Step (t : Adr) (H : Hp) (p : Addr) (row : Int) (ws : List Str) (pl : Nat) (R : Hp → Prop) : Prop := ∀ H', SameX p H H' → (NoT H → NoT H') → RdAt t H' p row ws pl → R H'
def sp_take (t : Adr) : Sp := fun vs H Q _ => ∃ p row ws pl, vs = [.ref p, .bl true] ∧ RdAt t H p row ws pl ∧ Step t H p row ws (pl + 1) (Q .non)
def sp_oneof (K : PySem.W.Frag) (t : Adr) : Sp := fun vs H Q _ => ∃ p row ws pl x c xs, vs = [.ref p, .ref c] ∧ RdAt t H p row ws pl ∧ ws[pl]? = some x ∧ SqL K H c (strsV xs) ∧ x ∈ xs ∧ Step t H p row ws (pl + 1) (Q (.str x))
def sp_figs (t : Adr) : Sp := fun vs H Q _ => ∃ p row ws pl x lo hi v, vs = [.ref p, .int lo, .int hi] ∧ RdAt t H p row ws pl ∧ ws[pl]? = some x ∧ figV x lo hi = .int v ∧ NoT H ∧ Step t H p row ws (pl + 1) (Q (.int v))
def sp_fin (t : Adr) : Sp := fun vs H Q _ => ∃ p row ws pl, vs = [.ref p] ∧ RdAt t H p row ws pl ∧ pl = ws.length ∧ Q .non H
section
variable {P : Program} {w : World} {K : PySem.W.Frag} {mg : Str → Option Value} {base : Heap} {t : Adr}
theorem ok_rdI (T : Txt w K mg t) : FnOk P w K mg base CX0 1 t.a_RowReader_init t.d_RowReader_init ["self", "row", "told"] (sp_rdI t) := by
  refine T.F_RowReader_init.ok sc_RowReader___init__ (fun vs H Q E h => ?_) (fun cdv A outer s H vs Q E hr h => ?_)
  · obtain ⟨p, dx, ta, row, rfl, _⟩ := h; rfl
  obtain ⟨p, dx, ta, row, rfl, hp, q⟩ := h
  refine ⟨_, (pss_cons (ps_fld (pv 0) (pv 1) rfl)
      (pss_cons (ps_fld (pv 0) (pv 2) rfl)
      (pss_one (ps_fld (pv 0) pe_int rfl)))), ?_⟩
  (walk_at "RD")
  refine ⟨_, _, _, hp, T.cl_RowReader, T.nA_RowReader_row, by decide, ?_⟩
  refine ⟨_, _, _, upd_same, T.cl_RowReader, T.nA_RowReader_told, lenP (n := 999) (by decide), ?_⟩
  refine ⟨_, _, _, upd_same, T.cl_RowReader, T.nA_RowReader_place, lenP (n := 999) (lenP (n := 998) (by decide)), ?_⟩
  simp only [upd_upd]
  rw [show putF (Str.ofString "row") (V.int row) ([] : List (Str × V)) = [(Str.ofString "row", V.int row)] from putF_new [] rfl (by decide +kernel),
    show putF (Str.ofString "told") (V.ref ta) ([(Str.ofString "row", V.int row)] : List (Str × V)) = [(Str.ofString "row", V.int row), (Str.ofString "told", V.ref ta)] from putF_new [Str.ofString "row"] rfl (by decide +kernel),
    show putF (Str.ofString "place") (V.int 0) ([(Str.ofString "row", V.int row), (Str.ofString "told", V.ref ta)] : List (Str × V)) = [(Str.ofString "row", V.int row), (Str.ofString "told", V.ref ta), (Str.ofString "place", V.int 0)] from putF_new [Str.ofString "row", Str.ofString "told"] rfl (by decide +kernel)]
  exact q
theorem ok_ahead (T : Txt w K mg t) : FnOk P w K mg base CX0 1 t.a_RowReader_ahead t.d_RowReader_ahead ["self"] (sp_ahead t) := by
  refine T.F_RowReader_ahead.ok sc_RowReader_ahead (fun vs H Q E h => ?_) (fun cdv A outer s H vs Q E hr h => ?_)
  · obtain ⟨p, row, ws, pl, rfl, _⟩ := h; rfl
  obtain ⟨p, row, ws, pl, rfl, ⟨hz, dx, ta, e1, e2⟩, hle, q⟩ := h
  refine ⟨_, (pss_cons (ps_if (pt_cmpR op_eq (pe_fld (pv 0) rfl) (pe_callB call_len_seq rfl T.b_len boot_b_len (pa_cons (pe_fld (pv 0) rfl) pa_nil)) (nomark _)) (pss_one (ps_ret pe_str)) pss_nil)
      (pss_one (ps_ret (pe_ix ix_list (pe_fld (pv 0) rfl) (pe_fld (pv 0) rfl) (fun _ _ => rfl))))), ?_⟩
  (walk_at "RD")
  refine tIfS_by (decide ((pl : Int) = (ws.length : Int))) (fun Q hQ => ?_) (fun c => ?_) (fun c => ?_)
  · (walk_at "RD")
    refine ⟨_, rd_place T e1, _, rd_told T e1, _, rfl, _, .inl (SqL.of e2), rfl, ?_⟩
    rw [strsV_len]
    (walk_at "RD")
    exact hQ
  · (walk_at "RD")
    have c' : pl = ws.length := by have := of_decide_eq_true c; omega
    rw [show ws.getD pl (Str.ofString "") = Str.ofString "" by rw [List.getD_eq_getElem?_getD, List.getElem?_eq_none (by omega)]; rfl] at q
    exact q
  · (walk_at "RD")
    have c' : pl < ws.length := by have := of_decide_eq_false c; omega
    have hx : ws[pl]? = some ws[pl] := List.getElem?_eq_getElem c'
    rw [List.getD_eq_getElem?_getD, hx] at q
    exact ⟨_, rd_told T e1, _, rd_place T e1, _, rfl, _, _, rfl, SqL.of e2, _, atI_nat (strsV_at hx), q⟩
theorem ok_more (T : Txt w K mg t) : FnOk P w K mg base CX0 1 t.a_RowReader_has_more t.d_RowReader_has_more ["self"] (sp_more t) := by
  refine T.F_RowReader_has_more.ok sc_RowReader_has_more (fun vs H Q E h => ?_) (fun cdv A outer s H vs Q E hr h => ?_)
  · obtain ⟨p, row, ws, pl, rfl, _⟩ := h; rfl
  obtain ⟨p, row, ws, pl, rfl, ⟨hz, dx, ta, e1, e2⟩, q⟩ := h
  refine ⟨_, (pss_one (ps_ret (pe_cmpR op_lt (pe_fld (pv 0) rfl) (pe_callB call_len_seq rfl T.b_len boot_b_len (pa_cons (pe_fld (pv 0) rfl) pa_nil)) (nomark _)))), ?_⟩
  (walk_at "RD")
  have e : decide (pl < ws.length) = decide ((pl : Int) < (ws.length : Int)) := by rw [Bool.eq_iff_iff]; simp
  rw [e] at q
  refine ⟨_, rd_place T e1, _, rd_told T e1, _, rfl, _, .inl (SqL.of e2), ?_⟩
  rw [strsV_len]
  exact ⟨_, rfl, q⟩
theorem ok_take (T : Txt w K mg t) : FnOk P w K mg base CX0 1 t.a_RowReader_take t.d_RowReader_take ["self", "good"] (sp_take t) := by
  refine T.F_RowReader_take.ok sc_RowReader_take (fun vs H Q E h => ?_) (fun cdv A outer s H vs Q E hr h => ?_)
  · obtain ⟨p, row, ws, pl, rfl, _⟩ := h; rfl
  obtain ⟨p, row, ws, pl, rfl, ⟨hz, dx, ta, e1, e2⟩, q⟩ := h
  refine ⟨_, (pss_cons (ps_if (pt_not (pt_val (pv 1))) (pss_one ps_never) pss_nil)
      (pss_one (ps_fldaug (pv 0) pe_int in_add))), ?_⟩
  (walk_at "RD")
  refine tIfS_by false (fun Q hQ => ?_) (fun hc => nomatch hc) (fun _ => ?_)
  · (walk_at "RD")
    exact hQ
  · (walk_at "RD")
    refine ⟨_, _, _, e1, T.cl_RowReader, T.nA_RowReader_place, _, lookup_at rKeys 2 (rdF_keys ..) (by decide +kernel) rfl, _, rfl, _, _, e1, by rw [← List.length_map (f := (·.1)), rdF_keys]; decide, ?_⟩
    rw [putF_pl]
    exact q _ SameX.put (fun n => n.upd) ⟨hz, dx, ta, upd_same, by rw [upd_ne (ne_of e2 e1 (by intro z; cases z))]; exact e2⟩
theorem ok_oneof (T : Txt w K mg t) : FnOk P w K mg base CX0 2 t.a_RowReader_one_of t.d_RowReader_one_of ["self", "choices"] (sp_oneof K t) := by
  have G_RowReader_ahead : FnOk P w K mg base CX0 1 t.a_RowReader_ahead t.d_RowReader_ahead ["self"] (sp_ahead t) := ok_ahead T
  have G_RowReader_take : FnOk P w K mg base CX0 1 t.a_RowReader_take t.d_RowReader_take ["self", "good"] (sp_take t) := ok_take T
  refine T.F_RowReader_one_of.ok sc_RowReader_one_of (fun vs H Q E h => ?_) (fun cdv A outer s H vs Q E hr h => ?_)
  · obtain ⟨p, row, ws, pl, x, c, xs, rfl, _⟩ := h; rfl
  obtain ⟨p, row, ws, pl, x, c, xs, rfl, R, hx, hc, hm, q⟩ := h
  refine ⟨_, (pss_cons (ps_set (i := 2) sc_RowReader_one_of.nd rfl (Or.inl rfl) (pe_meth0 (pv 0) T.cl_RowReader T.M_RowReader_ahead G_RowReader_ahead hr T.n_RowReader_ahead .nil pass0))
      (pss_cons (ps_expr (pe_meth (pv 0) T.cl_RowReader T.M_RowReader_take G_RowReader_take hr T.n_RowReader_take .nil pass0 (pa_cons (pe_cmpR op_in_seq (pv 2) (pv 1) (by with_unfolding_all rfl)) pa_nil)))
      (pss_one (ps_ret (pv 2))))), ?_⟩
  have hlt : pl < ws.length := (List.getElem?_eq_some_iff.mp hx).1
  have hg : ws.getD pl (Str.ofString "") = x := by rw [List.getD_eq_getElem?_getD, hx]; rfl
  obtain ⟨_, dx, ta, e1, e2⟩ := id R
  (walk_at "RD")
  refine ⟨_, _, e1, RdAt.no _ _ _ (by decide +kernel), ⟨p, row, ws, pl, rfl, R, by omega, ?_⟩⟩
  rw [hg]
  (walk_at "RD")
  refine ⟨_, _, e1, RdAt.no _ _ _ (by decide +kernel), _, .inl hc, rfl, strsV_flat xs, ?_⟩
  rw [inV_strs, decide_eq_true hm]
  refine ⟨p, row, ws, pl, rfl, R, fun H' s1 s2 s3 => ?_⟩
  (walk_at "RD")
  exact q H' s1 s2 s3
theorem ok_figs (T : Txt w K mg t) : FnOk P w K mg base CX0 4 t.a_RowReader_figures t.d_RowReader_figures ["self", "low", "high"] (sp_figs t) := by
  have G_RowReader_ahead : FnOk P w K mg base CX0 3 t.a_RowReader_ahead t.d_RowReader_ahead ["self"] (sp_ahead t) := (ok_ahead T).mono (by decide)
  have G_RowReader_take : FnOk P w K mg base CX0 3 t.a_RowReader_take t.d_RowReader_take ["self", "good"] (sp_take t) := (ok_take T).mono (by decide)
  have G_figured : FnOk P w K mg base CX0 3 t.a_figured t.d_figured ["word", "low", "high"] sp_fig := ok_fig T
  refine T.F_RowReader_figures.ok sc_RowReader_figures (fun vs H Q E h => ?_) (fun cdv A outer s H vs Q E hr h => ?_)
  · obtain ⟨p, row, ws, pl, x, lo, hi, v, rfl, _⟩ := h; rfl
  obtain ⟨p, row, ws, pl, x, lo, hi, v, rfl, R, hx, hv, nt, q⟩ := h
  refine ⟨_, (pss_cons (ps_set (i := 3) sc_RowReader_figures.nd rfl (Or.inl rfl) (pe_call G_figured hr rfl T.m_figured T.k_figured T.n_figured .nil pass0 (pa_cons (pe_meth0 (pv 0) T.cl_RowReader T.M_RowReader_ahead G_RowReader_ahead hr T.n_RowReader_ahead .nil pass0) (pa_cons (pv 1) (pa_cons (pv 2) pa_nil)))))
      (pss_cons (ps_expr (pe_meth (pv 0) T.cl_RowReader T.M_RowReader_take G_RowReader_take hr T.n_RowReader_take .nil pass0 (pa_cons (pe_cmpR op_notN (pv 3) pe_non (nomark _)) pa_nil)))
      (pss_one (ps_ret (pv 3))))), ?_⟩
  have hlt : pl < ws.length := (List.getElem?_eq_some_iff.mp hx).1
  have hg : ws.getD pl (Str.ofString "") = x := by rw [List.getD_eq_getElem?_getD, hx]; rfl
  obtain ⟨hz, dx, ta, e1, e2⟩ := id R
  (walk_at "RD")
  refine ⟨_, _, e1, RdAt.no _ _ _ (by decide +kernel), ⟨p, row, ws, pl, rfl, R, by omega, ?_⟩⟩
  rw [hg]
  (walk_at "RD")
  refine ⟨x, lo, hi, rfl, hz.2 x (List.mem_of_getElem? hx), nt, ?_⟩
  rw [hv]
  (walk_at "RD")
  refine ⟨_, _, e1, RdAt.no _ _ _ (by decide +kernel), ?_⟩
  refine ⟨p, row, ws, pl, rfl, R, fun H' s1 s2 s3 => ?_⟩
  (walk_at "RD")
  exact q H' s1 s2 s3
theorem ok_fin (T : Txt w K mg t) : FnOk P w K mg base CX0 2 t.a_RowReader_finish t.d_RowReader_finish ["self"] (sp_fin t) := by
  have G_RowReader_has_more : FnOk P w K mg base CX0 1 t.a_RowReader_has_more t.d_RowReader_has_more ["self"] (sp_more t) := ok_more T
  refine T.F_RowReader_finish.ok sc_RowReader_finish (fun vs H Q E h => ?_) (fun cdv A outer s H vs Q E hr h => ?_)
  · obtain ⟨p, row, ws, pl, rfl, _⟩ := h; rfl
  obtain ⟨p, row, ws, pl, rfl, R, hl, q⟩ := h
  obtain ⟨hz, dx, ta, e1, e2⟩ := id R
  refine ⟨_, (pss_one (ps_if (pt_val (pe_meth0 (pv 0) T.cl_RowReader T.M_RowReader_has_more G_RowReader_has_more hr T.n_RowReader_has_more .nil pass0)) (pss_one ps_never) pss_nil)), ?_⟩
  (walk_at "RD")
  refine tIfS_by false (fun Q hQ => ?_) (fun hc => nomatch hc) (fun _ => ?_)
  · (walk_at "RD")
    refine ⟨_, _, e1, RdAt.no _ _ _ (by decide +kernel), ⟨p, row, ws, pl, rfl, R, ?_⟩⟩
    rw [decide_eq_false (by omega)]
    exact ⟨_, rfl, hQ⟩
  · (walk_at "RD")
    exact q
end
end My
namespace My
open PySem L2
/-! ### readers of rows that may refuse -/
abbrev wd (ws : List Str) (k : Nat) : Str := ws.getD k (Str.ofString "")
theorem wd_len {ws : List Str} (h : ∀ x ∈ ws, x.length ≤ 1000) (k : Nat) : (wd ws k).length ≤ 1000 := by
  unfold wd
  rw [List.getD_eq_getElem?_getD]
  cases e : ws[k]? with
  | none => exact Nat.le_trans (show (Str.ofString "").length ≤ 0 by decide +kernel) (Nat.zero_le _)
  | some x => exact h x (List.mem_of_getElem? e)
theorem wd_lt {ws : List Str} {k : Nat} (h : wd ws k ≠ Str.ofString "") : k < ws.length := by
  refine Classical.byContradiction fun z => h ?_
  unfold wd
  rw [List.getD_eq_getElem?_getD, List.getElem?_eq_none (by omega)]; rfl
theorem figV_cases (w : Str) (lo hi : Int) : (∃ v, figV w lo hi = .int v ∧ lo ≤ v ∧ v ≤ hi ∧ w ≠ Str.ofString "") ∨ figV w lo hi = .non := by
  unfold figV
  split
  · rename_i h
    rw [Bool.and_eq_true] at h
    refine .inl ⟨val w, rfl, ?_, ?_, fun z => ?_⟩
    · have := h.2; simp at this; omega
    · have := h.2; simp at this; omega
    · have h1 := h.1
      rw [z] at h1
      exact absurd h1 (by decide +kernel)
  · exact .inr rfl
theorem log_mid {i : Int} (h : i.natAbs < 100000) : i.natAbs.log2 < 1920 := by
  by_cases h0 : i.natAbs = 0
  · rw [h0]; decide
  · exact (Nat.log2_lt h0).mpr (Nat.lt_trans h (by decide))
def RefT (t : Adr) (i : Int) (k : Nat) (p : Addr) (H : Hp) (E : XK) : Prop := ∀ dx H', SameX p H H' → (NoT H → NoT H') → H' dx = some (.ext (XD dx [(Str.ofString "row", .int i), (Str.ofString "word", .int k)])) → E (.ref t.c_NoText) (some dx) H'
theorem RefT.step {t : Adr} {i : Int} {k : Nat} {p : Addr} {H H1 : Hp} {E : XK} (h : RefT t i k p H E) (s : SameX p H H1) (n : NoT H → NoT H1) : RefT t i k p H1 E := fun dx H' s' n' e => h dx H' (s.trans s') (fun z => n' (n z)) e
theorem rd_row {w : World} {K : PySem.W.Frag} {mg : Str → Option Value} {t : Adr} {H : Hp} {p : Addr} {row : Int} (T : Txt w K mg t) {dx ta : Addr} {pl : Int} (e : H p = some (.ins t.c_RowReader dx (rdF row ta pl))) : FldAt K H p (Str.ofString "row") (.int row) :=
  ⟨_, dx, _, e, T.cl_RowReader, T.nA_RowReader_row, lookup_at rKeys 0 (rdF_keys ..) (by decide +kernel) rfl⟩
def sp_ntI (t : Adr) : Sp := fun vs H Q _ => ∃ x i j, vs = [.ref x, .int i, .int j] ∧ i.natAbs.log2 < 1920 ∧ j.natAbs.log2 < 1920 ∧ H x = some (.ext (XF x t.c_NoText none)) ∧
  ∀ dx, H dx = none → dx ≠ x → Q .non (upd (upd H x (.ext (XF x t.c_NoText (some dx)))) dx (.ext (XD dx [(Str.ofString "row", .int i), (Str.ofString "word", .int j)])))
def sp_refX (t : Adr) : Sp := fun vs H Q E => ∃ p row ws pl, vs = [.ref p] ∧ RdAt t H p row ws pl ∧ (0 ≤ row ∧ row ≤ 10000) ∧ pl ≤ 10000 ∧ RefT t row pl p H E
def sp_takeX (t : Adr) : Sp := fun vs H Q E => ∃ p row ws pl g, vs = [.ref p, .bl g] ∧ RdAt t H p row ws pl ∧ (0 ≤ row ∧ row ≤ 10000) ∧ pl ≤ 10000 ∧ (g = true → Step t H p row ws (pl + 1) (Q .non)) ∧ (g = false → RefT t row pl p H E)
def sp_oneofX (K : PySem.W.Frag) (t : Adr) : Sp := fun vs H Q E => ∃ p row ws pl c xs, vs = [.ref p, .ref c] ∧ RdAt t H p row ws pl ∧ (0 ≤ row ∧ row ≤ 10000) ∧ pl ≤ ws.length ∧ SqL K H c (strsV xs) ∧
  (wd ws pl ∈ xs → Step t H p row ws (pl + 1) (Q (.str (wd ws pl)))) ∧ (wd ws pl ∉ xs → RefT t row pl p H E)
def sp_figsX (t : Adr) : Sp := fun vs H Q E => ∃ p row ws pl lo hi, vs = [.ref p, .int lo, .int hi] ∧ RdAt t H p row ws pl ∧ (0 ≤ row ∧ row ≤ 10000) ∧ pl ≤ ws.length ∧ NoT H ∧
  (∀ v, figV (wd ws pl) lo hi = .int v → Step t H p row ws (pl + 1) (Q (.int v))) ∧ (figV (wd ws pl) lo hi = .non → RefT t row pl p H E)
def sp_finX (t : Adr) : Sp := fun vs H Q E => ∃ p row ws pl, vs = [.ref p] ∧ RdAt t H p row ws pl ∧ (0 ≤ row ∧ row ≤ 10000) ∧ (¬ pl < ws.length → Q .non H) ∧ (pl < ws.length → RefT t row pl p H E)
section
variable {P : Program} {w : World} {K : PySem.W.Frag} {mg : Str → Option Value} {base : Heap} {t : Adr}
theorem ok_ntI (T : Txt w K mg t) : FnOk P w K mg base CX0 1 t.a_NoText_init t.d_NoText_init ["self", "row", "word"] (sp_ntI t) := by
  refine T.F_NoText_init.ok sc_NoText___init__ (fun vs H Q E h => ?_) (fun cdv A outer s H vs Q E hr h => ?_)
  · obtain ⟨x, i, j, rfl, _⟩ := h; rfl
  obtain ⟨x, i, j, rfl, hi, hj, hx, q⟩ := h
  refine ⟨_, (pss_cons (ps_expr (pe_xinit rfl T.m_LampError T.B_LampError (pa_cons (pv 0) (pa_cons (pe_joined (pj_const (pj_int (pv 1) (pj_const (pj_int (pv 2) pj_nil)))) (by rw [sizeLine_eq]; decide)) pa_nil))))
      (pss_cons (ps_fldx0 (pv 0) (pv 1) rfl)
      (pss_one (ps_fldx1 (pv 0) (pv 2) rfl)))), ?_⟩
  (walk_at "RD")
  refine ⟨hi, hj, fun y => ⟨_, _, hx, T.X_NoText, ?_⟩⟩
  refine ⟨_, hx, T.X_NoText, T.nA_NoText_row, fun dx hd hne => ?_⟩
  refine ⟨_, dx, by rw [upd_ne (Ne.symm hne), upd_same], _, upd_same, T.X_NoText, T.nA_NoText_word, show 1 < 1000 by decide, ?_⟩
  rw [upd_upd, show putF (Str.ofString "word") (V.int j) ([(Str.ofString "row", V.int i)] : List (Str × V)) = [(Str.ofString "row", V.int i), (Str.ofString "word", V.int j)] from putF_new [Str.ofString "row"] rfl (by decide +kernel)]
  exact q dx hd hne
theorem ok_refX (T : Txt w K mg t) : FnOk P w K mg base (CX1 P w) 3 t.a_RowReader_refuse t.d_RowReader_refuse ["self"] (sp_refX t) := by
  have G_NoText_init : FnOk P w K mg base CX0 1 t.a_NoText_init t.d_NoText_init ["self", "row", "word"] (sp_ntI t) := ok_ntI T
  refine T.F_RowReader_refuse.okX sc_RowReader_refuse (fun vs H Q E h => ?_) (fun cdv A outer s H vs Q E hr h => ?_)
  · obtain ⟨p, row, ws, pl, rfl, _⟩ := h; rfl
  obtain ⟨p, row, ws, pl, rfl, ⟨hz, dx, ta, e1, e2⟩, hrow, hpl, q⟩ := h
  refine ⟨_, (pss_one (ps_raise (pe_makeX T.MX_NoText G_NoText_init hr rfl T.m_NoText T.n_NoText_init (pa_cons (pe_fld (pv 0) rfl) (pa_cons (pe_fld (pv 0) rfl) pa_nil))) throws1)), ?_⟩
  (walk_at "RD")
  refine ⟨_, rd_row T e1, _, rd_place T e1, by decide, fun a ha => ⟨a, row, pl, rfl, log_mid (by omega), log_mid (by omega), upd_same, fun d hd hne => ?_⟩⟩
  have hd0 : H d = none := by rw [upd_ne hne] at hd; exact hd
  refine ⟨rfl, t.c_NoText, some d, by rw [upd_ne (Ne.symm hne), upd_same], T.X_NoText, q d _ (fun b u _ e => ?_) (fun nt => (((nt.upd).upd).upd).upd) (by rw [upd_ne hne, upd_same])⟩
  rw [upd_ne (ne_of_none e ha), upd_ne (ne_of_none e hd0), upd_ne (ne_of_none e ha), upd_ne (ne_of_none e ha)]
  exact e
theorem ok_takeX (T : Txt w K mg t) : FnOk P w K mg base (CX1 P w) 4 t.a_RowReader_take t.d_RowReader_take ["self", "good"] (sp_takeX t) := by
  have GX_RowReader_refuse : FnOk P w K mg base (CX1 P w) 3 t.a_RowReader_refuse t.d_RowReader_refuse ["self"] (sp_refX t) := ok_refX T
  refine T.F_RowReader_take.okX sc_RowReader_take (fun vs H Q E h => ?_) (fun cdv A outer s H vs Q E hr h => ?_)
  · obtain ⟨p, row, ws, pl, g, rfl, _⟩ := h; rfl
  obtain ⟨p, row, ws, pl, g, rfl, R, hrow, hpl, q1, q2⟩ := h
  obtain ⟨hz, dx, ta, e1, e2⟩ := id R
  refine ⟨_, (pss_cons (ps_if (pt_not (pt_val (pv 1))) (pss_one (ps_expr (pe_meth0 (pv 0) T.cl_RowReader T.M_RowReader_refuse GX_RowReader_refuse hr T.n_RowReader_refuse .nil passes1))) pss_nil)
      (pss_one (ps_fldaug (pv 0) pe_int in_add))), ?_⟩
  (walk_at "RD")
  refine tIfS_by (!g) (fun Q hQ => ?_) (fun c => ?_) (fun c => ?_)
  · (walk_at "RD")
    exact hQ
  · (walk_at "RD")
    have hg : g = false := by simpa using c
    exact ⟨_, _, e1, RdAt.no _ _ _ (by decide +kernel), ⟨p, row, ws, pl, rfl, R, hrow, hpl, q2 hg⟩⟩
  · (walk_at "RD")
    have hg : g = true := by simpa using c
    refine ⟨_, _, _, e1, T.cl_RowReader, T.nA_RowReader_place, _, lookup_at rKeys 2 (rdF_keys ..) (by decide +kernel) rfl, _, rfl, _, _, e1, by rw [← List.length_map (f := (·.1)), rdF_keys]; decide, ?_⟩
    rw [putF_pl]
    exact q1 hg _ SameX.put (fun n => n.upd) ⟨hz, dx, ta, upd_same, by rw [upd_ne (ne_of e2 e1 (by intro z; cases z))]; exact e2⟩
theorem ok_oneofX (T : Txt w K mg t) : FnOk P w K mg base (CX1 P w) 5 t.a_RowReader_one_of t.d_RowReader_one_of ["self", "choices"] (sp_oneofX K t) := by
  have G_RowReader_ahead : FnOk P w K mg base CX0 4 t.a_RowReader_ahead t.d_RowReader_ahead ["self"] (sp_ahead t) := (ok_ahead T).mono (by decide)
  have GX_RowReader_take : FnOk P w K mg base (CX1 P w) 4 t.a_RowReader_take t.d_RowReader_take ["self", "good"] (sp_takeX t) := ok_takeX T
  refine T.F_RowReader_one_of.okX sc_RowReader_one_of (fun vs H Q E h => ?_) (fun cdv A outer s H vs Q E hr h => ?_)
  · obtain ⟨p, row, ws, pl, c, xs, rfl, _⟩ := h; rfl
  obtain ⟨p, row, ws, pl, c, xs, rfl, R, hrow, hpl, hc, q1, q2⟩ := h
  refine ⟨_, (pss_cons (ps_set (i := 2) sc_RowReader_one_of.nd rfl (Or.inl rfl) (pe_meth0 (pv 0) T.cl_RowReader T.M_RowReader_ahead G_RowReader_ahead hr T.n_RowReader_ahead .nil pass0))
      (pss_cons (ps_expr (pe_meth (pv 0) T.cl_RowReader T.M_RowReader_take GX_RowReader_take hr T.n_RowReader_take .nil passes1 (pa_cons (pe_cmpR op_in_seq (pv 2) (pv 1) (by with_unfolding_all rfl)) pa_nil)))
      (pss_one (ps_ret (pv 2))))), ?_⟩
  obtain ⟨hz, dx, ta, e1, e2⟩ := id R
  (walk_at "RD")
  refine ⟨_, _, e1, RdAt.no _ _ _ (by decide +kernel), ⟨p, row, ws, pl, rfl, R, hpl, ?_⟩⟩
  (walk_at "RD")
  refine ⟨_, _, e1, RdAt.no _ _ _ (by decide +kernel), _, .inl hc, rfl, strsV_flat xs, ?_⟩
  rw [inV_strs]
  refine ⟨p, row, ws, pl, _, rfl, R, hrow, by omega, fun g H' s1 s2 s3 => ?_, fun g => q2 (of_decide_eq_false g)⟩
  (walk_at "RD")
  exact q1 (of_decide_eq_true g) H' s1 s2 s3
theorem ok_figsX (T : Txt w K mg t) : FnOk P w K mg base (CX1 P w) 5 t.a_RowReader_figures t.d_RowReader_figures ["self", "low", "high"] (sp_figsX t) := by
  have G_RowReader_ahead : FnOk P w K mg base CX0 4 t.a_RowReader_ahead t.d_RowReader_ahead ["self"] (sp_ahead t) := (ok_ahead T).mono (by decide)
  have GX_RowReader_take : FnOk P w K mg base (CX1 P w) 4 t.a_RowReader_take t.d_RowReader_take ["self", "good"] (sp_takeX t) := ok_takeX T
  have G_figured : FnOk P w K mg base CX0 4 t.a_figured t.d_figured ["word", "low", "high"] sp_fig := (ok_fig T).mono (by decide)
  refine T.F_RowReader_figures.okX sc_RowReader_figures (fun vs H Q E h => ?_) (fun cdv A outer s H vs Q E hr h => ?_)
  · obtain ⟨p, row, ws, pl, lo, hi, rfl, _⟩ := h; rfl
  obtain ⟨p, row, ws, pl, lo, hi, rfl, R, hrow, hpl, nt, q1, q2⟩ := h
  refine ⟨_, (pss_cons (ps_set (i := 3) sc_RowReader_figures.nd rfl (Or.inl rfl) (pe_call G_figured hr rfl T.m_figured T.k_figured T.n_figured .nil pass0 (pa_cons (pe_meth0 (pv 0) T.cl_RowReader T.M_RowReader_ahead G_RowReader_ahead hr T.n_RowReader_ahead .nil pass0) (pa_cons (pv 1) (pa_cons (pv 2) pa_nil)))))
      (pss_cons (ps_expr (pe_meth (pv 0) T.cl_RowReader T.M_RowReader_take GX_RowReader_take hr T.n_RowReader_take .nil passes1 (pa_cons (pe_cmpR op_notN (pv 3) pe_non (nomark _)) pa_nil)))
      (pss_one (ps_ret (pv 3))))), ?_⟩
  obtain ⟨hz, dx, ta, e1, e2⟩ := id R
  (walk_at "RD")
  refine ⟨_, _, e1, RdAt.no _ _ _ (by decide +kernel), ⟨p, row, ws, pl, rfl, R, hpl, ?_⟩⟩
  (walk_at "RD")
  refine ⟨_, lo, hi, rfl, wd_len hz.2 pl, nt, ?_⟩
  rcases figV_cases (wd ws pl) lo hi with ⟨v, hv, _⟩ | hv
  · rw [hv]
    (walk_at "RD")
    refine ⟨_, _, e1, RdAt.no _ _ _ (by decide +kernel), ?_⟩
    refine ⟨p, row, ws, pl, _, rfl, R, hrow, by omega, fun g H' s1 s2 s3 => ?_, fun g => by cases g⟩
    (walk_at "RD")
    exact q1 v hv H' s1 s2 s3
  · rw [hv]
    (walk_at "RD")
    refine ⟨_, _, e1, RdAt.no _ _ _ (by decide +kernel), ?_⟩
    exact ⟨p, row, ws, pl, _, rfl, R, hrow, by omega, (fun g => by cases g), fun g => q2 hv⟩
theorem ok_finX (T : Txt w K mg t) : FnOk P w K mg base (CX1 P w) 4 t.a_RowReader_finish t.d_RowReader_finish ["self"] (sp_finX t) := by
  have G_RowReader_has_more : FnOk P w K mg base CX0 3 t.a_RowReader_has_more t.d_RowReader_has_more ["self"] (sp_more t) := (ok_more T).mono (by decide)
  have GX_RowReader_refuse : FnOk P w K mg base (CX1 P w) 3 t.a_RowReader_refuse t.d_RowReader_refuse ["self"] (sp_refX t) := ok_refX T
  refine T.F_RowReader_finish.okX sc_RowReader_finish (fun vs H Q E h => ?_) (fun cdv A outer s H vs Q E hr h => ?_)
  · obtain ⟨p, row, ws, pl, rfl, _⟩ := h; rfl
  obtain ⟨p, row, ws, pl, rfl, R, hrow, q1, q2⟩ := h
  obtain ⟨hz, dx, ta, e1, e2⟩ := id R
  refine ⟨_, (pss_one (ps_if (pt_val (pe_meth0 (pv 0) T.cl_RowReader T.M_RowReader_has_more G_RowReader_has_more hr T.n_RowReader_has_more .nil pass0)) (pss_one (ps_expr (pe_meth0 (pv 0) T.cl_RowReader T.M_RowReader_refuse GX_RowReader_refuse hr T.n_RowReader_refuse .nil passes1))) pss_nil)), ?_⟩
  (walk_at "RD")
  refine tIfS_by (decide (pl < ws.length)) (fun Q hQ => ?_) (fun c => ?_) (fun c => ?_)
  · (walk_at "RD")
    refine ⟨_, _, e1, RdAt.no _ _ _ (by decide +kernel), ⟨p, row, ws, pl, rfl, R, ?_⟩⟩
    exact ⟨_, rfl, hQ⟩
  · (walk_at "RD")
    have hl := of_decide_eq_true c
    exact ⟨_, _, e1, RdAt.no _ _ _ (by decide +kernel), ⟨p, row, ws, pl, rfl, R, hrow, by omega, q2 hl⟩⟩
  · (walk_at "RD")
    exact q1 (of_decide_eq_false c)
end
end My
namespace My
open PySem L2
theorem map_at {α β : Type} {f : α → β} {l : List α} {i : Nat} {y : β} (h : (l.map f)[i]? = some y) : ∃ x, l[i]? = some x ∧ y = f x := by
  rw [List.getElem?_map] at h
  cases e : l[i]? with
  | none => rw [e] at h; cases h
  | some x => rw [e] at h; exact ⟨x, rfl, (Option.some.inj h).symm⟩
/-! ### rows read -/
/-- a list of readers, all new since H0, none moved -/
def RdsAt (t : Adr) (H0 H : Hp) (p : Addr) (rows : List (List Str)) : Prop := ∃ qs : List Addr, H p = some (.lst (qs.map V.ref)) ∧ H0 p = none ∧ qs.length = rows.length ∧ ∀ (i : Nat) (q : Addr) (r : List Str), qs[i]? = some q → rows[i]? = some r → RdAt t H q i r 0 ∧ H0 q = none
def sp_readers (t : Adr) : Sp := fun vs H Q _ => ∃ x, vs = [.str x] ∧ x.length ≤ 20000 ∧ (∀ r ∈ rowsOf x, r.length ≤ 1000 ∧ ∀ y ∈ r, y.length ≤ 1000) ∧ NoT H ∧ ∀ p H', Same H H' → NoT H' → RdsAt t H H' p (rowsOf x) → Q (.ref p) H'
section
variable {P : Program} {w : World} {K : PySem.W.Frag} {mg : Str → Option Value} {base : Heap} {t : Adr}
theorem ok_readers (T : Txt w K mg t) : FnOk P w K mg base CX0 3 t.a_readers t.d_readers ["text"] (sp_readers t) := by
  have G_words : FnOk P w K mg base CX0 2 t.a_words t.d_words ["text"] sp_words := (ok_words T).mono (by decide)
  have G_RowReader_init : FnOk P w K mg base CX0 1 t.a_RowReader_init t.d_RowReader_init ["self", "row", "told"] (sp_rdI t) := ok_rdI T
  refine T.F_readers.ok sc_readers (fun vs H Q E h => ?_) (fun cdv A outer s H vs Q E hr h => ?_)
  · obtain ⟨x, rfl, _⟩ := h; rfl
  obtain ⟨x, rfl, hz, hrow, nt, q⟩ := h
  refine ⟨_, (pss_one (ps_ret (pe_comp rfl (pi_enum rfl T.b_enumerate (pa_cons (pe_call G_words hr rfl T.m_words T.k_words T.n_words .nil pass0 (pa_cons (pv 0) pa_nil)) pa_nil)) (cscope_of (sc := defScope s_readers) rfl (by decide +kernel)) (N := ["row", "told"]) (sel := [none, none]) (selOk_of (M := ["text"]) (by decide +kernel)) (Blk.of (fun _ _ _ _ => (pg_tupK (K := K) (n := 2) rfl rfl (pgs_cons (pg_name (i := 0) (nd_of (N := ["row", "told"]) (by decide +kernel) rfl) rfl (Or.inl rfl) (.inr rfl)) (pgs_cons (pg_name (i := 1) (nd_of (N := ["row", "told"]) (by decide +kernel) rfl) rfl (Or.inl rfl) (.inr rfl)) pgs_nil)))) (fun _ _ _ _ => ⟨_, pts_nil, by first | rfl | (dsimp only [Cx.block]; done) | (dsimp only [Cx.block]; exact rfl)⟩) (fun _ _ _ _ => ⟨_, (pe_make T.M_RowReader G_RowReader_init hr rfl T.m_RowReader T.n_RowReader_init .nil pass0 (pa_cons (pv 0) (pa_cons (pv 1) pa_nil))), by first | rfl | (dsimp only [Cx.block]; done) | (dsimp only [Cx.block]; exact rfl)⟩))))), ?_⟩
  (walk_at "RD")
  refine ⟨x, rfl, hz, nt, fun p H1 sm1 nt1 ⟨ps, hp, hp0, hpn, hpl, hpa⟩ => ?_⟩
  (walk_at "RD")
  refine ⟨⟨_, SqL.of hp⟩, ?_⟩
  have hlen : ps.length ≤ sizeLine := by
    rw [hpl]
    unfold rowsOf
    rw [List.length_map]
    have := split_len (x := x) (y := nl) (by rw [len_nl]; exact Nat.le_refl _)
    exact Nat.le_trans (show _ ≤ 40000 by omega) (by decide)
  refine CompR.enum (xs := ps.map V.ref) (fun i ys H2 => Same H1 H2 ∧ NoT H2 ∧ ∃ qs : List Addr, ys = qs.map V.ref ∧ qs.length = i ∧ ∀ (j : Nat) (q : Addr) (r : List Str), qs[j]? = some q → (rowsOf x)[j]? = some r → RdAt t H2 q j r 0 ∧ H1 q = none)
    (by rw [List.length_map]; exact hlen) ⟨Same.refl H1, nt1, [], rfl, rfl, fun j q r h _ => by simp at h⟩ ?_ ?_ ?_
  · rintro i ys H2 hi ⟨s2, n2, qs, rfl, hq, _⟩
    exact ⟨SqL.of (s2 _ _ hp), by rw [List.length_map]; omega⟩
  · rintro i v ys H2 p2 hv ⟨s2, n2, qs, rfl, hq, al⟩ hp2 N hN
    rw [List.getElem?_map] at hv
    cases hpi : ps[i]? with
    | none => rw [hpi] at hv; cases hv
    | some pi =>
      rw [hpi] at hv
      have e := (Option.some.inj hv).symm
      subst e
      refine gTup2_new ?_
      (walk_at "RD")
      refine ⟨Sub.name2, fun a dx ha hd hne => ?_⟩
      refine ⟨a, dx, pi, i, rfl, upd_same, rfl, ?_⟩
      rw [upd_upd]
      have s3 : Same H2 (upd (upd (upd H2 p2 (.tup [.int i, .ref pi])) dx (.own a)) a (.ins t.c_RowReader dx (rdF i pi 0))) := by
        have s' : Same H2 (upd H2 p2 (.tup [.int i, .ref pi])) := same_new hp2
        exact ((Same.trans s' (same_new hd)).updN (s'.free ha))
      obtain ⟨r, hr⟩ : ∃ r, (rowsOf x)[i]? = some r := ⟨(rowsOf x)[i]'(by rw [← hpl]; exact (List.getElem?_eq_some_iff.mp hpi).1), List.getElem?_eq_getElem _⟩
      have ha2 : H2 a = none := (same_new hp2).free ha
      refine hN _ _ ⟨s2.trans s3, ((n2.upd).upd).upd, qs ++ [a], by rw [List.map_append]; rfl, by rw [List.length_append, hq]; rfl, fun j q' r' h1 h2 => ?_⟩
      by_cases hj : j < qs.length
      · rw [List.getElem?_append_left hj] at h1
        obtain ⟨z1, z2⟩ := al j q' r' h1 h2
        exact ⟨z1.same s3, z2⟩
      · rw [List.getElem?_append_right (by omega)] at h1
        have hj0 : j - qs.length = 0 := by
          cases hh : j - qs.length with
          | zero => rfl
          | succ n => rw [hh] at h1; simp at h1
        rw [hj0] at h1
        have e3 : a = q' := by simpa using h1
        subst e3
        have e4 : j = i := by omega
        subst e4
        rw [hr] at h2
        cases h2
        refine ⟨⟨hrow r (List.mem_of_getElem? hr), dx, pi, upd_same, ?_⟩, s2.free ha2⟩
        exact s3 _ _ (s2 _ _ (hpa j pi r hpi hr).1)
  · rintro ys H2 ⟨s2, n2, qs, rfl, hq, al⟩ p2 hp2
    refine q p2 _ ((sm1.trans s2).updN ((sm1.trans s2).free hp2)) (n2.upd) ⟨qs, upd_same, (sm1.trans s2).free hp2, by rw [hq, List.length_map, hpl], fun i q' r h1 h2 => ?_⟩
    obtain ⟨z1, z2⟩ := al i q' r h1 h2
    exact ⟨z1.same (same_new hp2), sm1.free z2⟩
end
/-- behind what read a row: all but its reader as it was -/
def Past (q : Addr) (H : Hp) (R : Hp → Prop) : Prop := ∀ H', SameX q H H' → NoT H' → R H'
def sp_ring (t : Adr) : Sp := fun vs H Q _ => ∃ q row n, vs = [.ref q] ∧ RdAt t H q row [Str.ofString "ring", num n] 0 ∧ (2 ≤ n ∧ n ≤ 99) ∧ NoT H ∧ Past q H (Q (.int n))
/-- the ways read so far -/
def WaysAt (t : Adr) (H : Hp) (wl : Addr) (ds : List WD) : Prop := ∃ as : List Addr, H wl = some (.lst (as.map V.ref)) ∧ as.length = ds.length ∧ ∀ (i : Nat) (a : Addr) (d : WD), as[i]? = some a → ds[i]? = some d → WayAt t H a d
def sp_newname (t : Adr) : Sp := fun vs H Q _ => ∃ q row ws pl wl ds x, vs = [.ref q, .ref wl] ∧ RdAt t H q row ws pl ∧ ws[pl]? = some x ∧ made x letters 8 = true ∧ WaysAt t H wl ds ∧ ds.length ≤ 12 ∧ (∀ d ∈ ds, d.name ≠ x) ∧ NoT H ∧
  ∀ H', SameX q H H' → NoT H' → RdAt t H' q row ws (pl + 1) → Q (.str x) H'
def sp_end (t : Adr) : Sp := fun vs H Q _ => ∃ q row ws pl n st fi, vs = [.ref q, .int n, .int st] ∧ RdAt t H q row ws pl ∧ ws[pl]? = some (num fi) ∧ (0 ≤ st ∧ st < n) ∧ (0 ≤ fi ∧ fi < n) ∧ st ≠ fi ∧ n ≤ 99 ∧ NoT H ∧
  ∀ H', SameX q H H' → NoT H' → RdAt t H' q row ws (pl + 1) → Q (.int fi) H'
def sp_mkway (t : Adr) : Sp := fun vs H Q _ => ∃ d : WD, vs = [.str (sortS d.k), .str d.name, .int d.start, .int d.fin, .int d.off, .int d.near, .int d.least] ∧ d.k < 3 ∧ ∀ x H', Same H H' → (NoT H → NoT H') → WayAt t H' x d → H x = none → Q (.ref x) H'
def sp_way (t : Adr) : Sp := fun vs H Q _ => ∃ q row n wl ds d, vs = [.ref q, .int n, .ref wl] ∧ RdAt t H q row (wWords d) 0 ∧ WOk n d ∧ (2 ≤ n ∧ n ≤ 99) ∧ WaysAt t H wl ds ∧ ds.length ≤ 12 ∧ (∀ e ∈ ds, e.name ≠ d.name) ∧ NoT H ∧
  ∀ x H', SameX q H H' → NoT H' → WayAt t H' x d → H x = none → Q (.ref x) H'
theorem WaysAt.sameX {t : Adr} {H H' : Hp} {q wl : Addr} {ds : List WD} {row : Int} {ws : List Str} {pl : Nat} (h : WaysAt t H wl ds) (s : SameX q H H') (r : RdAt t H q row ws pl) : WaysAt t H' wl ds := by
  obtain ⟨as, e1, e2, al⟩ := h
  obtain ⟨hz, dx, ta, e3, e4⟩ := r
  refine ⟨as, s _ _ (ne_of e1 e3 (by intro z; cases z)) e1, e2, fun i a d h1 h2 => ?_⟩
  obtain ⟨hk, dx', e5⟩ := al i a d h1 h2
  refine ⟨hk, dx', s _ _ (fun z => ?_) e5⟩
  subst z
  rw [e5] at e3
  have e6 := Option.some.inj e3
  injection e6 with _ _ e8
  have e9 : (7 : Nat) = 3 := congrArg List.length e8
  omega
theorem WaysAt.same {t : Adr} {H H' : Hp} {wl : Addr} {ds : List WD} (h : WaysAt t H wl ds) (s : Same H H') : WaysAt t H' wl ds := by
  obtain ⟨as, e1, e2, al⟩ := h
  exact ⟨as, s _ _ e1, e2, fun i a d h1 h2 => (al i a d h1 h2).same s⟩
section
variable {P : Program} {w : World} {K : PySem.W.Frag} {mg : Str → Option Value} {base : Heap} {t : Adr}
theorem ok_ring (T : Txt w K mg t) : FnOk P w K mg base CX0 5 t.a_read_ring t.d_read_ring ["reader"] (sp_ring t) := by
  have G_RowReader_one_of : FnOk P w K mg base CX0 4 t.a_RowReader_one_of t.d_RowReader_one_of ["self", "choices"] (sp_oneof K t) := (ok_oneof T).mono (by decide)
  have G_RowReader_figures : FnOk P w K mg base CX0 4 t.a_RowReader_figures t.d_RowReader_figures ["self", "low", "high"] (sp_figs t) := ok_figs T
  have G_RowReader_finish : FnOk P w K mg base CX0 4 t.a_RowReader_finish t.d_RowReader_finish ["self"] (sp_fin t) := (ok_fin T).mono (by decide)
  refine T.F_read_ring.ok sc_read_ring (fun vs H Q E h => ?_) (fun cdv A outer s H vs Q E hr h => ?_)
  · obtain ⟨q, row, n, rfl, _⟩ := h; rfl
  obtain ⟨q, row, n, rfl, R, hn, nt, qq⟩ := h
  refine ⟨_, (pss_cons (ps_expr (pe_meth (pv 0) T.cl_RowReader T.M_RowReader_one_of G_RowReader_one_of hr T.n_RowReader_one_of .nil pass0 (pa_cons (pe_lst (pa_cons pe_str pa_nil)) pa_nil)))
      (pss_cons (ps_set (i := 1) sc_read_ring.nd rfl (Or.inl rfl) (pe_meth (pv 0) T.cl_RowReader T.M_RowReader_figures G_RowReader_figures hr T.n_RowReader_figures .nil pass0 (pa_cons (pe_glob rfl T.g_LEAST_PLACES T.r_LEAST_PLACES) (pa_cons (pe_glob rfl T.g_MOST_PLACES T.r_MOST_PLACES) pa_nil))))
      (pss_cons (ps_expr (pe_meth0 (pv 0) T.cl_RowReader T.M_RowReader_finish G_RowReader_finish hr T.n_RowReader_finish .nil pass0))
      (pss_one (ps_ret (pv 1)))))), ?_⟩
  obtain ⟨_, dx, ta, e1, e2⟩ := id R
  (walk_at "RD")
  refine ⟨_, _, e1, RdAt.no _ _ _ (by decide +kernel), by decide, fun p hp => ?_⟩
  have s0 : Same H (upd H p (.lst [V.str (Str.ofString "ring")])) := same_new hp
  refine ⟨q, row, _, 0, Str.ofString "ring", p, [Str.ofString "ring"], rfl, R.same s0, rfl, SqL.of upd_same, by simp, fun H1 s1 n1 R1 => ?_⟩
  obtain ⟨_, dx1, ta1, f1, f2⟩ := id R1
  (walk_at "RD")
  refine ⟨_, _, f1, RdAt.no _ _ _ (by decide +kernel), ?_⟩
  have nt1 := n1 nt.upd
  refine ⟨q, row, _, 1, num n, 2, 99, n, rfl, R1, rfl, num_fig (by omega) (by omega) hn.1 hn.2, nt1, fun H2 s2 n2 R2 => ?_⟩
  obtain ⟨_, dx2, ta2, g1, g2⟩ := id R2
  (walk_at "RD")
  refine ⟨_, _, g1, RdAt.no _ _ _ (by decide +kernel), ?_⟩
  refine ⟨q, row, _, 2, rfl, R2, rfl, ?_⟩
  (walk_at "RD")
  exact qq H2 (((SameX.of s0).trans s1).trans s2) (n2 nt1)
theorem ok_newname (T : Txt w K mg t) : FnOk P w K mg base CX0 3 t.a_read_new_name t.d_read_new_name ["reader", "ways"] (sp_newname t) := by
  have G_RowReader_ahead : FnOk P w K mg base CX0 2 t.a_RowReader_ahead t.d_RowReader_ahead ["self"] (sp_ahead t) := (ok_ahead T).mono (by decide)
  have G_RowReader_take : FnOk P w K mg base CX0 2 t.a_RowReader_take t.d_RowReader_take ["self", "good"] (sp_take t) := (ok_take T).mono (by decide)
  have G_is_name : FnOk P w K mg base CX0 2 t.a_is_name t.d_is_name ["word"] sp_name := ok_name T
  refine T.F_read_new_name.ok sc_read_new_name (fun vs H Q E h => ?_) (fun cdv A outer s H vs Q E hr h => ?_)
  · obtain ⟨q, row, ws, pl, wl, ds, x, rfl, _⟩ := h; rfl
  obtain ⟨q, row, ws, pl, wl, ds, x, rfl, R, hx, hm, hW, hdl, hnew, nt, qq⟩ := h
  refine ⟨_, (pss_cons (ps_set (i := 2) sc_read_new_name.nd rfl (Or.inl rfl) (pe_meth0 (pv 0) T.cl_RowReader T.M_RowReader_ahead G_RowReader_ahead hr T.n_RowReader_ahead .nil pass0))
      (pss_cons (ps_expr (pe_meth (pv 0) T.cl_RowReader T.M_RowReader_take G_RowReader_take hr T.n_RowReader_take .nil pass0 (pa_cons (pe_and (pe_call G_is_name hr rfl T.m_is_name T.k_is_name T.n_is_name .nil pass0 (pa_cons (pv 2) pa_nil)) (pe_one (pe_cmpR op_notIn_seq (pv 2) (pe_comp rfl (pi_list (pv 1)) (cscope_of (sc := defScope s_read_new_name) rfl (by decide +kernel)) (N := ["way"]) (sel := [none]) (selOk_of (M := ["reader", "ways", "name"]) (by decide +kernel)) (Blk.of (fun _ _ _ _ => (pg_name (i := 0) (nd_of (N := ["way"]) (by decide +kernel) rfl) rfl (Or.inl rfl))) (fun _ _ _ _ => ⟨_, pts_nil, by first | rfl | (dsimp only [Cx.block]; done) | (dsimp only [Cx.block]; exact rfl)⟩) (fun _ _ _ _ => ⟨_, (pe_fld (pv 0) rfl), by first | rfl | (dsimp only [Cx.block]; done) | (dsimp only [Cx.block]; exact rfl)⟩))) (by with_unfolding_all rfl)))) pa_nil)))
      (pss_one (ps_ret (pv 2))))), ?_⟩
  have hlt : pl < ws.length := (List.getElem?_eq_some_iff.mp hx).1
  have hg : ws.getD pl (Str.ofString "") = x := by rw [List.getD_eq_getElem?_getD, hx]; rfl
  obtain ⟨hz, dx, ta, e1, e2⟩ := id R
  (walk_at "RD")
  refine ⟨_, _, e1, RdAt.no _ _ _ (by decide +kernel), ⟨q, row, ws, pl, rfl, R, by omega, ?_⟩⟩
  rw [hg]
  (walk_at "RD")
  refine ⟨_, _, e1, RdAt.no _ _ _ (by decide +kernel), ?_⟩
  refine ⟨x, rfl, hz.2 x (List.mem_of_getElem? hx), nt, ?_⟩
  rw [hm]
  (walk_at "RD")
  obtain ⟨as, w1, w2, al⟩ := hW
  refine ⟨⟨_, SqL.of w1⟩, ?_⟩
  have hle : (as.map V.ref).length ≤ sizeLine := by rw [List.length_map, w2]; exact Nat.le_trans hdl (by decide)
  refine CompR.list_zs (xs := as.map V.ref) (zs := ds.map fun d => V.str d.name) (SqL.of w1) hle (by rw [List.length_map, List.length_map, w2]) (fun i v z N hv hz' hN => ?_) (fun p hp => ?_)
  · obtain ⟨a, ha, rfl⟩ := map_at hv
    obtain ⟨d, hd, rfl⟩ := map_at hz'
    (walk_at "RD")
    exact ⟨Sub.name, _, (al i a d ha hd).f_name T, hN⟩
  · (walk_at "RD")
    have e0 : (ds.map fun d => V.str d.name) = strsV (ds.map (·.name)) := by unfold strsV; rw [List.map_map]; rfl
    rw [e0]
    refine ⟨_, .inl (SqL.of upd_same), rfl, strsV_flat _, ?_⟩
    rw [inV_strs, decide_eq_false (fun z => by
      obtain ⟨d, hd, e⟩ := List.mem_map.mp z
      exact hnew d hd e)]
    have s0 : Same H (upd H p (.lst (strsV (ds.map (·.name))))) := same_new hp
    exact ⟨q, row, ws, pl, rfl, R.same s0, fun H' s1 n1 R1 => qq H' ((SameX.of s0).trans s1) (n1 nt.upd) R1⟩
theorem ok_end (T : Txt w K mg t) : FnOk P w K mg base CX0 5 t.a_read_end t.d_read_end ["reader", "places", "start"] (sp_end t) := by
  have G_RowReader_ahead : FnOk P w K mg base CX0 4 t.a_RowReader_ahead t.d_RowReader_ahead ["self"] (sp_ahead t) := (ok_ahead T).mono (by decide)
  have G_RowReader_figures : FnOk P w K mg base CX0 4 t.a_RowReader_figures t.d_RowReader_figures ["self", "low", "high"] (sp_figs t) := ok_figs T
  refine T.F_read_end.ok sc_read_end (fun vs H Q E h => ?_) (fun cdv A outer s H vs Q E hr h => ?_)
  · obtain ⟨q, row, ws, pl, n, st, fi, rfl, _⟩ := h; rfl
  obtain ⟨q, row, ws, pl, n, st, fi, rfl, R, hx, hst, hfi, hne, hn, nt, qq⟩ := h
  refine ⟨_, (pss_cons (ps_if (pt_cmpR op_eq (pe_meth0 (pv 0) T.cl_RowReader T.M_RowReader_ahead G_RowReader_ahead hr T.n_RowReader_ahead .nil pass0) (pe_callTy call_str_int rfl T.b_str boot_t_str (pa_cons (pv 2) pa_nil)) (nomark _)) (pss_one ps_never) pss_nil)
      (pss_one (ps_ret (pe_meth (pv 0) T.cl_RowReader T.M_RowReader_figures G_RowReader_figures hr T.n_RowReader_figures .nil pass0 (pa_cons pe_int (pa_cons (pe_op op_sub (pv 1) pe_int) pa_nil)))))), ?_⟩
  have hlt : pl < ws.length := (List.getElem?_eq_some_iff.mp hx).1
  have hg : ws.getD pl (Str.ofString "") = num fi := by rw [List.getD_eq_getElem?_getD, hx]; rfl
  obtain ⟨hz, dx, ta, e1, e2⟩ := id R
  (walk_at "RD")
  refine tIfS_by false (fun Q hQ => ?_) (fun hc => nomatch hc) (fun _ => ?_)
  · (walk_at "RD")
    refine ⟨_, _, e1, RdAt.no _ _ _ (by decide +kernel), ⟨q, row, ws, pl, rfl, R, by omega, ?_⟩⟩
    rw [hg]
    (walk_at "RD")
    refine ⟨log_small (by omega), ?_⟩
    rw [decide_eq_false (fun z => hne (num_inj (by omega) (by omega) (by omega) (by omega) z).symm)]
    exact hQ
  · (walk_at "RD")
    refine ⟨_, _, e1, RdAt.no _ _ _ (by decide +kernel), ⟨q, row, ws, pl, num fi, 0, n - 1, fi, rfl, R, hx, num_fig (by omega) (by omega) (by omega) (by omega), nt, fun H1 s1 n1 R1 => ?_⟩⟩
    exact qq H1 s1 (n1 nt) R1
theorem mk_end {t : Adr} {H : Hp} {x dx : Addr} {d : WD} (hx : H x = none) (hd : H dx = none) (hk : d.k < 3) :
    Same H (upd (upd (upd H dx (.own x)) x (.ins (t.cw d.k) dx [])) x (.ins (t.cw d.k) dx (wFlds d))) ∧ (NoT H → NoT (upd (upd (upd H dx (.own x)) x (.ins (t.cw d.k) dx [])) x (.ins (t.cw d.k) dx (wFlds d)))) ∧
      WayAt t (upd (upd (upd H dx (.own x)) x (.ins (t.cw d.k) dx [])) x (.ins (t.cw d.k) dx (wFlds d))) x d :=
  ⟨(((Same.refl H).updN hd).updN hx).updN hx, fun n => ((n.upd).upd).upd, hk, dx, upd_same⟩
theorem ok_mkway (T : Txt w K mg t) : FnOk P w K mg base CX0 4 t.a_made_way t.d_made_way ["sort", "name", "start", "end", "off", "near", "least"] (sp_mkway t) := by
  have G_CarWay_init : FnOk P w K mg base CX0 2 t.a_CarWay_init t.d_CarWay_init ["self", "name", "start", "end", "off", "near", "least"] (sp_sortI t 0) := ok_carI T
  have G_FootWay_init : FnOk P w K mg base CX0 2 t.a_FootWay_init t.d_FootWay_init ["self", "name", "start", "end", "off", "near", "least"] (sp_sortI t 1) := ok_footI T
  have G_TramWay_init : FnOk P w K mg base CX0 2 t.a_TramWay_init t.d_TramWay_init ["self", "name", "start", "end", "off", "near", "least"] (sp_sortI t 2) := ok_tramI T
  refine T.F_made_way.ok sc_made_way (fun vs H Q E h => ?_) (fun cdv A outer s H vs Q E hr h => ?_)
  · obtain ⟨d, rfl, _⟩ := h; rfl
  obtain ⟨d, rfl, hk, q⟩ := h
  refine ⟨_, (pss_cons (ps_if (pt_cmpR op_eq (pv 0) pe_str (nomark _)) (pss_one (ps_ret (pe_make T.M_CarWay G_CarWay_init hr rfl T.m_CarWay T.n_CarWay_init .nil pass0 (pa_cons (pv 1) (pa_cons (pv 2) (pa_cons (pv 3) (pa_cons (pv 4) (pa_cons (pv 5) (pa_cons (pv 6) pa_nil))))))))) pss_nil)
      (pss_cons (ps_if (pt_cmpR op_eq (pv 0) pe_str (nomark _)) (pss_one (ps_ret (pe_make T.M_FootWay G_FootWay_init hr rfl T.m_FootWay T.n_FootWay_init .nil pass0 (pa_cons (pv 1) (pa_cons (pv 2) (pa_cons (pv 3) (pa_cons (pv 4) (pa_cons (pv 5) (pa_cons (pv 6) pa_nil))))))))) pss_nil)
      (pss_one (ps_ret (pe_make T.M_TramWay G_TramWay_init hr rfl T.m_TramWay T.n_TramWay_init .nil pass0 (pa_cons (pv 1) (pa_cons (pv 2) (pa_cons (pv 3) (pa_cons (pv 4) (pa_cons (pv 5) (pa_cons (pv 6) pa_nil))))))))))), ?_⟩
  have fin : ∀ (x dx : Addr), H x = none → H dx = none → Q (.ref x) (upd (upd (upd H dx (.own x)) x (.ins (t.cw d.k) dx [])) x (.ins (t.cw d.k) dx (wFlds d))) := fun x dx hx hd => by
    obtain ⟨m1, m2, m3⟩ := mk_end (t := t) (d := d) hx hd hk
    exact q x _ m1 m2 m3 hx
  obtain ⟨k, name, start, fi, off, near, least⟩ := d
  match k, hk with
  | 0, _ =>
    (walk_at "RD"; repeat (simp only [sortS]; walk_at "RD"))
    refine tIfS_by true (fun Q hQ => ?_) (fun _ => ?_) (fun hc => nomatch hc)
    · (walk_at "RD")
      exact hQ
    · (walk_at "RD")
      exact fun x dx hx hd hne => ⟨x, dx, ⟨0, name, start, fi, off, near, least⟩, rfl, rfl, upd_same, rfl, fin x dx hx hd⟩
  | 1, _ =>
    (walk_at "RD"; repeat (simp only [sortS]; walk_at "RD"))
    refine tIfS_by false (fun Q hQ => ?_) (fun hc => nomatch hc) (fun _ => ?_)
    · (walk_at "RD")
      rw [decide_eq_false (by decide +kernel)]
      exact hQ
    · (walk_at "RD")
      refine tIfS_by true (fun Q hQ => ?_) (fun _ => ?_) (fun hc => nomatch hc)
      · (walk_at "RD")
        exact hQ
      · (walk_at "RD")
        exact fun x dx hx hd hne => ⟨x, dx, ⟨1, name, start, fi, off, near, least⟩, rfl, rfl, upd_same, rfl, fin x dx hx hd⟩
  | 2, _ =>
    (walk_at "RD"; repeat (simp only [sortS]; walk_at "RD"))
    refine tIfS_by false (fun Q hQ => ?_) (fun hc => nomatch hc) (fun _ => ?_)
    · (walk_at "RD")
      rw [decide_eq_false (by decide +kernel)]
      exact hQ
    · (walk_at "RD")
      refine tIfS_by false (fun Q hQ => ?_) (fun hc => nomatch hc) (fun _ => ?_)
      · (walk_at "RD")
        rw [decide_eq_false (by decide +kernel)]
        exact hQ
      · (walk_at "RD")
        exact fun x dx hx hd hne => ⟨x, dx, ⟨2, name, start, fi, off, near, least⟩, rfl, rfl, upd_same, rfl, fin x dx hx hd⟩
theorem ok_way (T : Txt w K mg t) : FnOk P w K mg base CX0 6 t.a_read_way t.d_read_way ["reader", "places", "ways"] (sp_way t) := by
  have G_RowReader_one_of : FnOk P w K mg base CX0 5 t.a_RowReader_one_of t.d_RowReader_one_of ["self", "choices"] (sp_oneof K t) := (ok_oneof T).mono (by decide)
  have G_RowReader_figures : FnOk P w K mg base CX0 5 t.a_RowReader_figures t.d_RowReader_figures ["self", "low", "high"] (sp_figs t) := (ok_figs T).mono (by decide)
  have G_RowReader_finish : FnOk P w K mg base CX0 5 t.a_RowReader_finish t.d_RowReader_finish ["self"] (sp_fin t) := (ok_fin T).mono (by decide)
  have G_read_new_name : FnOk P w K mg base CX0 5 t.a_read_new_name t.d_read_new_name ["reader", "ways"] (sp_newname t) := (ok_newname T).mono (by decide)
  have G_read_end : FnOk P w K mg base CX0 5 t.a_read_end t.d_read_end ["reader", "places", "start"] (sp_end t) := ok_end T
  have G_made_way : FnOk P w K mg base CX0 5 t.a_made_way t.d_made_way ["sort", "name", "start", "end", "off", "near", "least"] (sp_mkway t) := (ok_mkway T).mono (by decide)
  refine T.F_read_way.ok sc_read_way (fun vs H Q E h => ?_) (fun cdv A outer s H vs Q E hr h => ?_)
  · obtain ⟨q, row, n, wl, ds, d, rfl, _⟩ := h; rfl
  obtain ⟨q, row, n, wl, ds, d, rfl, R, hd, hn, hW, hdl, hnew, nt, qq⟩ := h
  refine ⟨_, (pss_cons (ps_set (i := 3) sc_read_way.nd rfl (Or.inl rfl) (pe_meth (pv 0) T.cl_RowReader T.M_RowReader_one_of G_RowReader_one_of hr T.n_RowReader_one_of .nil pass0 (pa_cons (pe_lst (pa_cons pe_str (pa_cons pe_str (pa_cons pe_str pa_nil)))) pa_nil)))
      (pss_cons (ps_set (i := 4) sc_read_way.nd rfl (Or.inl rfl) (pe_call G_read_new_name hr rfl T.m_read_new_name T.k_read_new_name T.n_read_new_name .nil pass0 (pa_cons (pv 0) (pa_cons (pv 2) pa_nil))))
      (pss_cons (ps_set (i := 5) sc_read_way.nd rfl (Or.inl rfl) (pe_meth (pv 0) T.cl_RowReader T.M_RowReader_figures G_RowReader_figures hr T.n_RowReader_figures .nil pass0 (pa_cons pe_int (pa_cons (pe_op op_sub (pv 1) pe_int) pa_nil))))
      (pss_cons (ps_set (i := 6) sc_read_way.nd rfl (Or.inl rfl) (pe_call G_read_end hr rfl T.m_read_end T.k_read_end T.n_read_end .nil pass0 (pa_cons (pv 0) (pa_cons (pv 1) (pa_cons (pv 5) pa_nil)))))
      (pss_cons (ps_set (i := 7) sc_read_way.nd rfl (Or.inl rfl) (pe_meth (pv 0) T.cl_RowReader T.M_RowReader_figures G_RowReader_figures hr T.n_RowReader_figures .nil pass0 (pa_cons pe_int (pa_cons (pe_glob rfl T.g_MOST_OFF T.r_MOST_OFF) pa_nil))))
      (pss_cons (ps_set (i := 8) sc_read_way.nd rfl (Or.inl rfl) (pe_meth (pv 0) T.cl_RowReader T.M_RowReader_figures G_RowReader_figures hr T.n_RowReader_figures .nil pass0 (pa_cons pe_int (pa_cons (pe_glob rfl T.g_MOST_NEAR T.r_MOST_NEAR) pa_nil))))
      (pss_cons (ps_set (i := 9) sc_read_way.nd rfl (Or.inl rfl) (pe_meth (pv 0) T.cl_RowReader T.M_RowReader_figures G_RowReader_figures hr T.n_RowReader_figures .nil pass0 (pa_cons pe_int (pa_cons (pe_glob rfl T.g_MOST_LEAST T.r_MOST_LEAST) pa_nil))))
      (pss_cons (ps_expr (pe_meth0 (pv 0) T.cl_RowReader T.M_RowReader_finish G_RowReader_finish hr T.n_RowReader_finish .nil pass0))
      (pss_one (ps_ret (pe_call G_made_way hr rfl T.m_made_way T.k_made_way T.n_made_way .nil pass0 (pa_cons (pv 3) (pa_cons (pv 4) (pa_cons (pv 5) (pa_cons (pv 6) (pa_cons (pv 7) (pa_cons (pv 8) (pa_cons (pv 9) pa_nil)))))))))))))))))), ?_⟩
  have b1 := hd.st; have b2 := hd.fi; have b3 := hd.of; have b4 := hd.nr; have b5 := hd.le
  obtain ⟨_, dx, ta, e1, e2⟩ := id R
  (walk_at "RD")
  refine ⟨_, _, e1, RdAt.no _ _ _ (by decide +kernel), by decide, fun p hp => ?_⟩
  have s0 : Same H (upd H p (.lst [V.str (Str.ofString "car"), V.str (Str.ofString "foot"), V.str (Str.ofString "tram")])) := same_new hp
  have hin : sortS d.k ∈ [Str.ofString "car", Str.ofString "foot", Str.ofString "tram"] := by
    have := hd.k
    match d.k, this with
    | 0, _ => simp [sortS]
    | 1, _ => simp [sortS]
    | 2, _ => simp [sortS]
  refine ⟨q, row, _, 0, sortS d.k, p, [Str.ofString "car", Str.ofString "foot", Str.ofString "tram"], rfl, R.same s0, rfl, SqL.of upd_same, hin, fun H1 s1 n1 R1 => ?_⟩
  have x1 : SameX q H H1 := (SameX.of s0).trans s1
  have m1 := n1 nt.upd
  (walk_at "RD")
  refine ⟨q, row, _, 1, wl, ds, d.name, rfl, R1, rfl, hd.nm, hW.sameX x1 R, hdl, hnew, m1, fun H2 s2 m2 R2 => ?_⟩
  obtain ⟨_, dx2, ta2, f2, g2⟩ := id R2
  have x2 := x1.trans s2
  (walk_at "RD")
  refine ⟨_, _, f2, RdAt.no _ _ _ (by decide +kernel), ⟨q, row, _, 2, num d.start, 0, n - 1, d.start, rfl, R2, rfl, num_fig (by omega) (by omega) (by omega) (by omega), m2, fun H3 s3 n3 R3 => ?_⟩⟩
  have x3 := x2.trans s3
  have m3 := n3 m2
  (walk_at "RD")
  refine ⟨q, row, _, 3, n, d.start, d.fin, rfl, R3, rfl, b1, b2, hd.ne, hn.2, m3, fun H4 s4 m4 R4 => ?_⟩
  obtain ⟨_, dx4, ta4, f4, g4⟩ := id R4
  have x4 := x3.trans s4
  (walk_at "RD")
  refine ⟨_, _, f4, RdAt.no _ _ _ (by decide +kernel), ⟨q, row, _, 4, num d.off, 0, 30, d.off, rfl, R4, rfl, num_fig (by omega) (by omega) (by omega) (by omega), m4, fun H5 s5 n5 R5 => ?_⟩⟩
  obtain ⟨_, dx5, ta5, f5, g5⟩ := id R5
  have x5 := x4.trans s5
  have m5 := n5 m4
  (walk_at "RD")
  refine ⟨_, _, f5, RdAt.no _ _ _ (by decide +kernel), ⟨q, row, _, 5, num d.near, 0, 30, d.near, rfl, R5, rfl, num_fig (by omega) (by omega) (by omega) (by omega), m5, fun H6 s6 n6 R6 => ?_⟩⟩
  obtain ⟨_, dx6, ta6, f6, g6⟩ := id R6
  have x6 := x5.trans s6
  have m6 := n6 m5
  (walk_at "RD")
  refine ⟨_, _, f6, RdAt.no _ _ _ (by decide +kernel), ⟨q, row, _, 6, num d.least, 1, 60, d.least, rfl, R6, rfl, num_fig (by omega) (by omega) (by omega) (by omega), m6, fun H7 s7 n7 R7 => ?_⟩⟩
  obtain ⟨_, dx7, ta7, f7, g7⟩ := id R7
  have x7 := x6.trans s7
  have m7 := n7 m6
  (walk_at "RD")
  refine ⟨_, _, f7, RdAt.no _ _ _ (by decide +kernel), ⟨q, row, _, 7, rfl, R7, rfl, ?_⟩⟩
  (walk_at "RD")
  refine ⟨d, rfl, hd.k, fun x H8 s8 n8 w8 hx8 => ?_⟩
  refine qq x H8 (x7.trans (SameX.of s8)) (n8 m7) w8 ?_
  cases hH : H x with
  | none => rfl
  | some u =>
    by_cases hxq : x = q
    · subst hxq; rw [f7] at hx8; cases hx8
    · rw [x7 x u hxq hH] at hx8; cases hx8
end
end My
namespace My
open PySem L2
/-! ### a crossing's rows, read or refused -/
def Oc {α : Type} (m : Except Nat α) (ok : α → Prop) (er : Nat → Prop) : Prop := match m with | .ok a => ok a | .error k => er k
def figO (x : Str) (lo hi : Int) : Option Int := if okB x && !(decide (val x < lo) || decide (hi < val x)) then some (val x) else none
theorem figV_O (x : Str) (lo hi : Int) : figV x lo hi = (figO x lo hi).elim .non .int := by
  unfold figV figO
  split <;> rfl
theorem figO_of {x : Str} {lo hi v : Int} (h : figV x lo hi = .int v) : figO x lo hi = some v := by
  rw [figV_O] at h
  cases e : figO x lo hi with
  | none => rw [e] at h; cases h
  | some u => rw [e] at h; injection h with h; rw [h]
theorem figO_none {x : Str} {lo hi : Int} (h : figV x lo hi = .non) : figO x lo hi = none := by
  rw [figV_O] at h
  cases e : figO x lo hi with
  | none => rfl
  | some u => rw [e] at h; cases h
theorem figV_lt {ws : List Str} {k : Nat} {lo hi v : Int} (h : figV (wd ws k) lo hi = .int v) : k + 1 ≤ ws.length ∧ lo ≤ v ∧ v ≤ hi := by
  rcases figV_cases (wd ws k) lo hi with ⟨u, hu, h1, h2, h3⟩ | hn
  · rw [hu] at h
    injection h with h
    subst h
    exact ⟨wd_lt h3, h1, h2⟩
  · rw [hn] at h; cases h
def ringP2 (ws : List Str) (n : Int) : Except Nat Int := if 2 < ws.length then .error 2 else .ok n
def ringP (ws : List Str) : Except Nat Int := if wd ws 0 ∈ [Str.ofString "ring"] then (figO (wd ws 1) 2 99).elim (.error 1) (ringP2 ws) else .error 0
def sortK (x : Str) : Option Nat := if x = Str.ofString "car" then some 0 else if x = Str.ofString "foot" then some 1 else if x = Str.ofString "tram" then some 2 else none
theorem sortK_some {x : Str} (h : x ∈ [Str.ofString "car", Str.ofString "foot", Str.ofString "tram"]) : ∃ k, k < 3 ∧ sortK x = some k ∧ x = sortS k ∧ x ≠ Str.ofString "" := by
  simp only [List.mem_cons, List.not_mem_nil, or_false] at h
  rcases h with rfl | rfl | rfl
  · exact ⟨0, by decide, by decide +kernel, rfl, by decide +kernel⟩
  · exact ⟨1, by decide, by decide +kernel, rfl, by decide +kernel⟩
  · exact ⟨2, by decide, by decide +kernel, rfl, by decide +kernel⟩
theorem sortK_none {x : Str} (h : x ∉ [Str.ofString "car", Str.ofString "foot", Str.ofString "tram"]) : sortK x = none := by
  simp only [List.mem_cons, List.not_mem_nil, or_false, not_or] at h
  unfold sortK
  rw [if_neg h.1, if_neg h.2.1, if_neg h.2.2]
def wayP7 (ws : List Str) (d : WD) : Except Nat WD := if 7 < ws.length then .error 7 else .ok d
def wayP6 (ws : List Str) (k : Nat) (x : Str) (st fi off near : Int) : Except Nat WD := (figO (wd ws 6) 1 60).elim (.error 6) fun l => wayP7 ws ⟨k, x, st, fi, off, near, l⟩
def wayP5 (ws : List Str) (k : Nat) (x : Str) (st fi off : Int) : Except Nat WD := (figO (wd ws 5) 0 30).elim (.error 5) fun v => wayP6 ws k x st fi off v
def wayP4 (ws : List Str) (k : Nat) (x : Str) (st fi : Int) : Except Nat WD := (figO (wd ws 4) 0 30).elim (.error 4) fun v => wayP5 ws k x st fi v
def wayP3 (n : Int) (ws : List Str) (k : Nat) (x : Str) (st : Int) : Except Nat WD := if wd ws 3 = num st then .error 3 else (figO (wd ws 3) 0 (n - 1)).elim (.error 3) fun v => wayP4 ws k x st v
def wayP2 (n : Int) (ws : List Str) (k : Nat) (x : Str) : Except Nat WD := (figO (wd ws 2) 0 (n - 1)).elim (.error 2) fun v => wayP3 n ws k x v
def wayP1 (n : Int) (names : List Str) (ws : List Str) (k : Nat) : Except Nat WD := if made (wd ws 1) letters 8 = true ∧ wd ws 1 ∉ names then wayP2 n ws k (wd ws 1) else .error 1
def wayP (n : Int) (names : List Str) (ws : List Str) : Except Nat WD := (sortK (wd ws 0)).elim (.error 0) fun k => wayP1 n names ws k
def sp_ringX (t : Adr) : Sp := fun vs H Q E => ∃ q row ws, vs = [.ref q] ∧ RdAt t H q row ws 0 ∧ (0 ≤ row ∧ row ≤ 10000) ∧ NoT H ∧ Oc (ringP ws) (fun n => Past q H (Q (.int n))) (fun k => RefT t row k q H E)
def sp_newnameX (t : Adr) : Sp := fun vs H Q E => ∃ q row ws pl wl ds, vs = [.ref q, .ref wl] ∧ RdAt t H q row ws pl ∧ (0 ≤ row ∧ row ≤ 10000) ∧ pl ≤ ws.length ∧ WaysAt t H wl ds ∧ ds.length ≤ 12 ∧ NoT H ∧
  (made (wd ws pl) letters 8 = true ∧ wd ws pl ∉ ds.map (·.name) → ∀ H', SameX q H H' → NoT H' → RdAt t H' q row ws (pl + 1) → Q (.str (wd ws pl)) H') ∧ (¬ (made (wd ws pl) letters 8 = true ∧ wd ws pl ∉ ds.map (·.name)) → RefT t row pl q H E)
def sp_endX (t : Adr) : Sp := fun vs H Q E => ∃ q row ws pl n st, vs = [.ref q, .int n, .int st] ∧ RdAt t H q row ws pl ∧ (0 ≤ row ∧ row ≤ 10000) ∧ pl ≤ ws.length ∧ (0 ≤ st ∧ st < n) ∧ n ≤ 99 ∧ NoT H ∧
  (wd ws pl = num st → RefT t row pl q H E) ∧ (¬ wd ws pl = num st → (∀ v, figV (wd ws pl) 0 (n - 1) = .int v → ∀ H', SameX q H H' → NoT H' → RdAt t H' q row ws (pl + 1) → Q (.int v) H') ∧ (figV (wd ws pl) 0 (n - 1) = .non → RefT t row pl q H E))
def sp_wayX (t : Adr) : Sp := fun vs H Q E => ∃ q row n wl ds ws, vs = [.ref q, .int n, .ref wl] ∧ RdAt t H q row ws 0 ∧ (0 ≤ row ∧ row ≤ 10000) ∧ (2 ≤ n ∧ n ≤ 99) ∧ WaysAt t H wl ds ∧ ds.length ≤ 12 ∧ NoT H ∧
  Oc (wayP n (ds.map (·.name)) ws) (fun d => ∀ x H', SameX q H H' → NoT H' → WayAt t H' x d → H x = none → Q (.ref x) H') (fun k => RefT t row k q H E)
section
variable {P : Program} {w : World} {K : PySem.W.Frag} {mg : Str → Option Value} {base : Heap} {t : Adr}
theorem ok_ringX (T : Txt w K mg t) : FnOk P w K mg base (CX1 P w) 6 t.a_read_ring t.d_read_ring ["reader"] (sp_ringX t) := by
  have GX_RowReader_one_of : FnOk P w K mg base (CX1 P w) 5 t.a_RowReader_one_of t.d_RowReader_one_of ["self", "choices"] (sp_oneofX K t) := ok_oneofX T
  have GX_RowReader_figures : FnOk P w K mg base (CX1 P w) 5 t.a_RowReader_figures t.d_RowReader_figures ["self", "low", "high"] (sp_figsX t) := ok_figsX T
  have GX_RowReader_finish : FnOk P w K mg base (CX1 P w) 5 t.a_RowReader_finish t.d_RowReader_finish ["self"] (sp_finX t) := (ok_finX T).mono (by decide)
  refine T.F_read_ring.okX sc_read_ring (fun vs H Q E h => ?_) (fun cdv A outer s H vs Q E hr h => ?_)
  · obtain ⟨q, row, ws, rfl, _⟩ := h; rfl
  obtain ⟨q, row, ws, rfl, R, hrow, nt, qq⟩ := h
  refine ⟨_, (pss_cons (ps_expr (pe_meth (pv 0) T.cl_RowReader T.M_RowReader_one_of GX_RowReader_one_of hr T.n_RowReader_one_of .nil passes1 (pa_cons (pe_lst (pa_cons pe_str pa_nil)) pa_nil)))
      (pss_cons (ps_set (i := 1) sc_read_ring.nd rfl (Or.inl rfl) (pe_meth (pv 0) T.cl_RowReader T.M_RowReader_figures GX_RowReader_figures hr T.n_RowReader_figures .nil passes1 (pa_cons (pe_glob rfl T.g_LEAST_PLACES T.r_LEAST_PLACES) (pa_cons (pe_glob rfl T.g_MOST_PLACES T.r_MOST_PLACES) pa_nil))))
      (pss_cons (ps_expr (pe_meth0 (pv 0) T.cl_RowReader T.M_RowReader_finish GX_RowReader_finish hr T.n_RowReader_finish .nil passes1))
      (pss_one (ps_ret (pv 1)))))), ?_⟩
  obtain ⟨_, dx, ta, e1, e2⟩ := id R
  (walk_at "RD")
  refine ⟨_, _, e1, RdAt.no _ _ _ (by decide +kernel), by decide, fun p hp => ?_⟩
  have s0 : Same H (upd H p (.lst [V.str (Str.ofString "ring")])) := same_new hp
  refine ⟨q, row, ws, 0, p, [Str.ofString "ring"], rfl, R.same s0, hrow, Nat.zero_le _, SqL.of upd_same, fun hin => fun H1 s1 n1 R1 => ?_, fun hnin => ?_⟩
  · obtain ⟨_, dx1, ta1, f1, f2⟩ := id R1
    have nt1 := n1 nt.upd
    have x1 : SameX q H H1 := (SameX.of s0).trans s1
    have l1 : 1 ≤ ws.length := wd_lt (k := 0) (by rw [List.mem_singleton.mp hin]; decide +kernel)
    unfold ringP at qq
    rw [if_pos hin] at qq
    (walk_at "RD")
    refine ⟨_, _, f1, RdAt.no _ _ _ (by decide +kernel), ⟨q, row, ws, 1, 2, 99, rfl, R1, hrow, l1, nt1, fun v hv => fun H2 s2 n2 R2 => ?_, fun hv => ?_⟩⟩
    · obtain ⟨_, dx2, ta2, g1, g2⟩ := id R2
      rw [figO_of hv] at qq
      have qq : Oc (ringP2 ws v) (fun n => Past q H (Q (.int n))) (fun k => RefT t row k q H E) := qq
      unfold ringP2 at qq
      (walk_at "RD")
      refine ⟨_, _, g1, RdAt.no _ _ _ (by decide +kernel), ⟨q, row, ws, 2, rfl, R2, hrow, fun hl => ?_, fun hl => ?_⟩⟩
      · rw [if_neg hl] at qq
        (walk_at "RD")
        exact qq H2 (x1.trans s2) (n2 nt1)
      · rw [if_pos hl] at qq
        exact (show RefT t row 2 q H E from qq).step (x1.trans s2) fun _ => n2 nt1
    · rw [figO_none hv] at qq
      exact (show RefT t row 1 q H E from qq).step x1 fun _ => nt1
  · unfold ringP at qq
    rw [if_neg hnin] at qq
    exact (show RefT t row 0 q H E from qq).step (SameX.of s0) fun n => n.upd
theorem ok_newnameX (T : Txt w K mg t) : FnOk P w K mg base (CX1 P w) 5 t.a_read_new_name t.d_read_new_name ["reader", "ways"] (sp_newnameX t) := by
  have G_RowReader_ahead : FnOk P w K mg base CX0 4 t.a_RowReader_ahead t.d_RowReader_ahead ["self"] (sp_ahead t) := (ok_ahead T).mono (by decide)
  have GX_RowReader_take : FnOk P w K mg base (CX1 P w) 4 t.a_RowReader_take t.d_RowReader_take ["self", "good"] (sp_takeX t) := ok_takeX T
  have G_is_name : FnOk P w K mg base CX0 4 t.a_is_name t.d_is_name ["word"] sp_name := (ok_name T).mono (by decide)
  refine T.F_read_new_name.okX sc_read_new_name (fun vs H Q E h => ?_) (fun cdv A outer s H vs Q E hr h => ?_)
  · obtain ⟨q, row, ws, pl, wl, ds, rfl, _⟩ := h; rfl
  obtain ⟨q, row, ws, pl, wl, ds, rfl, R, hrow, hpl, hW, hdl, nt, q1, q2⟩ := h
  refine ⟨_, (pss_cons (ps_set (i := 2) sc_read_new_name.nd rfl (Or.inl rfl) (pe_meth0 (pv 0) T.cl_RowReader T.M_RowReader_ahead G_RowReader_ahead hr T.n_RowReader_ahead .nil pass0))
      (pss_cons (ps_expr (pe_meth (pv 0) T.cl_RowReader T.M_RowReader_take GX_RowReader_take hr T.n_RowReader_take .nil passes1 (pa_cons (pe_and (pe_call G_is_name hr rfl T.m_is_name T.k_is_name T.n_is_name .nil pass0 (pa_cons (pv 2) pa_nil)) (pe_one (pe_cmpR op_notIn_seq (pv 2) (pe_comp rfl (pi_list (pv 1)) (cscope_of (sc := defScope s_read_new_name) rfl (by decide +kernel)) (N := ["way"]) (sel := [none]) (selOk_of (M := ["reader", "ways", "name"]) (by decide +kernel)) (Blk.of (fun _ _ _ _ => (pg_name (i := 0) (nd_of (N := ["way"]) (by decide +kernel) rfl) rfl (Or.inl rfl))) (fun _ _ _ _ => ⟨_, pts_nil, by first | rfl | (dsimp only [Cx.block]; done) | (dsimp only [Cx.block]; exact rfl)⟩) (fun _ _ _ _ => ⟨_, (pe_fld (pv 0) rfl), by first | rfl | (dsimp only [Cx.block]; done) | (dsimp only [Cx.block]; exact rfl)⟩))) (by with_unfolding_all rfl)))) pa_nil)))
      (pss_one (ps_ret (pv 2))))), ?_⟩
  obtain ⟨hz, dx, ta, e1, e2⟩ := id R
  (walk_at "RD")
  refine ⟨_, _, e1, RdAt.no _ _ _ (by decide +kernel), ⟨q, row, ws, pl, rfl, R, hpl, ?_⟩⟩
  (walk_at "RD")
  refine ⟨_, _, e1, RdAt.no _ _ _ (by decide +kernel), ?_⟩
  refine ⟨_, rfl, wd_len hz.2 pl, nt, ?_⟩
  cases hm : made (wd ws pl) letters 8 with
  | false =>
    (walk_at "RD")
    refine ⟨q, row, ws, pl, _, rfl, R, hrow, by omega, (fun g => by cases g), fun _ => q2 (fun z => by rw [hm] at z; cases z.1)⟩
  | true =>
    (walk_at "RD")
    obtain ⟨as, w1, w2, al⟩ := hW
    refine ⟨⟨_, SqL.of w1⟩, ?_⟩
    have hle : (as.map V.ref).length ≤ sizeLine := by rw [List.length_map, w2]; exact Nat.le_trans hdl (by decide)
    refine CompR.list_zs (xs := as.map V.ref) (zs := strsV (ds.map (·.name))) (SqL.of w1) hle (by rw [strsV_len, List.length_map, List.length_map, w2]) (fun i v z N hv hz' hN => ?_) (fun p hp => ?_)
    · obtain ⟨a, ha, rfl⟩ := map_at hv
      obtain ⟨y, hy, rfl⟩ := map_at hz'
      obtain ⟨d, hd, rfl⟩ := map_at hy
      (walk_at "RD")
      exact ⟨Sub.name, _, (al i a d ha hd).f_name T, hN⟩
    · (walk_at "RD")
      refine ⟨_, .inl (SqL.of upd_same), rfl, strsV_flat _, ?_⟩
      rw [inV_strs]
      have s0 : Same H (upd H p (.lst (strsV (ds.map (·.name))))) := same_new hp
      refine ⟨q, row, ws, pl, _, rfl, R.same s0, hrow, by omega, fun g H' s1 n1 R1 => ?_, fun g => ?_⟩
      · (walk_at "RD")
        exact q1 ⟨hm, of_decide_eq_false (by simpa using g)⟩ H' ((SameX.of s0).trans s1) (n1 nt.upd) R1
      · exact (q2 fun z => z.2 (of_decide_eq_true (by simpa using g))).step (SameX.of s0) fun n => n.upd
theorem ok_endX (T : Txt w K mg t) : FnOk P w K mg base (CX1 P w) 6 t.a_read_end t.d_read_end ["reader", "places", "start"] (sp_endX t) := by
  have G_RowReader_ahead : FnOk P w K mg base CX0 5 t.a_RowReader_ahead t.d_RowReader_ahead ["self"] (sp_ahead t) := (ok_ahead T).mono (by decide)
  have GX_RowReader_figures : FnOk P w K mg base (CX1 P w) 5 t.a_RowReader_figures t.d_RowReader_figures ["self", "low", "high"] (sp_figsX t) := ok_figsX T
  have GX_RowReader_refuse : FnOk P w K mg base (CX1 P w) 5 t.a_RowReader_refuse t.d_RowReader_refuse ["self"] (sp_refX t) := (ok_refX T).mono (by decide)
  refine T.F_read_end.okX sc_read_end (fun vs H Q E h => ?_) (fun cdv A outer s H vs Q E hr h => ?_)
  · obtain ⟨q, row, ws, pl, n, st, rfl, _⟩ := h; rfl
  obtain ⟨q, row, ws, pl, n, st, rfl, R, hrow, hpl, hst, hn, nt, q1, q2⟩ := h
  refine ⟨_, (pss_cons (ps_if (pt_cmpR op_eq (pe_meth0 (pv 0) T.cl_RowReader T.M_RowReader_ahead G_RowReader_ahead hr T.n_RowReader_ahead .nil pass0) (pe_callTy call_str_int rfl T.b_str boot_t_str (pa_cons (pv 2) pa_nil)) (nomark _)) (pss_one (ps_expr (pe_meth0 (pv 0) T.cl_RowReader T.M_RowReader_refuse GX_RowReader_refuse hr T.n_RowReader_refuse .nil passes1))) pss_nil)
      (pss_one (ps_ret (pe_meth (pv 0) T.cl_RowReader T.M_RowReader_figures GX_RowReader_figures hr T.n_RowReader_figures .nil passes1 (pa_cons pe_int (pa_cons (pe_op op_sub (pv 1) pe_int) pa_nil)))))), ?_⟩
  obtain ⟨hz, dx, ta, e1, e2⟩ := id R
  (walk_at "RD")
  refine tIfS_by (decide (wd ws pl = num st)) (fun Q hQ => ?_) (fun c => ?_) (fun c => ?_)
  · (walk_at "RD")
    refine ⟨_, _, e1, RdAt.no _ _ _ (by decide +kernel), ⟨q, row, ws, pl, rfl, R, hpl, ?_⟩⟩
    (walk_at "RD")
    exact ⟨log_small (by omega), hQ⟩
  · (walk_at "RD")
    exact ⟨_, _, e1, RdAt.no _ _ _ (by decide +kernel), ⟨q, row, ws, pl, rfl, R, hrow, by omega, q1 (of_decide_eq_true c)⟩⟩
  · (walk_at "RD")
    obtain ⟨k1, k2⟩ := q2 (of_decide_eq_false c)
    exact ⟨_, _, e1, RdAt.no _ _ _ (by decide +kernel), ⟨q, row, ws, pl, 0, n - 1, rfl, R, hrow, hpl, nt, fun v hv H1 s1 n1 R1 => k1 v hv H1 s1 (n1 nt) R1, k2⟩⟩
end
end My
namespace My
open PySem L2
section
variable {P : Program} {w : World} {K : PySem.W.Frag} {mg : Str → Option Value} {base : Heap} {t : Adr}
theorem ok_wayX (T : Txt w K mg t) : FnOk P w K mg base (CX1 P w) 7 t.a_read_way t.d_read_way ["reader", "places", "ways"] (sp_wayX t) := by
  have GX_RowReader_one_of : FnOk P w K mg base (CX1 P w) 6 t.a_RowReader_one_of t.d_RowReader_one_of ["self", "choices"] (sp_oneofX K t) := (ok_oneofX T).mono (by decide)
  have GX_RowReader_figures : FnOk P w K mg base (CX1 P w) 6 t.a_RowReader_figures t.d_RowReader_figures ["self", "low", "high"] (sp_figsX t) := (ok_figsX T).mono (by decide)
  have GX_RowReader_finish : FnOk P w K mg base (CX1 P w) 6 t.a_RowReader_finish t.d_RowReader_finish ["self"] (sp_finX t) := (ok_finX T).mono (by decide)
  have GX_read_new_name : FnOk P w K mg base (CX1 P w) 6 t.a_read_new_name t.d_read_new_name ["reader", "ways"] (sp_newnameX t) := (ok_newnameX T).mono (by decide)
  have GX_read_end : FnOk P w K mg base (CX1 P w) 6 t.a_read_end t.d_read_end ["reader", "places", "start"] (sp_endX t) := ok_endX T
  have G_made_way : FnOk P w K mg base CX0 6 t.a_made_way t.d_made_way ["sort", "name", "start", "end", "off", "near", "least"] (sp_mkway t) := (ok_mkway T).mono (by decide)
  refine T.F_read_way.okX sc_read_way (fun vs H Q E h => ?_) (fun cdv A outer s H vs Q E hr h => ?_)
  · obtain ⟨q, row, n, wl, ds, ws, rfl, _⟩ := h; rfl
  obtain ⟨q, row, n, wl, ds, ws, rfl, R, hrow, hn, hW, hdl, nt, qq⟩ := h
  refine ⟨_, (pss_cons (ps_set (i := 3) sc_read_way.nd rfl (Or.inl rfl) (pe_meth (pv 0) T.cl_RowReader T.M_RowReader_one_of GX_RowReader_one_of hr T.n_RowReader_one_of .nil passes1 (pa_cons (pe_lst (pa_cons pe_str (pa_cons pe_str (pa_cons pe_str pa_nil)))) pa_nil)))
      (pss_cons (ps_set (i := 4) sc_read_way.nd rfl (Or.inl rfl) (pe_call GX_read_new_name hr rfl T.m_read_new_name T.k_read_new_name T.n_read_new_name .nil passes1 (pa_cons (pv 0) (pa_cons (pv 2) pa_nil))))
      (pss_cons (ps_set (i := 5) sc_read_way.nd rfl (Or.inl rfl) (pe_meth (pv 0) T.cl_RowReader T.M_RowReader_figures GX_RowReader_figures hr T.n_RowReader_figures .nil passes1 (pa_cons pe_int (pa_cons (pe_op op_sub (pv 1) pe_int) pa_nil))))
      (pss_cons (ps_set (i := 6) sc_read_way.nd rfl (Or.inl rfl) (pe_call GX_read_end hr rfl T.m_read_end T.k_read_end T.n_read_end .nil passes1 (pa_cons (pv 0) (pa_cons (pv 1) (pa_cons (pv 5) pa_nil)))))
      (pss_cons (ps_set (i := 7) sc_read_way.nd rfl (Or.inl rfl) (pe_meth (pv 0) T.cl_RowReader T.M_RowReader_figures GX_RowReader_figures hr T.n_RowReader_figures .nil passes1 (pa_cons pe_int (pa_cons (pe_glob rfl T.g_MOST_OFF T.r_MOST_OFF) pa_nil))))
      (pss_cons (ps_set (i := 8) sc_read_way.nd rfl (Or.inl rfl) (pe_meth (pv 0) T.cl_RowReader T.M_RowReader_figures GX_RowReader_figures hr T.n_RowReader_figures .nil passes1 (pa_cons pe_int (pa_cons (pe_glob rfl T.g_MOST_NEAR T.r_MOST_NEAR) pa_nil))))
      (pss_cons (ps_set (i := 9) sc_read_way.nd rfl (Or.inl rfl) (pe_meth (pv 0) T.cl_RowReader T.M_RowReader_figures GX_RowReader_figures hr T.n_RowReader_figures .nil passes1 (pa_cons pe_int (pa_cons (pe_glob rfl T.g_MOST_LEAST T.r_MOST_LEAST) pa_nil))))
      (pss_cons (ps_expr (pe_meth0 (pv 0) T.cl_RowReader T.M_RowReader_finish GX_RowReader_finish hr T.n_RowReader_finish .nil passes1))
      (pss_one (ps_ret (pe_call G_made_way hr rfl T.m_made_way T.k_made_way T.n_made_way .nil pass0 (pa_cons (pv 3) (pa_cons (pv 4) (pa_cons (pv 5) (pa_cons (pv 6) (pa_cons (pv 7) (pa_cons (pv 8) (pa_cons (pv 9) pa_nil)))))))))))))))))), ?_⟩
  generalize hok : (fun d : WD => ∀ x H', SameX q H H' → NoT H' → WayAt t H' x d → H x = none → Q (.ref x) H') = okk at qq
  obtain ⟨_, dx, ta, e1, e2⟩ := id R
  unfold wayP at qq
  (walk_at "RD")
  refine ⟨_, _, e1, RdAt.no _ _ _ (by decide +kernel), by decide, fun p hp => ?_⟩
  have s0 : Same H (upd H p (.lst [V.str (Str.ofString "car"), V.str (Str.ofString "foot"), V.str (Str.ofString "tram")])) := same_new hp
  refine ⟨q, row, ws, 0, p, [Str.ofString "car", Str.ofString "foot", Str.ofString "tram"], rfl, R.same s0, hrow, Nat.zero_le _, SqL.of upd_same, fun hin => fun H1 s1 n1 R1 => ?_, fun hnin => ?_⟩
  case refine_2 =>
    rw [sortK_none hnin] at qq
    exact (show RefT t row 0 q H E from qq).step (SameX.of s0) fun n => n.upd
  obtain ⟨k, hk3, hk, hks, hk0⟩ := sortK_some hin
  rw [hk] at qq
  replace qq : Oc (wayP1 n (ds.map (·.name)) ws k) okk (fun k => RefT t row k q H E) := qq
  unfold wayP1 at qq
  have x1 : SameX q H H1 := (SameX.of s0).trans s1
  have m1 := n1 nt.upd
  have l1 : 1 ≤ ws.length := wd_lt hk0
  (walk_at "RD")
  refine ⟨q, row, ws, 1, wl, ds, rfl, R1, hrow, l1, hW.sameX x1 R, hdl, m1, fun hc => fun H2 s2 m2 R2 => ?_, fun hc => ?_⟩
  case refine_2 =>
    rw [if_neg hc] at qq
    exact (show RefT t row 1 q H E from qq).step x1 fun _ => m1
  rw [if_pos hc] at qq
  unfold wayP2 at qq
  obtain ⟨_, dx2, ta2, f2, g2⟩ := id R2
  have x2 := x1.trans s2
  have l2 : 2 ≤ ws.length := wd_lt (fun z => by
    have := (made_letters hc.1).1.1
    rw [z] at this
    exact absurd this (by decide +kernel))
  (walk_at "RD")
  refine ⟨_, _, f2, RdAt.no _ _ _ (by decide +kernel), ⟨q, row, ws, 2, 0, n - 1, rfl, R2, hrow, l2, m2, fun st hst => fun H3 s3 n3 R3 => ?_, fun hno => ?_⟩⟩
  case refine_2 =>
    rw [figO_none hno] at qq
    exact (show RefT t row 2 q H E from qq).step x2 fun _ => m2
  rw [figO_of hst] at qq
  replace qq : Oc (wayP3 n ws k (wd ws 1) st) okk (fun k => RefT t row k q H E) := qq
  unfold wayP3 at qq
  have x3 := x2.trans s3
  have m3 := n3 m2
  obtain ⟨l3, a3, b3⟩ := figV_lt hst
  (walk_at "RD")
  refine ⟨q, row, ws, 3, n, st, rfl, R3, hrow, l3, ⟨a3, by omega⟩, hn.2, m3, fun he => ?_, fun he => ⟨fun fi hfi H4 s4 m4 R4 => ?_, fun hno => ?_⟩⟩
  · rw [if_pos he] at qq
    exact (show RefT t row 3 q H E from qq).step x3 fun _ => m3
  case refine_3 =>
    rw [if_neg he, figO_none hno] at qq
    exact (show RefT t row 3 q H E from qq).step x3 fun _ => m3
  rw [if_neg he, figO_of hfi] at qq
  replace qq : Oc (wayP4 ws k (wd ws 1) st fi) okk (fun k => RefT t row k q H E) := qq
  unfold wayP4 at qq
  obtain ⟨_, dx4, ta4, f4, g4⟩ := id R4
  have x4 := x3.trans s4
  obtain ⟨l4, a4, b4⟩ := figV_lt hfi
  (walk_at "RD")
  refine ⟨_, _, f4, RdAt.no _ _ _ (by decide +kernel), ⟨q, row, ws, 4, 0, 30, rfl, R4, hrow, l4, m4, fun off hoff => fun H5 s5 n5 R5 => ?_, fun hno => ?_⟩⟩
  case refine_2 =>
    rw [figO_none hno] at qq
    exact (show RefT t row 4 q H E from qq).step x4 fun _ => m4
  rw [figO_of hoff] at qq
  replace qq : Oc (wayP5 ws k (wd ws 1) st fi off) okk (fun k => RefT t row k q H E) := qq
  unfold wayP5 at qq
  obtain ⟨_, dx5, ta5, f5, g5⟩ := id R5
  have x5 := x4.trans s5
  have m5 := n5 m4
  obtain ⟨l5, a5, b5⟩ := figV_lt hoff
  (walk_at "RD")
  refine ⟨_, _, f5, RdAt.no _ _ _ (by decide +kernel), ⟨q, row, ws, 5, 0, 30, rfl, R5, hrow, l5, m5, fun near hnear => fun H6 s6 n6 R6 => ?_, fun hno => ?_⟩⟩
  case refine_2 =>
    rw [figO_none hno] at qq
    exact (show RefT t row 5 q H E from qq).step x5 fun _ => m5
  rw [figO_of hnear] at qq
  replace qq : Oc (wayP6 ws k (wd ws 1) st fi off near) okk (fun k => RefT t row k q H E) := qq
  unfold wayP6 at qq
  obtain ⟨_, dx6, ta6, f6, g6⟩ := id R6
  have x6 := x5.trans s6
  have m6 := n6 m5
  obtain ⟨l6, a6, b6⟩ := figV_lt hnear
  (walk_at "RD")
  refine ⟨_, _, f6, RdAt.no _ _ _ (by decide +kernel), ⟨q, row, ws, 6, 1, 60, rfl, R6, hrow, l6, m6, fun least hleast => fun H7 s7 n7 R7 => ?_, fun hno => ?_⟩⟩
  case refine_2 =>
    rw [figO_none hno] at qq
    exact (show RefT t row 6 q H E from qq).step x6 fun _ => m6
  rw [figO_of hleast] at qq
  replace qq : Oc (wayP7 ws ⟨k, wd ws 1, st, fi, off, near, least⟩) okk (fun k => RefT t row k q H E) := qq
  unfold wayP7 at qq
  obtain ⟨_, dx7, ta7, f7, g7⟩ := id R7
  have x7 := x6.trans s7
  have m7 := n7 m6
  (walk_at "RD")
  refine ⟨_, _, f7, RdAt.no _ _ _ (by decide +kernel), ⟨q, row, ws, 7, rfl, R7, hrow, fun hl => ?_, fun hl => ?_⟩⟩
  case refine_2 =>
    rw [if_pos hl] at qq
    exact (show RefT t row 7 q H E from qq).step x7 fun _ => m7
  rw [if_neg hl] at qq
  replace qq : okk ⟨k, wd ws 1, st, fi, off, near, least⟩ := qq
  subst hok
  rw [hks]
  (walk_at "RD")
  refine ⟨⟨k, wd ws 1, st, fi, off, near, least⟩, rfl, hk3, fun x H8 s8 n8 w8 hx8 => ?_⟩
  refine qq x H8 (x7.trans (SameX.of s8)) (n8 m7) w8 ?_
  cases hH : H x with
  | none => rfl
  | some u =>
    by_cases hxq : x = q
    · subst hxq; rw [f7] at hx8; cases hx8
    · rw [x7 x u hxq hH] at hx8; cases hx8
end
end My
namespace My
open PySem L2
/-! ### a crossing -/
abbrev cKeys : List Str := [Str.ofString "places", Str.ofString "ways", Str.ofString "numbers"]
def cF (n : Int) (wl nd : Addr) : List (Str × V) := [(Str.ofString "places", .int n), (Str.ofString "ways", .ref wl), (Str.ofString "numbers", .ref nd)]
theorem cF_keys (n : Int) (wl nd : Addr) : (cF n wl nd).map (·.1) = cKeys := rfl
def nm (ds : List WD) (i : Nat) : Str := ((ds[i]?).map (·.name)).getD (Str.ofString "")
def nums (ds : List WD) (i : Nat) : List (Key × V) := (List.range i).map fun j => (Sum.inr (nm ds j), V.int j)
theorem nm_at {ds : List WD} {i : Nat} {d : WD} (h : ds[i]? = some d) : nm ds i = d.name := by unfold nm; rw [h]; rfl
theorem nd_inj {ds : List WD} (h : (ds.map (·.name)).Nodup) {i j : Nat} (hi : i < ds.length) (hj : j < ds.length) (e : nm ds i = nm ds j) : i = j := by
  rw [nm_at (List.getElem?_eq_getElem hi), nm_at (List.getElem?_eq_getElem hj)] at e
  have := (List.getElem_inj (xs := ds.map (·.name)) (i := i) (j := j) (h₀ := by rw [List.length_map]; exact hi) (h₁ := by rw [List.length_map]; exact hj) h).mp (by rw [List.getElem_map, List.getElem_map]; exact e)
  exact this
theorem nums_val {ds : List WD} (h : (ds.map (·.name)).Nodup) {i : Nat} : ∀ {n : Nat}, i < n → n ≤ ds.length → valV (nums ds n) (Sum.inr (nm ds i)) = some (.int i) := by
  intro n
  induction n with
  | zero => intro hi _; omega
  | succ n ih =>
    intro hi hn
    unfold nums valV
    rw [List.range_succ, List.map_append, List.find?_append]
    by_cases c : i < n
    · have := ih c (by omega)
      unfold nums valV at this
      cases e : List.find? (fun kv => decide (kv.fst = Sum.inr (nm ds i))) (List.map (fun j => ((Sum.inr (nm ds j) : Key), V.int j)) (List.range n)) with
      | none => rw [e] at this; cases this
      | some p => rw [e] at this; exact this
    · have e : i = n := by omega
      subst e
      have no : List.find? (fun kv => decide (kv.fst = Sum.inr (nm ds i))) (List.map (fun j => ((Sum.inr (nm ds j) : Key), V.int j)) (List.range i)) = none := by
        rw [List.find?_eq_none]
        intro p hp
        obtain ⟨j, hj, rfl⟩ := List.mem_map.mp hp
        have hj' := List.mem_range.mp hj
        simp only [decide_eq_true_eq]
        intro z
        have := nd_inj h (by omega) (by omega) (Sum.inr.inj z)
        omega
      rw [no]
      simp
theorem nums_no {ds : List WD} {x : Str} (h : ∀ d ∈ ds, d.name ≠ x) : ∀ {n : Nat}, n ≤ ds.length → valV (nums ds n) (Sum.inr x) = none := by
  intro n hn
  unfold valV nums
  rw [List.find?_eq_none.mpr]
  · rfl
  intro p hp
  obtain ⟨j, hj, rfl⟩ := List.mem_map.mp hp
  have hj' := List.mem_range.mp hj
  simp only [decide_eq_true_eq]
  intro z
  have hjl : j < ds.length := by omega
  have e := Sum.inr.inj z
  rw [nm_at (List.getElem?_eq_getElem hjl)] at e
  exact h _ (List.getElem_mem hjl) e
theorem nums_put {ds : List WD} (h : (ds.map (·.name)).Nodup) {n : Nat} (hn : n < ds.length) : putK (nums ds n) (Sum.inr (nm ds n)) (.int n) = nums ds (n + 1) := by
  unfold putK
  have no : ((nums ds n).any fun kv => decide (kv.1 = Sum.inr (nm ds n))) = false := by
    rw [List.any_eq_false]
    intro p hp
    obtain ⟨j, hj, rfl⟩ := List.mem_map.mp hp
    have hj' := List.mem_range.mp hj
    simp only [decide_eq_true_eq]
    intro z
    have := nd_inj h (by omega) hn (Sum.inr.inj z)
    omega
  rw [no]
  unfold nums
  rw [List.range_succ, List.map_append]
  rfl
theorem sameX_free {H H1 H2 : Hp} {q : Addr} (a : Same H H1) (b : SameX q H1 H2) (n : H q = none) : Same H H2 := fun c u e => b c u (ne_of_none e n) (a c u e)
theorem rd_ne {t : Adr} {H : Hp} {p q : Addr} {i j : Int} {ws vs : List Str} {k l : Nat} (a : RdAt t H p i ws k) (b : RdAt t H q j vs l) (n : i ≠ j) : p ≠ q := fun z => by
  subst z
  obtain ⟨_, dx, ta, e1, _⟩ := a
  obtain ⟨_, dx', ta', e2, _⟩ := b
  rw [e1] at e2
  have e3 := Option.some.inj e2
  injection e3 with _ _ e4
  unfold rdF at e4
  injection e4 with e5 _
  injection e5 with _ e6
  injection e6 with e7
  exact n e7
theorem way_ne_rd {t : Adr} {H : Hp} {p q : Addr} {d : WD} {j : Int} {vs : List Str} {l : Nat} (a : WayAt t H p d) (b : RdAt t H q j vs l) : p ≠ q := fun z => by
  subst z
  obtain ⟨_, dx, e1⟩ := a
  obtain ⟨_, dx', ta', e2, _⟩ := b
  rw [e1] at e2
  have e3 := Option.some.inj e2
  injection e3 with _ _ e4
  exact absurd (congrArg List.length e4) (by show ¬ (7 : Nat) = 3; decide)
def CrossAt (t : Adr) (H : Hp) (c : Addr) (n : Int) (ds : List WD) : Prop :=
  ((ds.map (·.name)).Nodup ∧ ds.length ≤ 12) ∧ ∃ dx wl nd, H c = some (.ins t.c_Crossing dx (cF n wl nd)) ∧ WaysAt t H wl ds ∧ H nd = some (.dK (nums ds ds.length))
theorem CrossAt.same {t : Adr} {H H' : Hp} {c : Addr} {n : Int} {ds : List WD} (h : CrossAt t H c n ds) (s : Same H H') : CrossAt t H' c n ds := by
  obtain ⟨h0, dx, wl, nd, e1, e2, e3⟩ := h
  exact ⟨h0, dx, wl, nd, s _ _ e1, e2.same s, s _ _ e3⟩
theorem c_no {m : Str} (n : Int) (wl nd : Addr) (h : cKeys.contains m = false) : (cF n wl nd).lookup m = none := lookup_no cKeys (cF_keys ..) h
section
variable {w : World} {K : PySem.W.Frag} {mg : Str → Option Value} {t : Adr} {H : Hp} {c dx wl nd : Addr} {n : Int}
theorem c_places (T : Txt w K mg t) (e : H c = some (.ins t.c_Crossing dx (cF n wl nd))) : FldAt K H c (Str.ofString "places") (.int n) := ⟨_, dx, _, e, T.cl_Crossing, T.nA_Crossing_places, lookup_at cKeys 0 (cF_keys ..) (by decide +kernel) rfl⟩
theorem c_ways (T : Txt w K mg t) (e : H c = some (.ins t.c_Crossing dx (cF n wl nd))) : FldAt K H c (Str.ofString "ways") (.ref wl) := ⟨_, dx, _, e, T.cl_Crossing, T.nA_Crossing_ways, lookup_at cKeys 1 (cF_keys ..) (by decide +kernel) rfl⟩
theorem c_numbers (T : Txt w K mg t) (e : H c = some (.ins t.c_Crossing dx (cF n wl nd))) : FldAt K H c (Str.ofString "numbers") (.ref nd) := ⟨_, dx, _, e, T.cl_Crossing, T.nA_Crossing_numbers, lookup_at cKeys 2 (cF_keys ..) (by decide +kernel) rfl⟩
end
def sp_crI (t : Adr) : Sp := fun vs H Q _ => ∃ c dx n wl ds, vs = [.ref c, .int n, .ref wl] ∧ H c = some (.ins t.c_Crossing dx []) ∧ WaysAt t H wl ds ∧ (ds.map (·.name)).Nodup ∧ ds.length ≤ 12 ∧ NoT H ∧
  ∀ H', SameX c H H' → NoT H' → CrossAt t H' c n ds → Q .non H'
def sp_rc (t : Adr) : Sp := fun vs H Q _ => ∃ n ds, vs = [.str (cText n ds)] ∧ COk n ds ∧ NoT H ∧ ∀ c H', Same H H' → NoT H' → CrossAt t H' c n ds → Q (.ref c) H'
def sp_names (t : Adr) : Sp := fun vs H Q _ => ∃ c n ds, vs = [.ref c] ∧ CrossAt t H c n ds ∧ ∀ p, H p = none → Q (.ref p) (upd H p (.lst (strsV (ds.map (·.name)))))
def sp_number (t : Adr) : Sp := fun vs H Q _ => ∃ c n ds, ∃ i : Nat, ∃ d, vs = [.ref c, .str d.name] ∧ CrossAt t H c n ds ∧ ds[i]? = some d ∧ Q (.int (i : Nat)) H
def sp_called (t : Adr) : Sp := fun vs H Q _ => ∃ c n ds, ∃ i : Nat, ∃ d, vs = [.ref c, .str d.name] ∧ CrossAt t H c n ds ∧ ds[i]? = some d ∧ ∀ a, WayAt t H a d → Q (.ref a) H
section
variable {P : Program} {w : World} {K : PySem.W.Frag} {mg : Str → Option Value} {base : Heap} {t : Adr}
theorem ok_crI (T : Txt w K mg t) : FnOk P w K mg base CX0 1 t.a_Crossing_init t.d_Crossing_init ["self", "places", "ways"] (sp_crI t) := by
  refine T.F_Crossing_init.ok sc_Crossing___init__ (fun vs H Q E h => ?_) (fun cdv A outer s H vs Q E hr h => ?_)
  · obtain ⟨c, dx, n, wl, ds, rfl, _⟩ := h; rfl
  obtain ⟨c, dx, n, wl, ds, rfl, hc, hW, hnd, hdl, nt, q⟩ := h
  have hu := hu_of hr
  refine ⟨_, (pss_cons (ps_fld (pv 0) (pv 1) rfl)
      (pss_cons (ps_fld (pv 0) (pv 2) rfl)
      (pss_cons (ps_fld (pv 0) pe_dnewK rfl)
      (pss_one (ps_for PassesOwn.never rfl (pi_enum rfl T.b_enumerate (pa_cons (pv 2) pa_nil)) (pg_tupK (K := K) (n := 2) rfl rfl (pgs_cons (pg_name (i := 3) sc_Crossing___init__.nd rfl (Or.inl rfl) (.inl rfl)) (pgs_cons (pg_name (i := 4) sc_Crossing___init__.nd rfl (Or.inl rfl) (.inl rfl)) pgs_nil))) (pss_one (ps_dput hu (pe_fld (pv 0) rfl) (pe_fld (pv 4) rfl) (pv 3) rfl))))))), ?_⟩
  (walk_at "RD")
  refine ⟨_, _, _, hc, T.cl_Crossing, T.nA_Crossing_places, by decide, ?_⟩
  refine ⟨_, _, _, upd_same, T.cl_Crossing, T.nA_Crossing_ways, lenP (n := 999) (by decide), fun nd hn => ?_⟩
  simp only [upd_upd] at hn ⊢
  rw [show putF (Str.ofString "places") (V.int n) ([] : List (Str × V)) = [(Str.ofString "places", V.int n)] from rfl, show putF (Str.ofString "ways") (V.ref wl) [(Str.ofString "places", V.int n)] = [(Str.ofString "places", V.int n), (Str.ofString "ways", V.ref wl)] from putF_new [Str.ofString "places"] rfl (by decide +kernel)] at hn ⊢
  have hnc : c ≠ nd := fun z => by subst z; rw [upd_same] at hn; cases hn
  refine ⟨t.c_Crossing, dx, [(Str.ofString "places", V.int n), (Str.ofString "ways", V.ref wl)], by rw [upd_ne hnc]; exact upd_same, T.cl_Crossing, T.nA_Crossing_numbers, show (2 : Nat) < 1000 by decide, ?_⟩
  rw [show putF (Str.ofString "numbers") (V.ref nd) [(Str.ofString "places", V.int n), (Str.ofString "ways", V.ref wl)] = cF n wl nd from putF_new [Str.ofString "places", Str.ofString "ways"] rfl (by decide +kernel)]
  obtain ⟨as, w1, w2, al⟩ := hW
  have hHn : H nd = none := by rw [upd_ne (Ne.symm hnc)] at hn; exact hn
  have sx : SameX c H (upd (upd (upd H c (.ins t.c_Crossing dx [(Str.ofString "places", V.int n), (Str.ofString "ways", V.ref wl)])) nd (.dK [])) c (.ins t.c_Crossing dx (cF n wl nd))) := fun b u hb e => by
    rw [upd_ne hb, upd_ne (ne_of_none e hHn), upd_ne hb]; exact e
  have hwc : wl ≠ c := ne_of w1 hc (by intro z; cases z)
  refine ⟨⟨_, SqL.of (sx _ _ hwc w1)⟩, ?_⟩
  refine ForW.enum (xs := as.map V.ref) (fun i σ H' => (∃ x y, σ = [some (V.ref c), some (V.int n), some (V.ref wl), x, y]) ∧ H' c = some (.ins t.c_Crossing dx (cF n wl nd)) ∧ H' nd = some (.dK (nums ds i)) ∧ SameX c H H' ∧ NoT H') ?_ ?_ ?_ ?_
  · exact ⟨⟨_, _, rfl⟩, upd_same, by rw [upd_ne (Ne.symm hnc), upd_same]; rfl, sx, ((nt.upd).upd).upd⟩
  · rintro i σ H' hi ⟨_, _, _, sx', _⟩
    exact SqL.of (sx' _ _ hwc w1)
  · rintro i v σ H' p hv ⟨⟨x, y, rfl⟩, h1, h2, sx', nt'⟩ hp
    obtain ⟨a, ha, rfl⟩ := map_at hv
    obtain ⟨hi, _⟩ := List.getElem?_eq_some_iff.mp ha
    have hid : i < ds.length := by omega
    have hd : ds[i]? = some ds[i] := List.getElem?_eq_getElem hid
    have Wa : WayAt t H a ds[i] := al i a _ ha hd
    have hac : a ≠ c := by
      obtain ⟨_, dx', e⟩ := Wa
      intro z
      subst z
      rw [hc] at e
      have e2 := Option.some.inj e
      injection e2 with _ _ e3
      exact absurd (congrArg List.length e3) (by show ¬ (0 : Nat) = 7; decide)
    have Wa' : WayAt t H' a ds[i] := ⟨Wa.1, Wa.2.imp fun dx' e => sx' _ _ hac e⟩
    have sp : Same H' (upd H' p (.tup [.int i, .ref a])) := same_new hp
    refine gTup2_new ?_
    (walk_at "RD")
    refine ⟨_, c_numbers T (sp _ _ h1), _, (Wa'.same sp).f_name T, _, rfl, _, DPut.k (k := Sum.inr ds[i].name) (sp _ _ h2) (Nat.lt_of_le_of_lt (show (nums ds i).length ≤ 12 by unfold nums; rw [List.length_map, List.length_range]; omega) (by decide)), ?_⟩
    rw [← nm_at hd, nums_put hnd hid]
    refine ⟨⟨_, rfl⟩, ?_, upd_same, fun b u hb e => ?_, (nt'.upd).upd⟩
    · rw [upd_ne hnc]; exact sp _ _ h1
    · rw [upd_ne (ne_of_none e hHn)]; exact sp _ _ (sx' b u hb e)
  · rintro σ H' ⟨⟨x, y, rfl⟩, h1, h2, sx', nt'⟩
    (walk_at "RD")
    rw [List.length_map, w2] at h2
    refine q H' sx' nt' ⟨⟨hnd, hdl⟩, dx, wl, nd, h1, ⟨as, sx' _ _ hwc w1, w2, fun i a d h3 h4 => ?_⟩, h2⟩
    have Wa := al i a d h3 h4
    have hac : a ≠ c := by
      obtain ⟨_, dx', e⟩ := Wa
      intro z
      subst z
      rw [hc] at e
      have e2 := Option.some.inj e
      injection e2 with _ _ e3
      exact absurd (congrArg List.length e3) (by show ¬ (0 : Nat) = 7; decide)
    exact ⟨Wa.1, Wa.2.imp fun dx' e => sx' _ _ hac e⟩
theorem ok_number (T : Txt w K mg t) : FnOk P w K mg base CX0 1 t.a_Crossing_number t.d_Crossing_number ["self", "name"] (sp_number t) := by
  refine T.F_Crossing_number.ok sc_Crossing_number (fun vs H Q E h => ?_) (fun cdv A outer s H vs Q E hr h => ?_)
  · obtain ⟨c, n, ds, i, d, rfl, _⟩ := h; rfl
  obtain ⟨c, n, ds, i, d, rfl, ⟨⟨hnd, hdl⟩, dx, wl, nd, e1, e2, e3⟩, hd, q⟩ := h
  have hu := hu_of hr
  have hv : valV (nums ds ds.length) (Sum.inr d.name) = some (.int i) := by
    rw [← nm_at hd]
    exact nums_val hnd (List.getElem?_eq_some_iff.mp hd).1 (Nat.le_refl _)
  have hg : DGet H nd (.str d.name) (some (.int i)) := by rw [← hv]; exact DGet.k (k := Sum.inr d.name) e3
  refine ⟨_, (pss_cons (ps_if (pt_cmp (pc_dnotin hu (pv 1) (pe_fld (pv 0) rfl))) (pss_one ps_never) pss_nil)
      (pss_one (ps_ret (pe_dget hu (pe_fld (pv 0) rfl) (pv 1) (fun _ _ => rfl))))), ?_⟩
  (walk_at "RD")
  refine tIfS_by false (fun Q hQ => ?_) (fun hc => nomatch hc) (fun _ => ?_)
  · (walk_at "RD")
    refine ⟨_, c_numbers T e1, _, rfl, _, hg, ?_⟩
    exact hQ
  · (walk_at "RD")
    exact ⟨_, c_numbers T e1, _, rfl, _, hg, q⟩
theorem ok_called (T : Txt w K mg t) : FnOk P w K mg base CX0 2 t.a_Crossing_called t.d_Crossing_called ["self", "name"] (sp_called t) := by
  have G_Crossing_number : FnOk P w K mg base CX0 1 t.a_Crossing_number t.d_Crossing_number ["self", "name"] (sp_number t) := ok_number T
  refine T.F_Crossing_called.ok sc_Crossing_called (fun vs H Q E h => ?_) (fun cdv A outer s H vs Q E hr h => ?_)
  · obtain ⟨c, n, ds, i, d, rfl, _⟩ := h; rfl
  obtain ⟨c, n, ds, i, d, rfl, C, hd, q⟩ := h
  obtain ⟨⟨hnd, hdl⟩, dx, wl, nd, e1, ⟨as, w1, w2, al⟩, e3⟩ := id C
  refine ⟨_, (pss_one (ps_ret (pe_ix ix_list (pe_fld (pv 0) rfl) (pe_meth (pv 0) T.cl_Crossing T.M_Crossing_number G_Crossing_number hr T.n_Crossing_number .nil pass0 (pa_cons (pv 1) pa_nil)) (fun _ _ => rfl)))), ?_⟩
  (walk_at "RD")
  refine ⟨_, c_ways T e1, _, _, e1, c_no _ _ _ (by decide +kernel), ⟨c, n, ds, i, d, rfl, C, hd, ?_⟩⟩
  have hi : i < as.length := by rw [w2]; exact (List.getElem?_eq_some_iff.mp hd).1
  have ha : as[i]? = some as[i] := List.getElem?_eq_getElem hi
  (walk_at "RD")
  refine ⟨_, SqL.of w1, _, atI_nat (show (as.map V.ref)[i]? = some (V.ref as[i]) by rw [List.getElem?_map, ha]; rfl), ?_⟩
  exact q as[i] (al i _ d ha hd)
theorem ok_rc (T : Txt w K mg t) : FnOk P w K mg base CX0 7 t.a_read_crossing t.d_read_crossing ["text"] (sp_rc t) := by
  have G_readers : FnOk P w K mg base CX0 6 t.a_readers t.d_readers ["text"] (sp_readers t) := (ok_readers T).mono (by decide)
  have G_read_ring : FnOk P w K mg base CX0 6 t.a_read_ring t.d_read_ring ["reader"] (sp_ring t) := (ok_ring T).mono (by decide)
  have G_read_way : FnOk P w K mg base CX0 6 t.a_read_way t.d_read_way ["reader", "places", "ways"] (sp_way t) := ok_way T
  have G_Crossing_init : FnOk P w K mg base CX0 5 t.a_Crossing_init t.d_Crossing_init ["self", "places", "ways"] (sp_crI t) := (ok_crI T).mono (by decide)
  refine T.F_read_crossing.ok sc_read_crossing (fun vs H Q E h => ?_) (fun cdv A outer s H vs Q E hr h => ?_)
  · obtain ⟨n, ds, rfl, _⟩ := h; rfl
  obtain ⟨n, ds, rfl, hC, nt, qq⟩ := h
  refine ⟨_, (pss_cons (ps_set (i := 1) sc_read_crossing.nd rfl (Or.inl rfl) (pe_call G_readers hr rfl T.m_readers T.k_readers T.n_readers .nil pass0 (pa_cons (pv 0) pa_nil)))
      (pss_cons (ps_set (i := 2) sc_read_crossing.nd rfl (Or.inl rfl) (pe_call G_read_ring hr rfl T.m_read_ring T.k_read_ring T.n_read_ring .nil pass0 (pa_cons (pe_ix ix_list (pv 1) pe_int (fun _ _ => rfl)) pa_nil)))
      (pss_cons (ps_set (i := 3) sc_read_crossing.nd rfl (Or.inl rfl) (pe_lst pa_nil))
      (pss_cons (ps_for PassesOwn.never rfl (pi_list (pe_slice sl_list (pv 1) (po_some pe_int) po_none)) (pg_name (i := 4) sc_read_crossing.nd rfl (Or.inl rfl)) (pss_cons (ps_if (pt_cmpR op_eq (pe_callB call_len_seq rfl T.b_len boot_b_len (pa_cons (pv 3) pa_nil)) (pe_glob rfl T.g_MOST_WAYS T.r_MOST_WAYS) (nomark _)) (pss_one ps_never) pss_nil)
      (pss_one (ps_expr (pe_bm PySem.F.plainAttrs_list PySem.F.slot_list_append PySem.F.type_list_append mt_append (pv 3) (pa_cons (pe_call G_read_way hr rfl T.m_read_way T.k_read_way T.n_read_way .nil pass0 (pa_cons (pv 4) (pa_cons (pv 2) (pa_cons (pv 3) pa_nil)))) pa_nil))))))
      (pss_cons (ps_if (pt_not (pt_truth (pv 3) (fun _ => rfl))) (pss_one ps_never) pss_nil)
      (pss_one (ps_ret (pe_make T.M_Crossing G_Crossing_init hr rfl T.m_Crossing T.n_Crossing_init .nil pass0 (pa_cons (pv 2) (pa_cons (pv 3) pa_nil)))))))))), ?_⟩
  have hrow := rows_cText hC
  have hlen := cText_len hC
  have hnn := hC.nn
  have hln := hC.ln
  (walk_at "RD")
  refine ⟨cText n ds, rfl, by omega, ?_, nt, fun p H1 sm1 nt1 R => ?_⟩
  · rw [hrow]
    intro r hr
    refine ⟨?_, fun x hx => Nat.le_trans (hC.plain r hr x hx).1 (by decide)⟩
    rcases List.mem_cons.mp hr with rfl | hr
    · show (2 : Nat) ≤ 1000; decide
    · obtain ⟨d, hd, rfl⟩ := List.mem_map.mp hr
      show (7 : Nat) ≤ 1000; decide
  rw [hrow] at R
  obtain ⟨qs, hp, hp0, hql, hqa⟩ := R
  have hql' : qs.length = ds.length + 1 := by rw [hql]; simp [cRows]
  obtain ⟨q0, qr, rfl⟩ : ∃ q0 qr, qs = q0 :: qr := by
    cases qs with
    | nil => simp at hql'
    | cons a b => exact ⟨a, b, rfl⟩
  obtain ⟨R0, hq0⟩ := hqa 0 q0 _ rfl rfl
  (walk_at "RD")
  refine ⟨_, SqL.of hp, _, atI_nat (j := 0) rfl, ⟨q0, _, n, rfl, R0, hnn, nt1, fun H2 s2 nt2 => ⟨Nat.zero_le _, fun wl hwl => ?_⟩⟩⟩
  obtain ⟨C0, dq0, fq0, hins⟩ := R0.ins
  have hpq : p ≠ q0 := ne_of hp hins (by intro z; cases z)
  have hp2 : H2 p = some (.lst ((q0 :: qr).map V.ref)) := s2 _ _ hpq hp
  have swl : Same H2 (upd H2 wl (.lst [])) := same_new hwl
  have hcut : cutV ((q0 :: qr).map V.ref) (some 1) none = qr.map V.ref := by
    unfold cutV
    simp [HT.sIx]
    exact List.take_of_length_le (by rw [List.length_map]; exact Nat.le_refl _)
  refine ⟨_, SqL.of (swl _ _ hp2), fun pc hpc => ?_⟩
  rw [hcut]
  have hpw : pc ≠ wl := fun z => by subst z; rw [upd_same] at hpc; cases hpc
  have spc : Same (upd H2 wl (.lst [])) (upd (upd H2 wl (.lst [])) pc (.lst (qr.map V.ref))) := same_new hpc
  refine ⟨⟨_, SqL.of upd_same⟩, ?_⟩
  have sH2 : Same H H2 := sameX_free sm1 s2 hq0
  have hqrl : qr.length = ds.length := by simpa using hql'
  refine ForW.list (xs := qr.map V.ref) (fun i σ H' => (∃ x, σ = [some (V.str (cText n ds)), some (V.ref p), some (V.int n), some (V.ref wl), x]) ∧ NoT H' ∧ Same H H' ∧ H' pc = some (.lst (qr.map V.ref)) ∧ H wl = none ∧ WaysAt t H' wl (ds.take i) ∧
    ∀ (j : Nat) (q : Addr) (d : WD), i ≤ j → qr[j]? = some q → ds[j]? = some d → RdAt t H' q ((j + 1 : Nat) : Int) (wWords d) 0 ∧ H q = none) ?_ ?_ ?_ ?_
  · refine ⟨⟨_, rfl⟩, (nt2.upd).upd, (sH2.trans swl).trans spc, upd_same, sH2.free hwl, ⟨[], spc _ _ upd_same, rfl, fun j a d h => by simp at h⟩, fun j q d _ h1 h2 => ?_⟩
    have hr : (cRows n ds)[j + 1]? = some (wWords d) := by
      unfold cRows
      rw [List.getElem?_cons_succ, List.getElem?_map, h2]; rfl
    obtain ⟨Rj, hqj⟩ := hqa (j + 1) q _ (by rw [List.getElem?_cons_succ]; exact h1) hr
    refine ⟨((Rj.sameX s2 (rd_ne Rj R0 (by omega)) R0.ins).same swl).same spc, hqj⟩
  · rintro i σ H' hi ⟨_, _, _, h, _⟩
    exact SqL.of h
  · rintro i v σ H' hv ⟨⟨x, rfl⟩, nt', sm', hpc', hwl0, W, Rs⟩
    obtain ⟨q, hq, rfl⟩ := map_at hv
    obtain ⟨hi, _⟩ := List.getElem?_eq_some_iff.mp hq
    have hid : i < ds.length := by omega
    have hd : ds[i]? = some ds[i] := List.getElem?_eq_getElem hid
    obtain ⟨Rq, hqn⟩ := Rs i q _ (Nat.le_refl _) hq hd
    have htl : (ds.take i).length = i := by rw [List.length_take]; omega
    obtain ⟨as, w1, w2, al⟩ := id W
    (walk_at "RD")
    refine tIfS_by false (fun Q hQ => ?_) (fun hc => nomatch hc) (fun _ => ?_)
    · (walk_at "RD")
      refine ⟨_, .inl (SqL.of w1), ?_⟩
      rw [List.length_map, w2, htl]
      rw [decide_eq_false (by omega)] <;> exact hQ
    · (walk_at "RD")
      refine ⟨.inl ⟨_, SqL.of w1⟩, ?_⟩
      refine ⟨q, _, n, wl, ds.take i, ds[i], rfl, Rq, hC.al _ (List.getElem_mem hid), hnn, W, by omega, fun e he z => ?_, nt', fun y H3 s3 nt3 w3 hy3 => ?_⟩
      · obtain ⟨j, hj, rfl⟩ := List.getElem_of_mem he
        rw [List.getElem_take] at z
        have hj' : j < i := by omega
        have := nd_inj hC.nd (i := j) (j := i) (by omega) hid (by rw [nm_at (List.getElem?_eq_getElem (by omega)), nm_at hd]; exact z)
        omega
      · (walk_at "RD")
        obtain ⟨Cq, dq, fq, hqi⟩ := Rq.ins
        have hwq : wl ≠ q := ne_of w1 hqi (by intro z; cases z)
        have hw3 : H3 wl = some (.lst (as.map V.ref)) := s3 _ _ hwq w1
        have hsm3 : Same H H3 := sameX_free sm' s3 hqn
        refine ⟨_, hw3, Nat.lt_of_le_of_lt (show (as.map V.ref).length ≤ 12 by rw [List.length_map]; omega) (by decide), ?_⟩
        have hyw : y ≠ wl := fun z => by
          subst z
          rw [w1] at hy3; cases hy3
        refine ⟨⟨_, rfl⟩, nt3.upd, fun b u e => ?_, ?_, hwl0, ⟨as ++ [y], by rw [upd_same, List.map_append]; rfl, ?_, fun j a d h1 h2 => ?_⟩, fun j q' d hj h1 h2 => ?_⟩
        · rw [upd_ne (ne_of_none e hwl0)]; exact hsm3 _ _ e
        · rw [upd_ne hpw]
          exact s3 _ _ (ne_of hpc' hqi (by intro z; cases z)) hpc'
        · rw [List.length_append, w2, htl, List.length_take]; show i + 1 = _; omega
        · by_cases hj : j < as.length
          · rw [List.getElem?_append_left hj] at h1
            have h2' : (ds.take i)[j]? = some d := by
              rw [List.getElem?_take_of_lt (by omega)]
              rw [List.getElem?_take_of_lt (by omega)] at h2
              exact h2
            obtain ⟨hk, dx', e⟩ := al j a d h1 h2'
            have haq : a ≠ q := way_ne_rd ⟨hk, dx', e⟩ Rq
            have haw : a ≠ wl := ne_of e w1 (by intro z; cases z)
            exact ⟨hk, dx', by rw [upd_ne haw]; exact s3 _ _ haq e⟩
          · rw [List.getElem?_append_right (by omega)] at h1
            have hj0 : j - as.length = 0 := by
              cases hh : j - as.length with
              | zero => rfl
              | succ m => rw [hh] at h1; simp at h1
            rw [hj0] at h1
            have e3 : y = a := by simpa using h1
            subst e3
            have e4 : j = i := by omega
            subst e4
            rw [List.getElem?_take_of_lt (by omega), hd] at h2
            cases h2
            exact ⟨w3.1, w3.2.imp fun dx' e => by rw [upd_ne hyw]; exact e⟩
        · obtain ⟨Rj, hqj⟩ := Rs j q' d (by omega) h1 h2
          have R3 := Rj.sameX s3 (rd_ne Rj Rq (by omega)) Rq.ins
          refine ⟨?_, hqj⟩
          obtain ⟨hz, dx', ta, e1, e2⟩ := R3
          refine ⟨hz, dx', ta, by rw [upd_ne (ne_of e1 hw3 (by intro z; cases z))]; exact e1, ?_⟩
          rw [upd_ne (fun z => by
            subst z
            rw [hw3] at e2
            have e5 := Option.some.inj e2
            injection e5 with e6
            cases as with
            | nil => exact absurd (congrArg List.length e6) (by show ¬ (0 : Nat) = 7; decide)
            | cons a r => injection e6 with e7 _; cases e7)]
          exact e2
  · rintro σ H' ⟨⟨x, rfl⟩, nt', sm', hpc', hwl0, W, Rs⟩
    rw [List.length_map, hqrl, List.take_length] at W
    obtain ⟨as, w1, w2, al⟩ := id W
    (walk_at "RD")
    refine tIfS_by false (fun Q hQ => ?_) (fun hc => nomatch hc) (fun _ => ?_)
    · (walk_at "RD")
      refine ⟨true, .inl ⟨_, SqL.of w1, ?_⟩, hQ⟩
      cases as with
      | nil => simp at w2; omega
      | cons a r => rfl
    · (walk_at "RD")
      intro c dx hc hdx hne
      have sc : Same H' (upd (upd H' dx (.own c)) c (.ins t.c_Crossing dx [])) := ((Same.refl H').updN hdx).updN hc
      refine ⟨c, dx, n, wl, ds, rfl, upd_same, W.same sc, hC.nd, hln.2, (nt'.upd).upd, fun H5 s5 nt5 C5 => ⟨rfl, ?_⟩⟩
      exact qq c H5 (sameX_free (sm'.trans sc) s5 (sm'.free hc)) nt5 C5
end
end My
namespace My
open PySem L2
/-! ### read_crossing, both ends -/
def Oc2 {α : Type} (m : Except (Nat × Nat) α) (ok : α → Prop) (er : Nat → Nat → Prop) : Prop := match m with | .ok a => ok a | .error e => er e.1 e.2
def waysP (n : Int) : List (List Str) → Nat → List WD → Except (Nat × Nat) (List WD)
  | [], _, ds => .ok ds
  | ws :: r, i, ds => if ds.length = 12 then .error (i, 0) else match wayP n (ds.map (·.name)) ws with
    | .error k => .error (i, k)
    | .ok d => waysP n r (i + 1) (ds ++ [d])
def crossP (r0 : List Str) (rest : List (List Str)) : Except (Nat × Nat) (Int × List WD) := match ringP r0 with
  | .error k => .error (0, k)
  | .ok n => match waysP n rest 1 [] with
    | .error e => .error e
    | .ok [] => .error (1, 0)
    | .ok (d :: ds) => .ok (n, d :: ds)
theorem ringP_ok {ws : List Str} {n : Int} (h : ringP ws = .ok n) : 2 ≤ n ∧ n ≤ 99 := by
  unfold ringP at h
  split at h
  · cases e : figO (wd ws 1) 2 99 with
    | none => rw [e] at h; cases h
    | some v =>
      rw [e] at h
      have hv : figV (wd ws 1) 2 99 = .int v := by rw [figV_O, e]; rfl
      have := figV_lt hv
      replace h : ringP2 ws v = .ok n := h
      unfold ringP2 at h
      split at h
      · cases h
      · cases h; exact ⟨this.2.1, this.2.2⟩
  · cases h
theorem wayP_name {n : Int} {names : List Str} {ws : List Str} {d : WD} (h : wayP n names ws = .ok d) : d.name ∉ names := by
  unfold wayP at h
  cases e0 : sortK (wd ws 0) with
  | none => rw [e0] at h; cases h
  | some k =>
    rw [e0] at h
    replace h : wayP1 n names ws k = .ok d := h
    unfold wayP1 at h
    split at h
    · rename_i hc
      unfold wayP2 at h
      cases e1 : figO (wd ws 2) 0 (n - 1) with
      | none => rw [e1] at h; cases h
      | some st =>
        rw [e1] at h
        replace h : wayP3 n ws k (wd ws 1) st = .ok d := h
        unfold wayP3 at h
        split at h
        · cases h
        · cases e2 : figO (wd ws 3) 0 (n - 1) with
          | none => rw [e2] at h; cases h
          | some fi =>
            rw [e2] at h
            replace h : wayP4 ws k (wd ws 1) st fi = .ok d := h
            unfold wayP4 at h
            cases e3 : figO (wd ws 4) 0 30 with
            | none => rw [e3] at h; cases h
            | some off =>
              rw [e3] at h
              replace h : wayP5 ws k (wd ws 1) st fi off = .ok d := h
              unfold wayP5 at h
              cases e4 : figO (wd ws 5) 0 30 with
              | none => rw [e4] at h; cases h
              | some near =>
                rw [e4] at h
                replace h : wayP6 ws k (wd ws 1) st fi off near = .ok d := h
                unfold wayP6 at h
                cases e5 : figO (wd ws 6) 1 60 with
                | none => rw [e5] at h; cases h
                | some least =>
                  rw [e5] at h
                  replace h : wayP7 ws ⟨k, wd ws 1, st, fi, off, near, least⟩ = .ok d := h
                  unfold wayP7 at h
                  split at h
                  · cases h
                  · cases h; exact hc.2
    · cases h
theorem snoc_at {α : Type} {l : List α} {a x : α} {i : Nat} (h : (l ++ [a])[i]? = some x) : (i < l.length ∧ l[i]? = some x) ∨ (i = l.length ∧ x = a) := by
  by_cases hi : i < l.length
  · rw [List.getElem?_append_left hi] at h
    exact .inl ⟨hi, h⟩
  · rw [List.getElem?_append_right (by omega)] at h
    have h0 : i - l.length = 0 := by
      cases hh : i - l.length with
      | zero => rfl
      | succ m => rw [hh] at h; simp at h
    rw [h0] at h
    exact .inr ⟨by omega, (by simpa using h : a = x).symm⟩
def RefC (t : Adr) (i k : Nat) (H : Hp) (E : XK) : Prop := ∀ dx H', Same H H' → NoT H' → H' dx = some (.ext (XD dx [(Str.ofString "row", .int i), (Str.ofString "word", .int k)])) → E (.ref t.c_NoText) (some dx) H'
def sp_rcX (t : Adr) : Sp := fun vs H Q E => ∃ x r0 rest, vs = [.str x] ∧ rowsOf x = r0 :: rest ∧ x.length ≤ 20000 ∧ rest.length ≤ 1000 ∧ (∀ r ∈ r0 :: rest, r ≠ [] ∧ r.length ≤ 1000 ∧ ∀ y ∈ r, y.length ≤ 1000) ∧ NoT H ∧
  Oc2 (crossP r0 rest) (fun m => ∀ c H', Same H H' → NoT H' → CrossAt t H' c m.1 m.2 → Q (.ref c) H') (fun i k => RefC t i k H E)
section
variable {P : Program} {w : World} {K : PySem.W.Frag} {mg : Str → Option Value} {base : Heap} {t : Adr}
theorem ok_rcX (T : Txt w K mg t) : FnOk P w K mg base (CX1 P w) 8 t.a_read_crossing t.d_read_crossing ["text"] (sp_rcX t) := by
  have G_readers : FnOk P w K mg base CX0 7 t.a_readers t.d_readers ["text"] (sp_readers t) := (ok_readers T).mono (by decide)
  have GX_read_ring : FnOk P w K mg base (CX1 P w) 7 t.a_read_ring t.d_read_ring ["reader"] (sp_ringX t) := (ok_ringX T).mono (by decide)
  have GX_read_way : FnOk P w K mg base (CX1 P w) 7 t.a_read_way t.d_read_way ["reader", "places", "ways"] (sp_wayX t) := ok_wayX T
  have GX_RowReader_refuse : FnOk P w K mg base (CX1 P w) 7 t.a_RowReader_refuse t.d_RowReader_refuse ["self"] (sp_refX t) := (ok_refX T).mono (by decide)
  have G_Crossing_init : FnOk P w K mg base CX0 6 t.a_Crossing_init t.d_Crossing_init ["self", "places", "ways"] (sp_crI t) := (ok_crI T).mono (by decide)
  have G_NoText_init : FnOk P w K mg base CX0 6 t.a_NoText_init t.d_NoText_init ["self", "row", "word"] (sp_ntI t) := (ok_ntI T).mono (by decide)
  refine T.F_read_crossing.okX sc_read_crossing (fun vs H Q E h => ?_) (fun cdv A outer s H vs Q E hr h => ?_)
  · obtain ⟨x, r0, rest, rfl, _⟩ := h; rfl
  obtain ⟨x, r0, rest, rfl, hrow, hxl, hrl, hall, nt, qq⟩ := h
  refine ⟨_, (pss_cons (ps_set (i := 1) sc_read_crossing.nd rfl (Or.inl rfl) (pe_call G_readers hr rfl T.m_readers T.k_readers T.n_readers .nil pass0 (pa_cons (pv 0) pa_nil)))
      (pss_cons (ps_set (i := 2) sc_read_crossing.nd rfl (Or.inl rfl) (pe_call GX_read_ring hr rfl T.m_read_ring T.k_read_ring T.n_read_ring .nil passes1 (pa_cons (pe_ix ix_list (pv 1) pe_int (fun _ _ => rfl)) pa_nil)))
      (pss_cons (ps_set (i := 3) sc_read_crossing.nd rfl (Or.inl rfl) (pe_lst pa_nil))
      (pss_cons (ps_for (passesOwn_A ⟨rfl, rfl⟩) rfl (pi_list (pe_slice sl_list (pv 1) (po_some pe_int) po_none)) (pg_name (i := 4) sc_read_crossing.nd rfl (Or.inl rfl)) (pss_cons (ps_if (pt_cmpR op_eq (pe_callB call_len_seq rfl T.b_len boot_b_len (pa_cons (pv 3) pa_nil)) (pe_glob rfl T.g_MOST_WAYS T.r_MOST_WAYS) (nomark _)) (pss_one (ps_expr (pe_meth0 (pv 4) T.cl_RowReader T.M_RowReader_refuse GX_RowReader_refuse hr T.n_RowReader_refuse .nil passes1))) pss_nil)
      (pss_one (ps_expr (pe_bm PySem.F.plainAttrs_list PySem.F.slot_list_append PySem.F.type_list_append mt_append (pv 3) (pa_cons (pe_call GX_read_way hr rfl T.m_read_way T.k_read_way T.n_read_way .nil passes1 (pa_cons (pv 4) (pa_cons (pv 2) (pa_cons (pv 3) pa_nil)))) pa_nil))))))
      (pss_cons (ps_if (pt_not (pt_truth (pv 3) (fun _ => rfl))) (pss_one (ps_raise (pe_makeX T.MX_NoText G_NoText_init hr rfl T.m_NoText T.n_NoText_init (pa_cons pe_int (pa_cons pe_int pa_nil))) throws1)) pss_nil)
      (pss_one (ps_ret (pe_make T.M_Crossing G_Crossing_init hr rfl T.m_Crossing T.n_Crossing_init .nil pass0 (pa_cons (pv 2) (pa_cons (pv 3) pa_nil)))))))))), ?_⟩
  have toC : ∀ {i k : Nat} {q : Addr} {H1 : Hp}, RefC t i k H E → Same H H1 → H q = none → NoT H1 → RefT t i k q H1 E := fun {i k q H1} r s n m dx H' s' n' e => r dx H' (sameX_free s s' n) (n' m) e
  (walk_at "RD")
  refine ⟨x, rfl, hxl, ?_, nt, fun p H1 sm1 nt1 R => ?_⟩
  · rw [hrow]
    exact fun r hr => (hall r hr).2
  rw [hrow] at R
  obtain ⟨qs, hp, hp0, hql, hqa⟩ := R
  obtain ⟨q0, qr, rfl⟩ : ∃ q0 qr, qs = q0 :: qr := by
    cases qs with
    | nil => simp at hql
    | cons a b => exact ⟨a, b, rfl⟩
  have hqrl : qr.length = rest.length := by simpa using hql
  obtain ⟨R0, hq0⟩ := hqa 0 q0 _ rfl rfl
  (walk_at "RD")
  refine ⟨_, SqL.of hp, _, atI_nat (j := 0) rfl, ⟨q0, _, r0, rfl, R0, by omega, nt1, ?_⟩⟩
  unfold crossP at qq
  cases er : ringP r0 with
  | error k =>
    rw [er] at qq
    exact toC qq sm1 hq0 nt1
  | ok n =>
    rw [er] at qq
    have hnn := ringP_ok er
    intro H2 s2 nt2
    (walk_at "RD")
    refine ⟨Nat.zero_le _, fun wl hwl => ?_⟩
    obtain ⟨C0, dq0, fq0, hins⟩ := R0.ins
    have hpq : p ≠ q0 := ne_of hp hins (by intro z; cases z)
    have hp2 : H2 p = some (.lst ((q0 :: qr).map V.ref)) := s2 _ _ hpq hp
    have swl : Same H2 (upd H2 wl (.lst [])) := same_new hwl
    have hcut : cutV ((q0 :: qr).map V.ref) (some 1) none = qr.map V.ref := by
      unfold cutV
      simp [HT.sIx]
      exact List.take_of_length_le (by rw [List.length_map]; exact Nat.le_refl _)
    refine ⟨_, SqL.of (swl _ _ hp2), fun pc hpc => ?_⟩
    rw [hcut]
    have hpw : pc ≠ wl := fun z => by subst z; rw [upd_same] at hpc; cases hpc
    have spc : Same (upd H2 wl (.lst [])) (upd (upd H2 wl (.lst [])) pc (.lst (qr.map V.ref))) := same_new hpc
    refine ⟨⟨_, SqL.of upd_same⟩, ?_⟩
    have sH2 : Same H H2 := sameX_free sm1 s2 hq0
    replace qq : Oc2 (match waysP n rest 1 [] with | .error e => .error e | .ok [] => .error (1, 0) | .ok (d :: ds) => .ok (n, d :: ds)) (fun m => ∀ c H', Same H H' → NoT H' → CrossAt t H' c m.1 m.2 → Q (.ref c) H') (fun i k => RefC t i k H E) := qq
    generalize hW0 : waysP n rest 1 [] = W0 at qq
    refine ForW.list (xs := qr.map V.ref) (fun i σ H' => (∃ y, σ = [some (V.str x), some (V.ref p), some (V.int n), some (V.ref wl), y]) ∧ NoT H' ∧ Same H H' ∧ H' pc = some (.lst (qr.map V.ref)) ∧ H wl = none ∧
      (∃ ds, WaysAt t H' wl ds ∧ ds.length ≤ 12 ∧ (ds.map (·.name)).Nodup ∧ waysP n (rest.drop i) (i + 1) ds = W0) ∧
      ∀ (j : Nat) (q : Addr) (r : List Str), i ≤ j → qr[j]? = some q → rest[j]? = some r → RdAt t H' q ((j + 1 : Nat) : Int) r 0 ∧ H q = none) ?_ ?_ ?_ ?_
    · refine ⟨⟨_, rfl⟩, (nt2.upd).upd, (sH2.trans swl).trans spc, upd_same, sH2.free hwl, ⟨[], ⟨[], spc _ _ upd_same, rfl, fun j a d h => by simp at h⟩, Nat.zero_le _, by simp, hW0⟩, fun j q r _ h1 h2 => ?_⟩
      obtain ⟨Rj, hqj⟩ := hqa (j + 1) q r (by rw [List.getElem?_cons_succ]; exact h1) (by rw [List.getElem?_cons_succ]; exact h2)
      exact ⟨((Rj.sameX s2 (rd_ne Rj R0 (by omega)) R0.ins).same swl).same spc, hqj⟩
    · rintro i σ H' hi ⟨_, _, _, h, _⟩
      exact SqL.of h
    · rintro i v σ H' hv ⟨⟨y, rfl⟩, nt', sm', hpc', hwl0, ⟨ds, W, hdl, hnd, hwp⟩, Rs⟩
      obtain ⟨q, hq, rfl⟩ := map_at hv
      obtain ⟨hi, _⟩ := List.getElem?_eq_some_iff.mp hq
      have hid : i < rest.length := by omega
      have hr : rest[i]? = some rest[i] := List.getElem?_eq_getElem hid
      obtain ⟨Rq, hqn⟩ := Rs i q _ (Nat.le_refl _) hq hr
      obtain ⟨as, w1, w2, al⟩ := id W
      obtain ⟨_, dq, tq, hqi, hqt⟩ := id Rq
      rw [List.drop_eq_getElem_cons hid] at hwp
      unfold waysP at hwp
      (walk_at "RD")
      refine tIfS_by (decide (ds.length = 12)) (fun Q hQ => ?_) (fun c => ?_) (fun c => ?_)
      · (walk_at "RD")
        refine ⟨_, .inl (SqL.of w1), ?_⟩
        rw [List.length_map, w2, show decide (((ds.length : Nat) : Int) = 12) = decide (ds.length = 12) by rw [Bool.eq_iff_iff, decide_eq_true_eq, decide_eq_true_eq]; omega]
        exact hQ
      · rw [if_pos (of_decide_eq_true c)] at hwp
        subst hwp
        (walk_at "RD")
        exact ⟨_, _, hqi, RdAt.no _ _ _ (by decide +kernel), ⟨q, _, rest[i], 0, rfl, Rq, by omega, by omega, toC qq sm' hqn nt'⟩⟩
      · have c' := of_decide_eq_false c
        rw [if_neg c'] at hwp
        (walk_at "RD")
        refine ⟨.inl ⟨_, SqL.of w1⟩, ?_⟩
        refine ⟨q, _, n, wl, ds, rest[i], rfl, Rq, by omega, hnn, W, hdl, nt', ?_⟩
        cases ew : wayP n (ds.map (·.name)) rest[i] with
        | error k =>
          rw [ew] at hwp
          replace hwp : Except.error (i + 1, k) = W0 := hwp
          subst hwp
          exact toC qq sm' hqn nt'
        | ok d =>
          rw [ew] at hwp
          replace hwp : waysP n (rest.drop (i + 1)) (i + 1 + 1) (ds ++ [d]) = W0 := hwp
          intro y' H3 s3 nt3 w3 hy3
          (walk_at "RD")
          have hwq : wl ≠ q := ne_of w1 hqi (by intro z; cases z)
          have hw3 : H3 wl = some (.lst (as.map V.ref)) := s3 _ _ hwq w1
          have hsm3 : Same H H3 := sameX_free sm' s3 hqn
          refine ⟨_, hw3, Nat.lt_of_le_of_lt (show (as.map V.ref).length ≤ 12 by rw [List.length_map]; omega) (by decide), ?_⟩
          have hyw : y' ≠ wl := fun z => by
            subst z
            rw [w1] at hy3; cases hy3
          refine ⟨⟨_, rfl⟩, nt3.upd, fun b u e => ?_, ?_, hwl0, ⟨ds ++ [d], ⟨as ++ [y'], by rw [upd_same, List.map_append]; rfl, by rw [List.length_append, List.length_append, w2]; rfl, fun j a e h1 h2 => ?_⟩, ?_, ?_, hwp⟩, fun j q' r hj h1 h2 => ?_⟩
          · rw [upd_ne (ne_of_none e hwl0)]; exact hsm3 _ _ e
          · rw [upd_ne hpw]
            exact s3 _ _ (ne_of hpc' hqi (by intro z; cases z)) hpc'
          · rcases snoc_at h1 with ⟨z1, z2⟩ | ⟨z1, rfl⟩
            · rcases snoc_at h2 with ⟨y1, y2⟩ | ⟨y1, _⟩
              · obtain ⟨hk, dx', e'⟩ := al j a e z2 y2
                have haq : a ≠ q := way_ne_rd ⟨hk, dx', e'⟩ Rq
                have haw : a ≠ wl := ne_of e' w1 (by intro z; cases z)
                exact ⟨hk, dx', by rw [upd_ne haw]; exact s3 _ _ haq e'⟩
              · omega
            · rcases snoc_at h2 with ⟨y1, y2⟩ | ⟨y1, rfl⟩
              · omega
              · exact ⟨w3.1, w3.2.imp fun dx' e => by rw [upd_ne hyw]; exact e⟩
          · rw [List.length_append, List.length_singleton]; omega
          · rw [List.map_append, List.map_cons, List.map_nil]
            refine List.nodup_append.mpr ⟨hnd, by simp, fun x1 hx1 y1 hy1 => ?_⟩
            rw [List.mem_singleton.mp hy1]
            exact fun z => wayP_name ew (z ▸ hx1)
          · obtain ⟨Rj, hqj⟩ := Rs j q' r (by omega) h1 h2
            have R3 := Rj.sameX s3 (rd_ne Rj Rq (by omega)) Rq.ins
            refine ⟨?_, hqj⟩
            obtain ⟨hz, dx', ta, e1, e2⟩ := R3
            refine ⟨hz, dx', ta, by rw [upd_ne (ne_of e1 hw3 (by intro z; cases z))]; exact e1, ?_⟩
            rw [upd_ne (fun z => by
              subst z
              rw [hw3] at e2
              have e5 := Option.some.inj e2
              injection e5 with e6
              have hr0 := (hall r (List.mem_cons_of_mem _ (List.mem_of_getElem? h2))).1
              cases as with
              | nil =>
                cases r with
                | nil => exact hr0 rfl
                | cons u v => cases e6
              | cons a r' =>
                cases r with
                | nil => cases e6
                | cons u v => injection e6 with e7 _; cases e7)]
            exact e2
    · rintro σ H' ⟨⟨y, rfl⟩, nt', sm', hpc', hwl0, ⟨ds, W, hdl, hnd, hwp⟩, Rs⟩
      rw [List.length_map, hqrl, List.drop_length] at hwp
      replace hwp : Except.ok ds = W0 := hwp
      subst hwp
      obtain ⟨as, w1, w2, al⟩ := id W
      (walk_at "RD")
      cases ds with
      | nil =>
        replace qq : RefC t 1 0 H E := qq
        refine tIfS_by true (fun Q hQ => ?_) (fun _ => ?_) (fun hc => nomatch hc)
        · (walk_at "RD")
          refine ⟨false, .inl ⟨_, SqL.of w1, ?_⟩, hQ⟩
          cases as with
          | nil => rfl
          | cons a r => simp at w2
        · (walk_at "RD")
          refine ⟨by decide, fun a ha => ⟨a, 1, 0, rfl, by decide, by decide, upd_same, fun d hd hne => ?_⟩⟩
          have hd0 : H' d = none := by rw [upd_ne hne] at hd; exact hd
          refine ⟨rfl, t.c_NoText, some d, by rw [upd_ne (Ne.symm hne), upd_same], T.X_NoText, qq d _ (fun b u e => ?_) ((((nt'.upd).upd).upd).upd) (by rw [upd_ne hne, upd_same]; rfl)⟩
          have e' := sm' _ _ e
          rw [upd_ne (ne_of_none e' ha), upd_ne (ne_of_none e' hd0), upd_ne (ne_of_none e' ha), upd_ne (ne_of_none e' ha)]
          exact e'
      | cons d ds' =>
        replace qq : ∀ c H', Same H H' → NoT H' → CrossAt t H' c n (d :: ds') → Q (.ref c) H' := qq
        refine tIfS_by false (fun Q hQ => ?_) (fun hc => nomatch hc) (fun _ => ?_)
        · (walk_at "RD")
          refine ⟨true, .inl ⟨_, SqL.of w1, ?_⟩, hQ⟩
          cases as with
          | nil => simp at w2
          | cons a r => rfl
        · (walk_at "RD")
          intro c dx hc hdx hne
          have sc : Same H' (upd (upd H' dx (.own c)) c (.ins t.c_Crossing dx [])) := ((Same.refl H').updN hdx).updN hc
          refine ⟨c, dx, n, wl, d :: ds', rfl, upd_same, W.same sc, hnd, hdl, (nt'.upd).upd, fun H5 s5 nt5 C5 => ⟨rfl, ?_⟩⟩
          exact qq c H5 (sameX_free (sm'.trans sc) s5 (sm'.free hc)) nt5 C5
end
end My
namespace My
open PySem L2
/-! ### where the first fault lies -/
def PlainB (x : Str) : Prop := x.length ≤ 20 ∧ (32 : Nat) ∉ x.cps.toList ∧ (10 : Nat) ∉ x.cps.toList
theorem Plain.b {x : Str} (h : Plain x) : PlainB x := ⟨Nat.le_trans h.1 (by decide), h.2⟩
theorem rows_joinB {rs : List (List Str)} (h0 : rs ≠ []) (h1 : ∀ r ∈ rs, r ≠ []) (h2 : ∀ r ∈ rs, ∀ x ∈ r, PlainB x) : rowsOf (Str.join nl (rs.map (Str.join bk))) = rs := by
  unfold rowsOf
  rw [nl_eq, bk_eq, split_join (by simpa using h0) (fun y hy => by
    obtain ⟨r, hr, rfl⟩ := List.mem_map.mp hy
    rw [join_jl]
    intro z
    rcases jl_mem z with z | ⟨p, hp, z⟩
    · cases z
    · obtain ⟨x, hx, rfl⟩ := List.mem_map.mp hp
      exact (h2 r hr x hx).2.2 z), List.map_map]
  have : ∀ r ∈ rs, ((fun r => Txt.split r ⟨#[32]⟩) ∘ Str.join ⟨#[32]⟩) r = r := fun r hr => split_join (h1 r hr) fun x hx => (h2 r hr x hx).2.1
  rw [List.map_congr_left this, List.map_id']
theorem figO_num {v lo hi : Int} (h0 : 0 ≤ v) (h1 : v < 1000) (hl : lo ≤ v) (hh : v ≤ hi) : figO (num v) lo hi = some v := figO_of (num_fig h0 h1 hl hh)
theorem sortK_sortS : ∀ k, k < 3 → sortK (sortS k) = some k := by
  intro k hk
  match k, hk with
  | 0, _ => decide +kernel
  | 1, _ => decide +kernel
  | 2, _ => decide +kernel
/-- what is bad at the j-th word of a way's row -/
def BadAt (n : Int) (names : List Str) (d : WD) (ws : List Str) : Nat → Prop
  | 0 => sortK (wd ws 0) = none
  | 1 => ¬ (made (wd ws 1) letters 8 = true ∧ wd ws 1 ∉ names)
  | 2 => figO (wd ws 2) 0 (n - 1) = none
  | 3 => wd ws 3 = num d.start ∨ figO (wd ws 3) 0 (n - 1) = none
  | 4 => figO (wd ws 4) 0 30 = none
  | 5 => figO (wd ws 5) 0 30 = none
  | 6 => figO (wd ws 6) 1 60 = none
  | 7 => 7 < ws.length
  | _ => False
theorem way_fault {n : Int} {names : List Str} {d : WD} {ws : List Str} {j : Nat} (h : WOk n d) (hn : n ≤ 99) (hx : d.name ∉ names) (ag : ∀ i, i < j → wd ws i = wd (wWords d) i) (hb : BadAt n names d ws j) : wayP n names ws = .error j := by
  have b1 := h.st; have b2 := h.fi; have b3 := h.of; have b4 := h.nr; have b5 := h.le
  have g0 : 0 < j → wayP n names ws = wayP1 n names ws d.k := fun hj => by
    unfold wayP
    rw [ag 0 hj, show wd (wWords d) 0 = sortS d.k from rfl, sortK_sortS d.k h.k]; rfl
  have g1 : 1 < j → wayP1 n names ws d.k = wayP2 n ws d.k d.name := fun hj => by
    unfold wayP1
    rw [ag 1 hj, show wd (wWords d) 1 = d.name from rfl, if_pos ⟨h.nm, hx⟩]
  have g2 : 2 < j → wayP2 n ws d.k d.name = wayP3 n ws d.k d.name d.start := fun hj => by
    unfold wayP2
    rw [ag 2 hj, show wd (wWords d) 2 = num d.start from rfl, figO_num (by omega) (by omega) (by omega) (by omega)]; rfl
  have g3 : 3 < j → wayP3 n ws d.k d.name d.start = wayP4 ws d.k d.name d.start d.fin := fun hj => by
    unfold wayP3
    rw [ag 3 hj, show wd (wWords d) 3 = num d.fin from rfl, if_neg (fun z => h.ne (num_inj (by omega) (by omega) (by omega) (by omega) z).symm), figO_num (by omega) (by omega) (by omega) (by omega)]; rfl
  have g4 : 4 < j → wayP4 ws d.k d.name d.start d.fin = wayP5 ws d.k d.name d.start d.fin d.off := fun hj => by
    unfold wayP4
    rw [ag 4 hj, show wd (wWords d) 4 = num d.off from rfl, figO_num (by omega) (by omega) (by omega) (by omega)]; rfl
  have g5 : 5 < j → wayP5 ws d.k d.name d.start d.fin d.off = wayP6 ws d.k d.name d.start d.fin d.off d.near := fun hj => by
    unfold wayP5
    rw [ag 5 hj, show wd (wWords d) 5 = num d.near from rfl, figO_num (by omega) (by omega) (by omega) (by omega)]; rfl
  have g6 : 6 < j → wayP6 ws d.k d.name d.start d.fin d.off d.near = wayP7 ws d := fun hj => by
    unfold wayP6
    rw [ag 6 hj, show wd (wWords d) 6 = num d.least from rfl, figO_num (by omega) (by omega) (by omega) (by omega)]; rfl
  match j, hb with
  | 0, hb => unfold wayP; rw [show sortK (wd ws 0) = none from hb]; rfl
  | 1, hb => rw [g0 (by decide)]; unfold wayP1; rw [if_neg hb]
  | 2, hb => rw [g0 (by decide), g1 (by decide)]; unfold wayP2; rw [show figO (wd ws 2) 0 (n - 1) = none from hb]; rfl
  | 3, hb =>
    rw [g0 (by decide), g1 (by decide), g2 (by decide)]
    unfold wayP3
    by_cases c : wd ws 3 = num d.start
    · rw [if_pos c]
    · rw [if_neg c, (show wd ws 3 = num d.start ∨ figO (wd ws 3) 0 (n - 1) = none from hb).resolve_left c]; rfl
  | 4, hb => rw [g0 (by decide), g1 (by decide), g2 (by decide), g3 (by decide)]; unfold wayP4; rw [show figO (wd ws 4) 0 30 = none from hb]; rfl
  | 5, hb => rw [g0 (by decide), g1 (by decide), g2 (by decide), g3 (by decide), g4 (by decide)]; unfold wayP5; rw [show figO (wd ws 5) 0 30 = none from hb]; rfl
  | 6, hb => rw [g0 (by decide), g1 (by decide), g2 (by decide), g3 (by decide), g4 (by decide), g5 (by decide)]; unfold wayP6; rw [show figO (wd ws 6) 1 60 = none from hb]; rfl
  | 7, hb => rw [g0 (by decide), g1 (by decide), g2 (by decide), g3 (by decide), g4 (by decide), g5 (by decide), g6 (by decide)]; unfold wayP7; rw [if_pos (show 7 < ws.length from hb)]
theorem way_good {n : Int} {names : List Str} {d : WD} (h : WOk n d) (hn : n ≤ 99) (hx : d.name ∉ names) : wayP n names (wWords d) = .ok d := by
  have b1 := h.st; have b2 := h.fi; have b3 := h.of; have b4 := h.nr; have b5 := h.le
  unfold wayP
  rw [show wd (wWords d) 0 = sortS d.k from rfl, sortK_sortS d.k h.k]
  show wayP1 n names (wWords d) d.k = _
  unfold wayP1
  rw [show wd (wWords d) 1 = d.name from rfl, if_pos ⟨h.nm, hx⟩]
  unfold wayP2
  rw [show wd (wWords d) 2 = num d.start from rfl, figO_num (by omega) (by omega) (by omega) (by omega)]
  show wayP3 n (wWords d) d.k d.name d.start = _
  unfold wayP3
  rw [show wd (wWords d) 3 = num d.fin from rfl, if_neg (fun z => h.ne (num_inj (by omega) (by omega) (by omega) (by omega) z).symm), figO_num (by omega) (by omega) (by omega) (by omega)]
  show wayP4 (wWords d) d.k d.name d.start d.fin = _
  unfold wayP4
  rw [show wd (wWords d) 4 = num d.off from rfl, figO_num (by omega) (by omega) (by omega) (by omega)]
  show wayP5 (wWords d) d.k d.name d.start d.fin d.off = _
  unfold wayP5
  rw [show wd (wWords d) 5 = num d.near from rfl, figO_num (by omega) (by omega) (by omega) (by omega)]
  show wayP6 (wWords d) d.k d.name d.start d.fin d.off d.near = _
  unfold wayP6
  rw [show wd (wWords d) 6 = num d.least from rfl, figO_num (by omega) (by omega) (by omega) (by omega)]
  show wayP7 (wWords d) d = _
  unfold wayP7
  rw [if_neg (by show ¬ 7 < 7; decide)]
theorem waysP_cons (n : Int) (ws : List Str) (r : List (List Str)) (i : Nat) (ds : List WD) : waysP n (ws :: r) i ds = if ds.length = 12 then .error (i, 0) else match wayP n (ds.map (·.name)) ws with
    | .error k => .error (i, k)
    | .ok d => waysP n r (i + 1) (ds ++ [d]) := by first | (rw [waysP]; done) | (rw [waysP]; rfl)
theorem ways_good {n : Int} (hn : n ≤ 99) (tail : List (List Str)) : ∀ (ds pre : List WD) (i : Nat), (∀ d ∈ ds, WOk n d) → ((pre ++ ds).map (·.name)).Nodup → (pre ++ ds).length ≤ 12 → waysP n (ds.map wWords ++ tail) i pre = waysP n tail (i + ds.length) (pre ++ ds)
  | [], pre, i, _, _, _ => by simp
  | d :: ds, pre, i, h, nd, hl => by
    rw [List.map_cons, List.cons_append, waysP_cons]
    have hp : pre.length ≠ 12 := by rw [List.length_append, List.length_cons] at hl; omega
    have hx : d.name ∉ pre.map (·.name) := fun z => by
      rw [List.map_append, List.map_cons] at nd
      exact (List.nodup_append.mp nd).2.2 _ z _ (List.mem_cons_self ..) rfl
    rw [if_neg hp, way_good (h d (List.mem_cons_self ..)) hn hx]
    show waysP n (ds.map wWords ++ tail) (i + 1) (pre ++ [d]) = _
    rw [ways_good hn tail ds (pre ++ [d]) (i + 1) (fun e he => h e (List.mem_cons_of_mem _ he)) (by rw [List.append_assoc]; exact nd) (by rw [List.append_assoc]; exact hl), List.append_assoc, List.length_cons, Nat.add_assoc, Nat.add_comm 1 ds.length]
    rfl
theorem ring_good {n : Int} (h : 2 ≤ n ∧ n ≤ 99) : ringP [Str.ofString "ring", num n] = .ok n := by
  unfold ringP
  rw [show wd [Str.ofString "ring", num n] 0 = Str.ofString "ring" from rfl, if_pos (by simp), show wd [Str.ofString "ring", num n] 1 = num n from rfl, figO_num (by omega) (by omega) h.1 h.2]
  show ringP2 [Str.ofString "ring", num n] n = _
  unfold ringP2
  rw [if_neg (by show ¬ 2 < 2; decide)]
/-- all is well -/
theorem cross_good {n : Int} {ds : List WD} (h : COk n ds) : crossP [Str.ofString "ring", num n] (ds.map wWords) = .ok (n, ds) := by
  unfold crossP
  rw [ring_good h.nn]
  have e := ways_good h.nn.2 [] ds [] 1 h.al (by simpa using h.nd) (by simpa using h.ln.2)
  rw [List.append_nil, List.nil_append] at e
  dsimp only
  rw [e]
  have hl := h.ln.1
  cases ds with
  | nil => simp at hl
  | cons d r => rfl
/-- a way's row has the first fault -/
theorem cross_fault {n : Int} (hn : 2 ≤ n ∧ n ≤ 99) {ds : List WD} (al : ∀ d ∈ ds, WOk n d) (nd : (ds.map (·.name)).Nodup) (hl : ds.length ≤ 11) {ws : List Str} {tail : List (List Str)} {k : Nat} (hw : wayP n (ds.map (·.name)) ws = .error k) :
    crossP [Str.ofString "ring", num n] (ds.map wWords ++ ws :: tail) = .error (ds.length + 1, k) := by
  unfold crossP
  rw [ring_good hn]
  have e := ways_good hn.2 (ws :: tail) ds [] 1 al (by simpa using nd) (by rw [List.nil_append]; omega)
  rw [List.nil_append] at e
  dsimp only
  rw [e, waysP_cons, if_neg (by omega), hw, Nat.add_comm]
/-- a row too many -/
theorem cross_over {n : Int} (hn : 2 ≤ n ∧ n ≤ 99) {ds : List WD} (al : ∀ d ∈ ds, WOk n d) (nd : (ds.map (·.name)).Nodup) (hl : ds.length = 12) {ws : List Str} {tail : List (List Str)} :
    crossP [Str.ofString "ring", num n] (ds.map wWords ++ ws :: tail) = .error (13, 0) := by
  unfold crossP
  rw [ring_good hn]
  have e := ways_good hn.2 (ws :: tail) ds [] 1 al (by simpa using nd) (by rw [List.nil_append]; omega)
  rw [List.nil_append] at e
  dsimp only
  rw [e, waysP_cons, if_pos hl, hl]
theorem cross_none {n : Int} (hn : 2 ≤ n ∧ n ≤ 99) : crossP [Str.ofString "ring", num n] [] = .error (1, 0) := by
  unfold crossP
  rw [ring_good hn]; rfl
/-- what is bad at the j-th word of the ring's row -/
def RBad (ws : List Str) : Nat → Prop
  | 0 => wd ws 0 ≠ Str.ofString "ring"
  | 1 => figO (wd ws 1) 2 99 = none
  | 2 => 2 < ws.length
  | _ => False
theorem ring_fault {n : Int} (hn : 2 ≤ n ∧ n ≤ 99) {ws : List Str} {tail : List (List Str)} {j : Nat} (ag : ∀ i, i < j → wd ws i = wd [Str.ofString "ring", num n] i) (hb : RBad ws j) : crossP ws tail = .error (0, j) := by
  have e : ringP ws = .error j := by
    unfold ringP
    match j, hb with
    | 0, hb => rw [if_neg (fun z => hb (List.mem_singleton.mp z))]
    | 1, hb =>
      rw [ag 0 (by decide), show wd [Str.ofString "ring", num n] 0 = Str.ofString "ring" from rfl, if_pos (by simp), show figO (wd ws 1) 2 99 = none from hb]; rfl
    | 2, hb =>
      rw [ag 0 (by decide), show wd [Str.ofString "ring", num n] 0 = Str.ofString "ring" from rfl, if_pos (by simp), ag 1 (by decide), show wd [Str.ofString "ring", num n] 1 = num n from rfl, figO_num (by omega) (by omega) hn.1 hn.2]
      show ringP2 ws n = _
      unfold ringP2
      rw [if_pos (show 2 < ws.length from hb)]
  unfold crossP
  rw [e]
end My
namespace My
open PySem L2
/-! ### the law asks: rows as lists of words -/
def RL (H : Hp) (p : Addr) (rows : List (List Str)) : Prop := ∃ qs : List Addr, H p = some (.lst (qs.map V.ref)) ∧ qs.length = rows.length ∧ ∀ (i : Nat) (q : Addr) (r : List Str), qs[i]? = some q → rows[i]? = some r → H q = some (.lst (strsV r))
theorem RL.same {H H' : Hp} {p : Addr} {rows : List (List Str)} (h : RL H p rows) (s : Same H H') : RL H' p rows := by
  obtain ⟨qs, e1, e2, al⟩ := h
  exact ⟨qs, s _ _ e1, e2, fun i q r h1 h2 => s _ _ (al i q r h1 h2)⟩
structure ROk (rows : List (List Str)) : Prop where
  ln : rows.length ≤ 20
  al : ∀ r ∈ rows, r ≠ [] ∧ r.length ≤ 9 ∧ ∀ x ∈ r, PlainB x
theorem sum_le {B : Nat} : ∀ {ys : List Str}, (∀ y ∈ ys, y.length ≤ B) → (ys.map (·.length)).sum ≤ ys.length * B
  | [], _ => by simp
  | a :: r, h => by
    have h1 := h a (by simp)
    have h2 := sum_le (B := B) (ys := r) fun y hy => h y (List.mem_cons_of_mem _ hy)
    rw [List.map_cons, List.sum_cons, List.length_cons, Nat.succ_mul]; omega
def askV {α : Type} (m : Except (Nat × Nat) α) : Int × Int := match m with | .ok _ => (-2, -2) | .error e => (e.1, e.2)
def sp_asked (t : Adr) : Sp := fun vs H Q _ => ∃ p r0 rest, vs = [.ref p] ∧ RL H p (r0 :: rest) ∧ ROk (r0 :: rest) ∧ NoT H ∧ ∀ tp H', Same H H' → NoT H' → H' tp = some (.tup [.int (askV (crossP r0 rest)).1, .int (askV (crossP r0 rest)).2]) → Q (.ref tp) H'
section
variable {P : Program} {w : World} {K : PySem.W.Frag} {mg : Str → Option Value} {base : Heap} {t : Adr}
theorem ok_asked (T : Txt w K mg t) : FnOk P w K mg base CX0 9 t.a__law_asked t.d__law_asked ["_law_rows_here"] (sp_asked t) := by
  have GX_read_crossing : FnOk P w K mg base (CX1 P w) 8 t.a_read_crossing t.d_read_crossing ["text"] (sp_rcX t) := ok_rcX T
  refine T.F__law_asked.ok sc__law_asked (fun vs H Q E h => ?_) (fun cdv A outer s H vs Q E hr h => ?_)
  · obtain ⟨p, r0, rest, rfl, _⟩ := h; rfl
  obtain ⟨p, r0, rest, rfl, L, hR, nt, q⟩ := h
  refine ⟨_, (pss_cons (ps_set (i := 1) sc__law_asked.nd rfl (Or.inl rfl) (pe_tup (pa_cons (pe_un un_neg pe_int) (pa_cons (pe_un un_neg pe_int) pa_nil))))
      (pss_cons (ps_tryG (i := 2) (fun _ _ => ⟨_, (pss_cons (ps_expr (pe_callX GX_read_crossing hr rfl T.m_read_crossing T.k_read_crossing T.n_read_crossing .nil passesT (pa_cons (pe_bm PySem.F.plainAttrs_str PySem.F.slot_str_join PySem.F.type_str_join mt_join pe_str (pa_cons (pe_comp rfl (pi_list (pv 0)) (cscope_of (sc := defScope s__law_asked) rfl (by decide +kernel)) (N := ["_law_row"]) (sel := [none]) (selOk_of (M := ["_law_rows_here", "_law_told", "e"]) (by decide +kernel)) (Blk.of (fun _ _ _ _ => (pg_name (i := 0) (nd_of (N := ["_law_row"]) (by decide +kernel) rfl) rfl (Or.inl rfl))) (fun _ _ _ _ => ⟨_, pts_nil, by first | rfl | (dsimp only [Cx.block]; done) | (dsimp only [Cx.block]; exact rfl)⟩) (fun _ _ _ _ => ⟨_, (pe_bm PySem.F.plainAttrs_str PySem.F.slot_str_join PySem.F.type_str_join mt_join pe_str (pa_cons (pv 0) pa_nil)), by first | rfl | (dsimp only [Cx.block]; done) | (dsimp only [Cx.block]; exact rfl)⟩))) pa_nil)) pa_nil)))
      (pss_one (ps_set (i := 1) sc__law_asked.nd rfl (Or.inl rfl) (pe_tup (pa_cons (pe_un un_neg pe_int) (pa_cons (pe_un un_neg pe_int) pa_nil)))))), by first | rfl | (dsimp only [Cx.tr, Cx.hn]; done) | (dsimp only [Cx.tr, Cx.hn]; exact rfl)⟩) rfl T.m_LampError (fun _ => ⟨_, (pss_one (ps_if (pt_val (pe_callB call_isiS rfl T.b_isinstance boot_b_isinstance (pa_cons (pv 2) (pa_cons (pe_glob (v := .ref t.c_NoText) rfl T.m_NoText rfl) pa_nil)))) (pss_one (ps_set (i := 1) sc__law_asked.nd rfl (Or.inl rfl) (pe_tup (pa_cons (pe_fldx (pv 2) rfl) (pa_cons (pe_fldx (pv 2) rfl) pa_nil))))) pss_nil)), by first | rfl | (dsimp only [Cx.tr, Cx.hn]; done) | (dsimp only [Cx.tr, Cx.hn]; exact rfl)⟩) sc__law_asked.nd rfl rfl)
      (pss_one (ps_ret (pv 1))))), ?_⟩
  (walk_at "RD")
  refine ⟨by decide, fun p0 hp0 => ?_⟩
  have s0 : Same H (upd H p0 (.tup [.int (-1), .int (-1)])) := same_new hp0
  have n0 : NoT (upd H p0 (.tup [.int (-1), .int (-1)])) := nt.upd
  generalize upd H p0 (.tup [.int (-1), .int (-1)]) = H1 at s0 n0 ⊢
  obtain ⟨qs, l1, l2, al⟩ := L.same s0
  refine ⟨⟨_, SqL.of l1⟩, ?_⟩
  have hln := hR.ln
  have hjl : ∀ r ∈ r0 :: rest, (Str.join bk r).length ≤ 200 := fun r hr => by
    have h1 := join_le bk 20 r fun x hx => ((hR.al r hr).2.2 x hx).1
    rw [len_bk] at h1
    have := (hR.al r hr).2.1
    omega
  refine CompR.list_zs (xs := qs.map V.ref) (zs := strsV (Str.join bk r0 :: rest.map (Str.join bk))) (SqL.of l1) (Nat.le_trans (show (qs.map V.ref).length ≤ 20 by rw [List.length_map, l2]; exact hln) (by decide)) (by rw [strsV_len, List.length_cons, List.length_map, List.length_map, l2, List.length_cons]) (fun i v z N hv hz hN => ?_) (fun pc hpc => ?_)
  · obtain ⟨q', hq', rfl⟩ := map_at hv
    obtain ⟨y, hy, rfl⟩ := map_at hz
    obtain ⟨r, hr, rfl⟩ := map_at (f := Str.join bk) (l := r0 :: rest) hy
    have hrm := List.mem_of_getElem? hr
    have hsum : (r.map (·.length)).sum ≤ r.length * 20 := sum_le fun x hx => ((hR.al r hrm).2.2 x hx).1
    have hrl := (hR.al r hrm).2.1
    (walk_at "RD")
    refine ⟨Sub.name, _, SqL.of (al i q' r hq' hr), ?_, ?_⟩
    · rw [show (Str.ofString " ").length = 1 by decide +kernel]
      omega
    · rw [show Txt.join (Str.ofString " ") r = Str.join bk r from StrLaws.glued_eq_join _ _]
      exact hN
  · (walk_at "RD")
    have s1 : Same H1 (upd H1 pc (.lst (strsV (Str.join bk r0 :: rest.map (Str.join bk))))) := same_new hpc
    have n1 : NoT (upd H1 pc (.lst (strsV (Str.join bk r0 :: rest.map (Str.join bk))))) := n0.upd
    have e1 : (upd H1 pc (.lst (strsV (Str.join bk r0 :: rest.map (Str.join bk))))) pc = some (.lst (strsV (Str.join bk r0 :: rest.map (Str.join bk)))) := upd_same
    generalize upd H1 pc (.lst (strsV (Str.join bk r0 :: rest.map (Str.join bk)))) = H2 at s1 n1 e1 ⊢
    have hys : ∀ y ∈ Str.join bk r0 :: rest.map (Str.join bk), y.length ≤ 200 := fun y hy => by
      obtain ⟨r, hr, rfl⟩ := List.mem_map.mp (show y ∈ (r0 :: rest).map (Str.join bk) from hy)
      exact hjl r hr
    have hyl : (Str.join bk r0 :: rest.map (Str.join bk)).length ≤ 20 := by rw [List.length_cons, List.length_map]; simpa using hln
    have hsum := sum_le hys
    have hjt : (Str.join nl (Str.join bk r0 :: rest.map (Str.join bk))).length ≤ 20000 := by
      have := join_le nl 200 _ hys
      rw [len_nl] at this
      omega
    refine ⟨_, SqL.of e1, ?_, ?_⟩
    · rw [show (Str.ofString "\n").length = 1 by decide +kernel]
      omega
    rw [show Txt.join (Str.ofString "\n") (Str.join bk r0 :: rest.map (Str.join bk)) = Str.join nl ((r0 :: rest).map (Str.join bk)) from StrLaws.glued_eq_join _ _]
    refine ⟨_, r0, rest, rfl, rows_joinB (by simp) (fun r hr => (hR.al r hr).1) (fun r hr => (hR.al r hr).2.2), hjt, by rw [List.length_cons] at hln; omega, fun r hr => ⟨(hR.al r hr).1, Nat.le_trans (hR.al r hr).2.1 (by decide), fun y hy => Nat.le_trans ((hR.al r hr).2.2 y hy).1 (by decide)⟩, n1, ?_⟩
    cases hc : crossP r0 rest with
    | ok m =>
      intro c H3 s3 n3 C
      refine ⟨by decide, fun tp htp => ?_⟩
      rw [hc] at q
      exact q tp _ (((s0.trans s1).trans s3).trans (same_new htp)) n3.upd upd_same
    | error e =>
      obtain ⟨i, k⟩ := e
      rw [hc] at q
      intro dx H3 s3 n3 hd
      (walk_at "RD")
      refine ⟨_, rfl, T.ex_NoText_LampError, fun ex hex => ?_⟩
      (walk_at "RD")
      refine tIfS_by true (fun Q hQ => ?_) (fun _ => ?_) (fun hc => nomatch hc)
      · (walk_at "RD")
        exact ⟨_, hex, hQ⟩
      · (walk_at "RD")
        refine ⟨_, _, hex, _, hd, T.X_NoText, T.nA_NoText_row, _, lookup_at [Str.ofString "row", Str.ofString "word"] 0 rfl (by decide +kernel) rfl, _, _, hex, _, hd, T.X_NoText, T.nA_NoText_word, _, lookup_at [Str.ofString "row", Str.ofString "word"] 1 rfl (by decide +kernel) rfl, by decide, fun tp htp => ?_⟩
        exact q tp _ (((s0.trans s1).trans s3).trans (same_new htp)) n3.upd upd_same
end
end My
namespace My
open PySem L2
/-! ### the law's rows -/
theorem lane_cps : ∀ j, j < 5 → (Txt.slice (Str.ofString "lane") none (some (j : Nat))).cps.toList = [108, 97, 110, 101].take j := by decide +kernel
theorem way_cps : ∀ j, j < 4 → (Txt.slice (Str.ofString "way") none (some (j : Nat))).cps.toList = [119, 97, 121].take j := by decide +kernel
def nm6 (u v k : Nat) : Str := Txt.slice (Str.ofString "lane") none (some (u : Nat)) ++ ⟨#[97 + k]⟩ ++ Txt.slice (Str.ofString "way") none (some (v : Nat))
theorem nm6_cps {u v k : Nat} (hu : u < 5) (hv : v < 4) : (nm6 u v k).cps.toList = [108, 97, 110, 101].take u ++ [97 + k] ++ [119, 97, 121].take v := by
  unfold nm6
  rw [Str.cps_append, Array.toList_append, Str.cps_append, Array.toList_append, lane_cps u hu, way_cps v hv]
theorem nm6_made {u v k : Nat} (hk : k < 12) (hu : u < 5) (hv : v < 4) : made (nm6 u v k) letters 8 = true := by
  have e := nm6_cps (k := k) hu hv
  have hl : (nm6 u v k).length = (nm6 u v k).cps.toList.length := by simp [Str.length]
  refine letters_made ?_ ?_ ?_
  · rw [hl, e, List.length_append, List.length_append, List.length_singleton]; omega
  · rw [hl, e, List.length_append, List.length_append, List.length_take, List.length_take]; simp only [List.length_cons, List.length_nil]; omega
  · intro c hc
    rw [e] at hc
    rcases List.mem_append.mp hc with hc | hc
    · rcases List.mem_append.mp hc with hc | hc
      · have := List.mem_of_mem_take hc
        simp only [List.mem_cons, List.not_mem_nil, or_false] at this
        omega
      · simp only [List.mem_cons, List.not_mem_nil, or_false] at hc
        omega
    · have := List.mem_of_mem_take hc
      simp only [List.mem_cons, List.not_mem_nil, or_false] at this
      omega
theorem nm6_inj {u v k k' : Nat} (hu : u < 5) (hv : v < 4) (e : nm6 u v k = nm6 u v k') : k = k' := by
  have := congrArg (fun x : Str => x.cps.toList) e
  simp only [nm6_cps hu hv] at this
  rw [List.append_left_inj, List.append_right_inj] at this
  have := List.cons.inj this
  omega
theorem sort_at {i : Int} (h0 : 0 ≤ i) (h1 : i < 3) : atI [V.str (Str.ofString "car"), V.str (Str.ofString "foot"), V.str (Str.ofString "tram")] i = some (.str (sortS i.toNat)) := by
  have : i = 0 ∨ i = 1 ∨ i = 2 := by omega
  rcases this with rfl | rfl | rfl
  · exact atI_nat (j := 0) rfl
  · exact atI_nat (j := 1) rfl
  · exact atI_nat (j := 2) rfl
theorem mod_up {n s j : Int} (h0 : 0 ≤ s) (h1 : s < n) (h2 : 0 ≤ j) (h3 : j < n) : (s + j) % n = if s + j < n then s + j else s + j - n := by
  split
  · rename_i h; exact Int.emod_eq_of_lt (by omega) h
  · rename_i h
    have e : s + j = (s + j - n) + n := by omega
    rw [e, Int.add_emod_right]
    have : s + j - n + n - n = s + j - n := by omega
    rw [this]
    exact Int.emod_eq_of_lt (by omega) (by omega)
theorem fin_ne {n s j : Int} (h0 : 0 ≤ s) (h1 : s < n) (h2 : 0 ≤ j) (h3 : j < n - 1) : s ≠ (s + 1 + j) % n := by
  rw [Int.add_assoc, mod_up h0 h1 (by omega) (by omega)]
  split <;> omega
theorem abc_at : ∀ k, k < 12 → atI (Str.ofString "abcdefghijkl").cps.toList ((k : Nat) : Int) = some (97 + k) := by decide +kernel
theorem cRows_snoc (n : Int) (ds : List WD) (d : WD) : cRows n (ds ++ [d]) = cRows n ds ++ [wWords d] := by
  unfold cRows
  rw [List.map_append, List.cons_append]; rfl
theorem RL.snoc {H H1 : Hp} {wl p : Addr} {rows : List (List Str)} {r : List Str} {qs : List Addr} (L : RL H wl rows) (s : Same H H1) (e : H1 p = some (.lst (strsV r))) (n : p ≠ wl) (l : H wl = some (.lst (qs.map V.ref))) : RL (upd H1 wl (.lst (qs.map V.ref ++ [.ref p]))) wl (rows ++ [r]) := by
  obtain ⟨qs', l1, l2, al⟩ := L
  have eq : qs' = qs := by
    rw [l1] at l
    have h := Option.some.inj l
    injection h with h
    exact (List.map_inj_right (fun a b z => by injection z)).mp h
  subst eq
  refine ⟨qs' ++ [p], by rw [upd_same, List.map_append]; rfl, by rw [List.length_append, List.length_append, l2]; rfl, fun i q r' h1 h2 => ?_⟩
  rcases snoc_at h1 with ⟨z1, z2⟩ | ⟨z1, rfl⟩
  · rcases snoc_at h2 with ⟨_, y2⟩ | ⟨y1, _⟩
    · have hq := al i q r' z2 y2
      have hqw : q ≠ wl := fun z => by
        subst z
        rw [l1] at hq
        have h := Option.some.inj hq
        injection h with h
        cases qs' with
        | nil => simp at z2
        | cons a b =>
          cases r' with
          | nil => cases h
          | cons c d => injection h with h3 _; cases h3
      rw [upd_ne hqw]
      exact s _ _ hq
    · omega
  · rcases snoc_at h2 with ⟨y1, _⟩ | ⟨_, rfl⟩
    · omega
    · rw [upd_ne n]; exact e
/-- the ways told: names alike but for one sign -/
structure Ds6 (n : Int) (ds : List WD) : Prop where
  al : ∀ d ∈ ds, WOk n d
  nm : ∃ u v, u < 5 ∧ v < 4 ∧ ∀ (i : Nat) (d : WD), ds[i]? = some d → d.name = nm6 u v i
theorem Ds6.nd {n : Int} {ds : List WD} (h : Ds6 n ds) : (ds.map (·.name)).Nodup := by
  obtain ⟨u, v, hu, hv, al⟩ := h.nm
  refine List.pairwise_iff_getElem.mpr fun i j hi hj hij e => ?_
  rw [List.length_map] at hi hj
  rw [List.getElem_map, List.getElem_map, al i _ (List.getElem?_eq_getElem hi), al j _ (List.getElem?_eq_getElem hj)] at e
  have := nm6_inj hu hv e
  omega
theorem Ds6.cok {n : Int} {ds : List WD} (h : Ds6 n ds) (hn : 2 ≤ n ∧ n ≤ 99) (hl : 1 ≤ ds.length ∧ ds.length ≤ 12) : COk n ds := ⟨hn, hl, h.al, h.nd⟩
def sp_lrows (K : PySem.W.Frag) (a : Addr) (ns : List Int) : Sp := fun vs H Q _ => vs = [.ref a] ∧ Sc K a ns H ∧ ∀ p n ds H', Same H H' → Sc K a ns H' → RL H' p (cRows n ds) → Ds6 n ds → (3 ≤ n ∧ n ≤ 99) → (1 ≤ ds.length ∧ ds.length ≤ 12) → Q (.ref p) H'
section
variable {P : Program} {w : World} {K : PySem.W.Frag} {mg : Str → Option Value} {base : Heap} {t : Adr}
theorem ok_lrows (T : Txt w K mg t) (a : Addr) (ns : List Int) (h63 : ns.length ≤ 63) : FnOk P w K mg base CX0 2 t.a__law_rows t.d__law_rows ["_law_script"] (sp_lrows K a ns) := by
  have G__law_draw : FnOk P w K mg base CX0 1 t.a__law_draw t.d__law_draw ["_law_script", "_law_k", "_law_many"] (sp_draw K a ns) := ok_draw T a ns h63
  refine T.F__law_rows.ok sc__law_rows (fun vs H Q E h => ?_) (fun cdv A outer s H vs Q E hr h => ?_)
  · obtain ⟨rfl, _⟩ := h; rfl
  obtain ⟨rfl, S, q⟩ := h
  refine ⟨_, (pss_cons (ps_set (i := 1) sc__law_rows.nd rfl (Or.inl rfl) pe_str)
      (pss_cons (ps_set (i := 2) sc__law_rows.nd rfl (Or.inl rfl) (pe_op op_add pe_int (pe_call G__law_draw hr rfl T.m__law_draw T.k__law_draw T.n__law_draw .nil pass0 (pa_cons (pv 0) (pa_cons pe_int (pa_cons pe_int pa_nil))))))
      (pss_cons (ps_set (i := 3) sc__law_rows.nd rfl (Or.inl rfl) (pe_lst (pa_cons (pe_lst (pa_cons pe_str (pa_cons (pe_callTy call_str_int rfl T.b_str boot_t_str (pa_cons (pv 2) pa_nil)) pa_nil))) pa_nil)))
      (pss_cons (ps_for PassesOwn.never rfl (pi_range1 rfl T.b_range (pa_cons (pe_op op_add pe_int (pe_call G__law_draw hr rfl T.m__law_draw T.k__law_draw T.n__law_draw .nil pass0 (pa_cons (pv 0) (pa_cons pe_int (pa_cons pe_int pa_nil))))) pa_nil)) (pg_name (i := 4) sc__law_rows.nd rfl (Or.inl rfl)) (pss_cons (ps_set (i := 5) sc__law_rows.nd rfl (Or.inl rfl) (pe_call G__law_draw hr rfl T.m__law_draw T.k__law_draw T.n__law_draw .nil pass0 (pa_cons (pv 0) (pa_cons (pe_op op_add pe_int (pv 4)) (pa_cons (pv 2) pa_nil)))))
      (pss_cons (ps_set (i := 6) sc__law_rows.nd rfl (Or.inl rfl) (pe_op op_mod (pe_op op_add (pe_op op_add (pv 5) pe_int) (pe_call G__law_draw hr rfl T.m__law_draw T.k__law_draw T.n__law_draw .nil pass0 (pa_cons (pv 0) (pa_cons (pe_op op_add pe_int (pv 4)) (pa_cons (pe_op op_sub (pv 2) pe_int) pa_nil))))) (pv 2)))
      (pss_cons (ps_set (i := 7) sc__law_rows.nd rfl (Or.inl rfl) (pe_op op_add_str (pe_op op_add_str (pe_slice sl_str pe_str po_none (po_some (pe_call G__law_draw hr rfl T.m__law_draw T.k__law_draw T.n__law_draw .nil pass0 (pa_cons (pv 0) (pa_cons pe_int (pa_cons pe_int pa_nil)))))) (pe_ix ix_str (pv 1) (pv 4) (fun _ _ => rfl))) (pe_slice sl_str pe_str po_none (po_some (pe_call G__law_draw hr rfl T.m__law_draw T.k__law_draw T.n__law_draw .nil pass0 (pa_cons (pv 0) (pa_cons pe_int (pa_cons pe_int pa_nil))))))))
      (pss_cons (ps_set (i := 8) sc__law_rows.nd rfl (Or.inl rfl) (pe_lst (pa_cons (pe_ix ix_list (pe_lst (pa_cons pe_str (pa_cons pe_str (pa_cons pe_str pa_nil)))) (pe_call G__law_draw hr rfl T.m__law_draw T.k__law_draw T.n__law_draw .nil pass0 (pa_cons (pv 0) (pa_cons (pe_op op_add pe_int (pv 4)) (pa_cons pe_int pa_nil)))) (fun _ _ => rfl)) (pa_cons (pv 7) (pa_cons (pe_callTy call_str_int rfl T.b_str boot_t_str (pa_cons (pv 5) pa_nil)) (pa_cons (pe_callTy call_str_int rfl T.b_str boot_t_str (pa_cons (pv 6) pa_nil)) pa_nil))))))
      (pss_cons (ps_set (i := 8) sc__law_rows.nd rfl (Or.inl rfl) (pe_op op_cat (pv 8) (pe_lst (pa_cons (pe_callTy call_str_int rfl T.b_str boot_t_str (pa_cons (pe_call G__law_draw hr rfl T.m__law_draw T.k__law_draw T.n__law_draw .nil pass0 (pa_cons (pv 0) (pa_cons (pe_op op_add pe_int (pv 4)) (pa_cons pe_int pa_nil)))) pa_nil)) (pa_cons (pe_callTy call_str_int rfl T.b_str boot_t_str (pa_cons (pe_call G__law_draw hr rfl T.m__law_draw T.k__law_draw T.n__law_draw .nil pass0 (pa_cons (pv 0) (pa_cons (pe_op op_add pe_int (pv 4)) (pa_cons pe_int pa_nil)))) pa_nil)) pa_nil)))))
      (pss_one (ps_expr (pe_bm PySem.F.plainAttrs_list PySem.F.slot_list_append PySem.F.type_list_append mt_append (pv 3) (pa_cons (pe_op op_cat (pv 8) (pe_lst (pa_cons (pe_callTy call_str_int rfl T.b_str boot_t_str (pa_cons (pe_op op_add pe_int (pe_call G__law_draw hr rfl T.m__law_draw T.k__law_draw T.n__law_draw .nil pass0 (pa_cons (pv 0) (pa_cons (pe_op op_add pe_int (pv 4)) (pa_cons pe_int pa_nil))))) pa_nil)) pa_nil))) pa_nil))))))))))
      (pss_one (ps_ret (pv 3))))))), ?_⟩
  have hbig : ∀ k : Nat, k ≤ 1000 → k ≤ sizeLine := fun k h => Nat.le_trans h (by decide)
  have d1 := draw_lo ns 1 (m := 97) (by decide)
  have d2 := draw_hi ns 1 (m := 97) (by decide)
  have d3 := draw_lo ns 2 (m := 12) (by decide)
  have d4 := draw_hi ns 2 (m := 12) (by decide)
  have u1 := draw_lo ns 3 (m := 5) (by decide)
  have u2 := draw_hi ns 3 (m := 5) (by decide)
  have v1 := draw_lo ns 4 (m := 4) (by decide)
  have v2 := draw_hi ns 4 (m := 4) (by decide)
  obtain ⟨u, hu⟩ : ∃ u : Nat, draw ns 3 5 = (u : Nat) := ⟨(draw ns 3 5).toNat, by omega⟩
  obtain ⟨v, hv⟩ : ∃ v : Nat, draw ns 4 4 = (v : Nat) := ⟨(draw ns 4 4).toNat, by omega⟩
  (walk_at "RD"; repeat (simp only [sp_draw]; walk_at "RD"))
  refine ⟨S, by omega, by omega, by decide, log_small (by omega), by decide, fun p hp => ⟨by decide, fun wl hwl => ?_⟩⟩
  have hn : 3 ≤ 3 + draw ns 1 97 ∧ 3 + draw ns 1 97 ≤ 99 := by omega
  generalize 3 + draw ns 1 97 = n at hn hwl ⊢
  have s1 : Same H (upd (upd H p (.lst [V.str (Str.ofString "ring"), V.str (num n)])) wl (.lst [V.ref p])) := (same_new hp).trans (same_new hwl)
  have S1 : Sc K a ns (upd (upd H p (.lst [V.str (Str.ofString "ring"), V.str (num n)])) wl (.lst [V.ref p])) := (S.new hp).new hwl
  have hw0 : H wl = none := (same_new (o := .lst [V.str (Str.ofString "ring"), V.str (num n)]) hp).free hwl
  have hpw : p ≠ wl := fun z => by subst z; rw [upd_same] at hwl; cases hwl
  have L1 : RL (upd (upd H p (.lst [V.str (Str.ofString "ring"), V.str (num n)])) wl (.lst [V.ref p])) wl (cRows n []) := ⟨[p], upd_same, rfl, fun i q r h1 h2 => by
    match i, h1, h2 with
    | 0, h1, h2 => cases h1; cases h2; rw [upd_ne hpw, upd_same]; rfl
    | i + 1, h1, _ => simp at h1⟩
  generalize upd (upd H p (.lst [V.str (Str.ofString "ring"), V.str (num n)])) wl (.lst [V.ref p]) = H1 at s1 S1 L1 ⊢
  refine ⟨S1, by omega, by omega, by decide, by omega, by omega, ?_⟩
  generalize hmm : (1 + draw ns 2 12).toNat = m
  refine ForW.range (fun i σ H' => Sc K a ns H' ∧ Same H H' ∧ (∃ ds, RL H' wl (cRows n ds) ∧ (∀ d ∈ ds, WOk n d) ∧ (∀ (j : Nat) (d : WD), ds[j]? = some d → d.name = nm6 u v j) ∧ ds.length = i) ∧ ∃ x1 x2 x3 x4 x5, σ = [some (.ref a), some (.str (Str.ofString "abcdefghijkl")), some (.int n), some (.ref wl), x1, x2, x3, x4, x5]) ?_ ?_ ?_
  · exact ⟨S1, s1, ⟨[], L1, fun d h => by simp at h, fun j d h => by simp at h, rfl⟩, none, none, none, none, none, rfl⟩
  · rintro i σ H' hi ⟨S2, s2, ⟨ds, L, dw, dn, hdl⟩, x1, x2, x3, x4, x5, rfl⟩
    have hi12 : i < 12 := by omega
    have g1 := draw_lo ns (40 + (i : Int)) (m := n) (by omega)
    have g2 := draw_hi ns (40 + (i : Int)) (m := n) (by omega)
    have g3 := draw_lo ns (60 + (i : Int)) (m := n - 1) (by omega)
    have g4 := draw_hi ns (60 + (i : Int)) (m := n - 1) (by omega)
    have g5 := draw_lo ns (20 + (i : Int)) (m := 3) (by decide)
    have g6 := draw_hi ns (20 + (i : Int)) (m := 3) (by decide)
    have g7 := draw_lo ns (80 + (i : Int)) (m := 31) (by decide)
    have g8 := draw_hi ns (80 + (i : Int)) (m := 31) (by decide)
    have g9 := draw_lo ns (100 + (i : Int)) (m := 31) (by decide)
    have g10 := draw_hi ns (100 + (i : Int)) (m := 31) (by decide)
    have g11 := draw_lo ns (120 + (i : Int)) (m := 60) (by decide)
    have g12 := draw_hi ns (120 + (i : Int)) (m := 60) (by decide)
    generalize hst : draw ns (40 + (i : Int)) n = st at g1 g2
    generalize hfi : (st + 1 + draw ns (60 + (i : Int)) (n - 1)) % n = fi
    have hfb : (0 ≤ fi ∧ fi < n) ∧ st ≠ fi := by
      subst hfi
      exact ⟨⟨Int.emod_nonneg _ (by omega), Int.emod_lt_of_pos _ (by omega)⟩, fin_ne g1 g2 g3 g4⟩
    simp only [gName_ap, tSeq_ap, List.set_cons_succ, List.set_cons_zero, Int.zero_add]
    refine tS_any (fun σ' H2 => H2 = H' ∧ σ' = [some (.ref a), some (.str (Str.ofString "abcdefghijkl")), some (.int n), some (.ref wl), some (.int (i : Nat)), some (.int st), x3, x4, x5]) (fun D hD _ _ _ => ?_) ?_
    · (walk_at "RD"; repeat (simp only [sp_draw]; walk_at "RD"))
      rw [hst]
      exact ⟨S2, by omega, by omega, by omega, hD _ _ ⟨rfl, rfl⟩⟩
    rintro σ2 H2 ⟨rfl, rfl⟩
    simp only [tSeq_ap]
    refine tS_any (fun σ' H3 => H3 = H2 ∧ σ' = [some (.ref a), some (.str (Str.ofString "abcdefghijkl")), some (.int n), some (.ref wl), some (.int (i : Nat)), some (.int st), some (.int fi), x4, x5]) (fun D hD _ _ _ => ?_) ?_
    · (walk_at "RD"; repeat (simp only [sp_draw]; walk_at "RD"))
      rw [hfi]
      exact ⟨S2, by omega, by omega, by omega, by omega, hD _ _ ⟨rfl, rfl⟩⟩
    rintro σ2 H3 ⟨rfl, rfl⟩
    simp only [tSeq_ap]
    refine tS_any (fun σ' H4 => H4 = H3 ∧ σ' = [some (.ref a), some (.str (Str.ofString "abcdefghijkl")), some (.int n), some (.ref wl), some (.int (i : Nat)), some (.int st), some (.int fi), some (.str (nm6 u v i)), x5]) (fun D hD _ _ _ => ?_) ?_
    · (walk_at "RD"; repeat (simp only [sp_draw]; walk_at "RD"))
      rw [hu, hv]
      have hnl : (nm6 u v i).length ≤ 8 := ((made_letters (nm6_made (k := i) hi12 (by omega) (by omega))).1).2
      unfold nm6 at hnl
      rw [len_app, len_app] at hnl
      refine ⟨S2, by omega, by omega, by decide, by decide +kernel, by decide +kernel, _, abc_at i hi12, hbig _ (by omega), S2, by omega, by omega, by decide, by decide +kernel, hbig _ (by rw [len_app]; omega), hD _ _ ⟨rfl, rfl⟩⟩
    rintro σ2 H4 ⟨rfl, rfl⟩
    simp only [tSeq_ap]
    refine tS_any (fun σ' H5 => Same H4 H5 ∧ Sc K a ns H5 ∧ ∃ pr, H5 pr = some (.lst (strsV [sortS (draw ns (20 + (i : Int)) 3).toNat, nm6 u v i, num st, num fi])) ∧
      σ' = [some (.ref a), some (.str (Str.ofString "abcdefghijkl")), some (.int n), some (.ref wl), some (.int (i : Nat)), some (.int st), some (.int fi), some (.str (nm6 u v i)), some (.ref pr)]) (fun D hD _ _ _ => ?_) ?_
    · (walk_at "RD"; repeat (simp only [sp_draw]; walk_at "RD"))
      exact ⟨by decide, fun p1 hp1 => ⟨S2.new hp1, by omega, by omega, by decide, _, SqL.of upd_same, _, sort_at g5 g6, log_small (by omega), log_small (by omega), by decide, fun pr hpr => hD _ _ ⟨(same_new hp1).trans (same_new hpr), (S2.new hp1).new hpr, pr, upd_same, rfl⟩⟩⟩
    rintro σ2 H5 ⟨s5, S5, pr, e5, rfl⟩
    simp only [tSeq_ap]
    refine tS_any (fun σ' H6 => Same H5 H6 ∧ Sc K a ns H6 ∧ ∃ pr, H6 pr = some (.lst (strsV [sortS (draw ns (20 + (i : Int)) 3).toNat, nm6 u v i, num st, num fi, num (draw ns (80 + (i : Int)) 31), num (draw ns (100 + (i : Int)) 31)])) ∧
      σ' = [some (.ref a), some (.str (Str.ofString "abcdefghijkl")), some (.int n), some (.ref wl), some (.int (i : Nat)), some (.int st), some (.int fi), some (.str (nm6 u v i)), some (.ref pr)]) (fun D hD _ _ _ => ?_) ?_
    · have e5' : ∀ (o : HO) p1, H5 p1 = none → (upd H5 p1 o) pr = some (.lst (strsV [sortS (draw ns (20 + (i : Int)) 3).toNat, nm6 u v i, num st, num fi])) := fun o p1 h => by rw [upd_ne (ne_of_none e5 h)]; exact e5
      (walk_at "RD"; repeat (simp only [sp_draw]; walk_at "RD"))
      exact ⟨S5, by omega, by omega, by decide, log_small (by omega), S5, by omega, by omega, by decide, log_small (by omega), by decide, fun p1 hp1 => ⟨_, e5' _ _ hp1, _, upd_same, show 4 + 2 ≤ sizeLine by decide, fun p2 hp2 => hD _ _ ⟨(same_new hp1).trans (same_new hp2), (S5.new hp1).new hp2, p2, upd_same, rfl⟩⟩⟩
    rintro σ2 H6 ⟨s6, S6, pr, e6, rfl⟩
    have e6' : ∀ (o : HO) p1, H6 p1 = none → (upd H6 p1 o) pr = some (.lst (strsV [sortS (draw ns (20 + (i : Int)) 3).toNat, nm6 u v i, num st, num fi, num (draw ns (80 + (i : Int)) 31), num (draw ns (100 + (i : Int)) 31)])) := fun o p1 h => by rw [upd_ne (ne_of_none e6 h)]; exact e6
    (walk_at "RD"; repeat (simp only [sp_draw]; walk_at "RD"))
    obtain ⟨qs, l1, l2, al⟩ := id (L.same (s5.trans s6))
    refine ⟨.inl ⟨_, SqL.of l1⟩, S6, by omega, by omega, by decide, log_small (by omega), by decide, fun p1 hp1 => ⟨_, e6' _ _ hp1, _, upd_same, show 6 + 1 ≤ sizeLine by decide, fun p2 hp2 => ?_⟩⟩
    have s7 := (same_new (o := .lst [V.str (num (1 + draw ns (120 + (i : Int)) 60))]) hp1).trans (same_new (o := .lst (strsV [sortS (draw ns (20 + (i : Int)) 3).toNat, nm6 u v i, num st, num fi, num (draw ns (80 + (i : Int)) 31), num (draw ns (100 + (i : Int)) 31)] ++ [V.str (num (1 + draw ns (120 + (i : Int)) 60))])) hp2)
    have S7 := (S6.new (o := .lst [V.str (num (1 + draw ns (120 + (i : Int)) 60))]) hp1).new (o := .lst (strsV [sortS (draw ns (20 + (i : Int)) 3).toNat, nm6 u v i, num st, num fi, num (draw ns (80 + (i : Int)) 31), num (draw ns (100 + (i : Int)) 31)] ++ [V.str (num (1 + draw ns (120 + (i : Int)) 60))])) hp2
    have e7 : (upd (upd H6 p1 (.lst [V.str (num (1 + draw ns (120 + (i : Int)) 60))])) p2 (.lst (strsV [sortS (draw ns (20 + (i : Int)) 3).toNat, nm6 u v i, num st, num fi, num (draw ns (80 + (i : Int)) 31), num (draw ns (100 + (i : Int)) 31)] ++ [V.str (num (1 + draw ns (120 + (i : Int)) 60))]))) p2 =
        some (.lst (strsV (wWords ⟨(draw ns (20 + (i : Int)) 3).toNat, nm6 u v i, st, fi, draw ns (80 + (i : Int)) 31, draw ns (100 + (i : Int)) 31, 1 + draw ns (120 + (i : Int)) 60⟩))) := upd_same
    have hpw2 : p2 ≠ wl := fun z => by
      subst z
      rw [upd_ne (fun z => by subst z; rw [l1] at hp1; cases hp1), l1] at hp2
      cases hp2
    generalize upd (upd H6 p1 (.lst [V.str (num (1 + draw ns (120 + (i : Int)) 60))])) p2 (.lst (strsV [sortS (draw ns (20 + (i : Int)) 3).toNat, nm6 u v i, num st, num fi, num (draw ns (80 + (i : Int)) 31), num (draw ns (100 + (i : Int)) 31)] ++ [V.str (num (1 + draw ns (120 + (i : Int)) 60))])) = H7 at s7 S7 e7 ⊢
    have l7 := s7 _ _ l1
    refine ⟨_, l7, Nat.lt_of_le_of_lt (show (qs.map V.ref).length ≤ 20 by rw [List.length_map, l2]; show (cRows n ds).length ≤ 20; unfold cRows; rw [List.length_cons, List.length_map]; omega) (by decide), ?_, ?_, ⟨ds ++ [⟨(draw ns (20 + (i : Int)) 3).toNat, nm6 u v i, st, fi, draw ns (80 + (i : Int)) 31, draw ns (100 + (i : Int)) 31, 1 + draw ns (120 + (i : Int)) 60⟩], ?_, fun d hd => ?_, fun j d hd => ?_, by rw [List.length_append, hdl]; rfl⟩, _, rfl⟩
    · exact S7.set l7 (fun ob z e => by cases e)
    · exact ((s2.trans (s5.trans s6)).trans s7).updN hw0
    · rw [cRows_snoc]
      exact RL.snoc ⟨qs, l1, l2, al⟩ s7 e7 hpw2 l1
    · rcases List.mem_append.mp hd with z | z
      · exact dw d z
      · rw [List.mem_singleton.mp z]
        exact ⟨by show (draw ns (20 + (i : Int)) 3).toNat < 3; omega, nm6_made hi12 (by omega) (by omega), ⟨g1, g2⟩, hfb.1, hfb.2, ⟨g7, by show draw ns (80 + (i : Int)) 31 ≤ 30; omega⟩, ⟨g9, by show draw ns (100 + (i : Int)) 31 ≤ 30; omega⟩, ⟨by show 1 ≤ 1 + draw ns (120 + (i : Int)) 60; omega, by show 1 + draw ns (120 + (i : Int)) 60 ≤ 60; omega⟩⟩
    · rcases snoc_at hd with ⟨_, z⟩ | ⟨z1, rfl⟩
      · exact dn j d z
      · rw [z1, hdl]
  · rintro σ H' ⟨S2, s2, ⟨ds, L, dw, dn, hdl⟩, x1, x2, x3, x4, x5, rfl⟩
    (walk_at "RD")
    exact q wl n ds H' s2 S2 L ⟨dw, u, v, by omega, by omega, dn⟩ hn (by omega)
end
end My
namespace My
open PySem L2
/-! ### words beyond their bounds -/
abbrev S (x : String) : Str := Str.ofString x
def beyR (k : Nat) : Str := [S "rings", S "100"].getD k (S "")
def beyW (n : Int) (k : Nat) : Str := [S "cars", S "toolongaw", num n, num n, S "31", S "31", S "61"].getD k (S "")
def lowR (k : Nat) : Str := [S "", S "1"].getD k (S "")
def lowW (st : Int) (k : Nat) : Str := [S "Car", S "Aa", S "-1", num st, S "-0", S "+1", S "0"].getD k (S "")
theorem num_text {v : Int} (h0 : 0 ≤ v) (h1 : v < 1000) : intText? (num v) = some v := by
  obtain ⟨a, b⟩ := num_ok h0 h1
  have h := okB_of a
  have h3 := num_len h0 (by omega)
  rw [intText_digits (digits_of_all h.2) (fun z => by have z' : cs (num v) = [] := z; have := h.1; rw [z'] at this; simp at this) (by have := cs_len (num v); have := h.1.2; omega)]
  exact congrArg some b
theorem at_strs {l : List Str} {k : Nat} (h : k < l.length) : atI (strsV l) ((k : Nat) : Int) = some (.str (l.getD k (S ""))) := by
  refine atI_nat ?_
  unfold strsV
  rw [List.getElem?_map, List.getD_eq_getElem?_getD, List.getElem?_eq_getElem h]; rfl
theorem RL.at {H : Hp} {p : Addr} {rows : List (List Str)} (L : RL H p rows) {i : Nat} {r : List Str} (h : rows[i]? = some r) : ∃ (qs : List Addr) (q : Addr), H p = some (.lst (qs.map V.ref)) ∧ atI (qs.map V.ref) ((i : Nat) : Int) = some (V.ref q) ∧ H q = some (.lst (strsV r)) ∧ qs.length = rows.length ∧ qs[i]? = some q := by
  obtain ⟨qs, l1, l2, al⟩ := L
  have hi : i < qs.length := by rw [l2]; exact (List.getElem?_eq_some_iff.mp h).1
  have hq : qs[i]? = some qs[i] := List.getElem?_eq_getElem hi
  exact ⟨qs, qs[i], l1, atI_nat (by rw [List.getElem?_map, hq]; rfl), al i _ r hq h, l2, hq⟩
def sp_bey : Sp := fun vs H Q _ => ∃ p n ds, ∃ i k : Nat, vs = [.ref p, .int (i : Nat), .int (k : Nat)] ∧ RL H p (cRows n ds) ∧ (3 ≤ n ∧ n ≤ 99) ∧ NoT H ∧ ((i = 0 ∧ k < 2) ∨ (0 < i ∧ k < 7)) ∧ Q (.str (if i = 0 then beyR k else beyW n k)) H
def sp_bey' : Sp := fun vs H Q _ => ∃ p n ds, ∃ i k : Nat, vs = [.ref p, .int (i : Nat), .int (k : Nat)] ∧ RL H p (cRows n ds) ∧ (3 ≤ n ∧ n ≤ 99) ∧ ((i = 0 ∧ k < 2) ∨ (0 < i ∧ k < 7)) ∧ ∀ H', Same H H' → Q (.str (if i = 0 then beyR k else beyW n k)) H'
def sp_low : Sp := fun vs H Q _ => ∃ p n ds, ∃ i k : Nat, ∃ st : Int, vs = [.ref p, .int (i : Nat), .int (k : Nat)] ∧ RL H p (cRows n ds) ∧ NoT H ∧ ((i = 0 ∧ k < 2) ∨ (k < 7 ∧ 0 < i ∧ ∃ d, ds[i - 1]? = some d ∧ d.start = st)) ∧ Q (.str (if i = 0 then lowR k else lowW st k)) H
def sp_low' : Sp := fun vs H Q _ => ∃ p n ds, ∃ i k : Nat, ∃ st : Int, vs = [.ref p, .int (i : Nat), .int (k : Nat)] ∧ RL H p (cRows n ds) ∧ ((i = 0 ∧ k < 2) ∨ (k < 7 ∧ 0 < i ∧ ∃ d, ds[i - 1]? = some d ∧ d.start = st)) ∧ ∀ H', Same H H' → Q (.str (if i = 0 then lowR k else lowW st k)) H'
section
variable {P : Program} {w : World} {K : PySem.W.Frag} {mg : Str → Option Value} {base : Heap} {t : Adr}
theorem ok_bey (T : Txt w K mg t) : FnOk P w K mg base CX0 1 t.a__law_beyond t.d__law_beyond ["_law_rows_here", "_law_at", "_law_word"] sp_bey := by
  refine FnOk.forget (sp := sp_bey') ?_ fun vs H Q E h => ?_
  · refine T.F__law_beyond.ok sc__law_beyond (fun vs H Q E h => ?_) (fun cdv A outer s H vs Q E hr h => ?_)
    · obtain ⟨p, n, ds, i, k, rfl, _⟩ := h; rfl
    obtain ⟨p, n, ds, i, k, rfl, L, hn, hk, q⟩ := h
    refine ⟨_, (pss_cons (ps_if (pt_cmpR op_eq (pv 1) pe_int (nomark _)) (pss_one (ps_ret (pe_ix ix_list (pe_lst (pa_cons pe_str (pa_cons pe_str pa_nil))) (pv 2) (fun _ _ => rfl)))) pss_nil)
      (pss_cons (ps_set (i := 3) sc__law_beyond.nd rfl (Or.inl rfl) (pe_callTy call_intS rfl T.b_int boot_t_int (pa_cons (pe_ix ix_list (pe_ix ix_list (pv 0) pe_int (fun _ _ => rfl)) pe_int (fun _ _ => rfl)) pa_nil)))
      (pss_one (ps_ret (pe_ix ix_list (pe_lst (pa_cons pe_str (pa_cons pe_str (pa_cons (pe_callTy call_str_int rfl T.b_str boot_t_str (pa_cons (pv 3) pa_nil)) (pa_cons (pe_callTy call_str_int rfl T.b_str boot_t_str (pa_cons (pv 3) pa_nil)) (pa_cons pe_str (pa_cons pe_str (pa_cons pe_str pa_nil)))))))) (pv 2) (fun _ _ => rfl)))))), ?_⟩
    (walk_at "RD")
    refine tIfS_by (decide (i = 0)) (fun Q hQ => ?_) (fun c => ?_) (fun c => ?_)
    · (walk_at "RD")
      rw [show decide (((i : Nat) : Int) = 0) = decide (i = 0) by rw [Bool.eq_iff_iff, decide_eq_true_eq, decide_eq_true_eq]; omega]
      exact hQ
    · have c' := of_decide_eq_true c
      (walk_at "RD")
      refine ⟨by decide, fun p1 hp1 => ⟨_, SqL.of upd_same, _, at_strs (l := [S "rings", S "100"]) (k := k) (by show k < 2; omega), ?_⟩⟩
      simp only [if_pos c'] at q
      exact q _ (same_new hp1)
    · have c' := of_decide_eq_false c
      obtain ⟨qs, q0, l1, la, lq, _⟩ := L.at (i := 0) (r := [S "ring", num n]) rfl
      (walk_at "RD")
      have hln : (num n).length ≤ 3 := num_len (by omega) (by omega)
      refine ⟨_, SqL.of l1, _, la, _, rfl, _, SqL.of lq, _, atI_nat (j := 1) rfl, _, rfl, n, num_text (by omega) (by omega), by omega, log_small (by omega), log_small (by omega), by decide, fun p1 hp1 => ⟨_, SqL.of upd_same, _, at_strs (l := [S "cars", S "toolongaw", num n, num n, S "31", S "31", S "61"]) (k := k) (by show k < 7; omega), ?_⟩⟩
      simp only [if_neg c'] at q
      exact q _ (same_new hp1)
  · obtain ⟨p, n, ds, i, k, h1, h2, h3, nt, h4, q⟩ := h
    exact ⟨nt, p, n, ds, i, k, h1, h2, h3, h4, fun H' sm => ⟨sm, q⟩⟩
theorem ok_low (T : Txt w K mg t) : FnOk P w K mg base CX0 1 t.a__law_low t.d__law_low ["_law_rows_here", "_law_at", "_law_word"] sp_low := by
  refine FnOk.forget (sp := sp_low') ?_ fun vs H Q E h => ?_
  · refine T.F__law_low.ok sc__law_low (fun vs H Q E h => ?_) (fun cdv A outer s H vs Q E hr h => ?_)
    · obtain ⟨p, n, ds, i, k, st, rfl, _⟩ := h; rfl
    obtain ⟨p, n, ds, i, k, st, rfl, L, hk, q⟩ := h
    refine ⟨_, (pss_cons (ps_if (pt_cmpR op_eq (pv 1) pe_int (nomark _)) (pss_one (ps_ret (pe_ix ix_list (pe_lst (pa_cons pe_str (pa_cons pe_str pa_nil))) (pv 2) (fun _ _ => rfl)))) pss_nil)
      (pss_one (ps_ret (pe_ix ix_list (pe_lst (pa_cons pe_str (pa_cons pe_str (pa_cons pe_str (pa_cons (pe_ix ix_list (pe_ix ix_list (pv 0) (pv 1) (fun _ _ => rfl)) pe_int (fun _ _ => rfl)) (pa_cons pe_str (pa_cons pe_str (pa_cons pe_str pa_nil)))))))) (pv 2) (fun _ _ => rfl))))), ?_⟩
    (walk_at "RD")
    refine tIfS_by (decide (i = 0)) (fun Q hQ => ?_) (fun c => ?_) (fun c => ?_)
    · (walk_at "RD")
      rw [show decide (((i : Nat) : Int) = 0) = decide (i = 0) by rw [Bool.eq_iff_iff, decide_eq_true_eq, decide_eq_true_eq]; omega]
      exact hQ
    · have c' := of_decide_eq_true c
      (walk_at "RD")
      refine ⟨by decide, fun p1 hp1 => ⟨_, SqL.of upd_same, _, at_strs (l := [S "", S "1"]) (k := k) (by show k < 2; omega), ?_⟩⟩
      simp only [if_pos c'] at q
      exact q _ (same_new hp1)
    · have c' := of_decide_eq_false c
      obtain ⟨hk7, hi0, d, hd, hst⟩ := hk.resolve_left (fun z => c' z.1)
      have hr0 : (cRows n ds)[i]? = some (wWords d) := by
        unfold cRows
        rw [show i = (i - 1) + 1 by omega, List.getElem?_cons_succ, List.getElem?_map, hd]; rfl
      obtain ⟨qs, q0, l1, la, lq, _⟩ := L.at hr0
      (walk_at "RD")
      refine ⟨_, SqL.of l1, _, la, _, rfl, _, SqL.of lq, _, atI_nat (j := 2) rfl, by decide, fun p1 hp1 => ⟨_, SqL.of upd_same, _, at_strs (l := [S "Car", S "Aa", S "-1", num d.start, S "-0", S "+1", S "0"]) (k := k) hk7, ?_⟩⟩
      simp only [if_neg c'] at q
      rw [← hst] at q
      exact q _ (same_new hp1)
  · obtain ⟨p, n, ds, i, k, st, h1, h2, nt, h4, q⟩ := h
    exact ⟨nt, p, n, ds, i, k, st, h1, h2, h4, fun H' sm => ⟨sm, q⟩⟩
end
end My
namespace My
open PySem L2
/-! ### a row spoiled -/
/-- at row i, word k lies the first fault, whatever stands in later rows -/
def Flt (rows : List (List Str)) (i k : Nat) : Prop := ∀ r0 rest, (r0 :: rest).take (i + 1) = rows.take (i + 1) → crossP r0 rest = .error (i, k)
theorem flt_ring {n : Int} (hn : 2 ≤ n ∧ n ≤ 99) {ws : List Str} {tl : List (List Str)} {k : Nat} (ag : ∀ j, j < k → wd ws j = wd [Str.ofString "ring", num n] j) (hb : RBad ws k) : Flt (ws :: tl) 0 k := fun r0 rest h => by
  have e : r0 = ws := by simpa using h
  rw [e]
  exact ring_fault hn ag hb
theorem flt_way {n : Int} (hn : 2 ≤ n ∧ n ≤ 99) {ds : List WD} (hC : COk n ds) {i k : Nat} (hi : i < ds.length) {ws : List Str} {tl : List (List Str)} (hw : wayP n ((ds.take i).map (·.name)) ws = .error k) : Flt ((cRows n ds).take (i + 1) ++ ws :: tl) (i + 1) k := fun r0 rest h => by
  have hl : ((cRows n ds).take (i + 1)).length = i + 1 := by
    rw [List.length_take]
    unfold cRows
    rw [List.length_cons, List.length_map]; omega
  have e := List.take_append_drop (i + 1 + 1) (r0 :: rest)
  rw [h, List.take_append, hl, List.take_of_length_le (by omega), show i + 1 + 1 - (i + 1) = 1 by omega] at e
  generalize (r0 :: rest).drop (i + 1 + 1) = tail at e
  have e2 : r0 :: rest = (Str.ofString "ring" :: [num n]) :: ((ds.take i).map wWords ++ ws :: tail) := by
    rw [← e]
    unfold cRows
    rw [List.take_succ_cons, ← List.map_take, List.append_assoc]; rfl
  injection e2 with e3 e4
  rw [e3, e4]
  have := cross_fault hn (ds := ds.take i) (fun d hd => hC.al d (List.mem_of_mem_take hd)) (by rw [List.map_take]; exact hC.nd.sublist (List.take_sublist _ _)) (by rw [List.length_take]; have := hC.ln.2; omega) (tail := tail) hw
  rw [List.length_take, Nat.min_eq_left (by omega)] at this
  exact this
def bad0 : List Str := [S "x1", S "", S "1000", S "1x", S "x|"]
theorem bad0_ok : ∀ x ∈ bad0, okB x = false ∧ made x letters 8 = false ∧ sortK x = none ∧ x ≠ S "ring" := by decide +kernel
theorem figO_bad {x : Str} (h : okB x = false) (lo hi : Int) : figO x lo hi = none := by
  unfold figO
  rw [h]; rfl
/-- the row's word is bad in every place -/
structure AllBad (x : Str) : Prop where
  f : okB x = false
  m : made x letters 8 = false
  s : sortK x = none
  r : x ≠ S "ring"
theorem AllBad.at {x : Str} (h : AllBad x) (n : Int) (names : List Str) (d : WD) {ws : List Str} {k : Nat} (hk : k < 7) (e : wd ws k = x) : BadAt n names d ws k := by
  match k, hk with
  | 0, _ => show sortK (wd ws 0) = none; rw [e]; exact h.s
  | 1, _ => exact fun z => by rw [e, h.m] at z; cases z.1
  | 2, _ => show figO (wd ws 2) _ _ = none; rw [e]; exact figO_bad h.f _ _
  | 3, _ => exact .inr (by rw [e]; exact figO_bad h.f _ _)
  | 4, _ => show figO (wd ws 4) _ _ = none; rw [e]; exact figO_bad h.f _ _
  | 5, _ => show figO (wd ws 5) _ _ = none; rw [e]; exact figO_bad h.f _ _
  | 6, _ => show figO (wd ws 6) _ _ = none; rw [e]; exact figO_bad h.f _ _
theorem AllBad.ring {x : Str} (h : AllBad x) {ws : List Str} {k : Nat} (hk : k < 2) (e : wd ws k = x) : RBad ws k := by
  match k, hk with
  | 0, _ => show wd ws 0 ≠ _; rw [e]; exact h.r
  | 1, _ => show figO (wd ws 1) _ _ = none; rw [e]; exact figO_bad h.f _ _
theorem wd_set_ne (row : List Str) {k i : Nat} (x : Str) (h : i ≠ k) : wd (row.set k x) i = wd row i := by
  unfold wd
  rw [List.getD_eq_getElem?_getD, List.getD_eq_getElem?_getD, List.getElem?_set_ne (Ne.symm h)]
theorem wd_set_eq {row : List Str} {k : Nat} (x : Str) (h : k < row.length) : wd (row.set k x) k = x := by
  unfold wd
  rw [List.getD_eq_getElem?_getD, List.getElem?_set_self h]; rfl
theorem wd_take (row : List Str) {k i : Nat} (h : i < k) : wd (row.take k) i = wd row i := by
  unfold wd
  rw [List.getD_eq_getElem?_getD, List.getD_eq_getElem?_getD, List.getElem?_take_of_lt h]
theorem wd_take_at (row : List Str) (k : Nat) : wd (row.take k) k = S "" := by
  unfold wd
  rw [List.getD_eq_getElem?_getD, List.getElem?_eq_none (by rw [List.length_take]; omega)]; rfl
theorem wd_app (row l : List Str) {i : Nat} (h : i < row.length) : wd (row ++ l) i = wd row i := by
  unfold wd
  rw [List.getD_eq_getElem?_getD, List.getD_eq_getElem?_getD, List.getElem?_append_left h]
theorem allBad0 {x : Str} (h : x ∈ bad0) : AllBad x := let ⟨a, b, c, d⟩ := bad0_ok x h; ⟨a, b, c, d⟩
theorem allBadE : AllBad (S "") := allBad0 (by decide +kernel)
theorem ok_zero {x : Str} (h : 1 ≤ x.length) : okB (S "0" ++ x) = false := by
  have e : cs (S "0" ++ x) = 48 :: cs x := by
    show (S "0" ++ x).cps.toList = _
    rw [Str.cps_append, Array.toList_append, show (S "0").cps.toList = [48] by decide +kernel]; rfl
  have hl := cs_len x
  unfold okB
  rw [e, List.length_cons, decide_eq_false (show ¬ (cs x).length + 1 ≤ 1 by omega)]
  simp
/-- the row and the fault's word -/
def spoil1 (way : Nat) (row : List Str) (k : Nat) (x0 xb xl x5 : Str) : List Str × Nat := match way with
  | 0 => (row.set k x0, k)
  | 1 => (row.set k xb, k)
  | 2 => (row.set k xl, k)
  | 3 => (row.take k, k)
  | 4 => (row.take k ++ [S ""] ++ row.drop k, k)
  | 5 => (row ++ [x5], row.length)
  | _ => if 1 < k then (row.set k (S "0" ++ wd row k), k) else (row, k)
def spoil (way : Nat) (row : List Str) (k : Nat) (x0 xb xl x5 : Str) : List Str × Nat :=
  if (way = 6 ∧ k < 2) ∨ (spoil1 way row k x0 xb xl x5).1 = [] then ([S ""], 0) else spoil1 way row k x0 xb xl x5
theorem bey_bad {n : Int} (hn : 3 ≤ n ∧ n ≤ 99) (names : List Str) (d : WD) {ws : List Str} {k : Nat} (hk : k < 7) (e : wd ws k = beyW n k) : BadAt n names d ws k := by
  have fn : figO (num n) 0 (n - 1) = none := by
    obtain ⟨a, b⟩ := num_ok (v := n) (by omega) (by omega)
    unfold figO
    rw [a, b, decide_eq_true (show n - 1 < n by omega), Bool.or_true]; rfl
  match k, hk with
  | 0, _ => show sortK (wd ws 0) = none; rw [e]; show sortK (S "cars") = none; decide +kernel
  | 1, _ => exact fun z => by rw [e] at z; exact absurd z.1 (by show ¬ made (S "toolongaw") letters 8 = true; decide +kernel)
  | 2, _ => show figO (wd ws 2) _ _ = none; rw [e]; exact fn
  | 3, _ => exact .inr (by rw [e]; exact fn)
  | 4, _ => show figO (wd ws 4) _ _ = none; rw [e]; show figO (S "31") 0 30 = none; decide +kernel
  | 5, _ => show figO (wd ws 5) _ _ = none; rw [e]; show figO (S "31") 0 30 = none; decide +kernel
  | 6, _ => show figO (wd ws 6) _ _ = none; rw [e]; show figO (S "61") 1 60 = none; decide +kernel
theorem low_bad (n : Int) (names : List Str) (d : WD) {ws : List Str} {k : Nat} (hk : k < 7) (e : wd ws k = lowW d.start k) : BadAt n names d ws k := by
  match k, hk with
  | 0, _ => show sortK (wd ws 0) = none; rw [e]; show sortK (S "Car") = none; decide +kernel
  | 1, _ => exact fun z => by rw [e] at z; exact absurd z.1 (by show ¬ made (S "Aa") letters 8 = true; decide +kernel)
  | 2, _ => show figO (wd ws 2) _ _ = none; rw [e]; exact figO_bad (by show okB (S "-1") = false; decide +kernel) _ _
  | 3, _ => exact .inl e
  | 4, _ => show figO (wd ws 4) _ _ = none; rw [e]; show figO (S "-0") 0 30 = none; decide +kernel
  | 5, _ => show figO (wd ws 5) _ _ = none; rw [e]; show figO (S "+1") 0 30 = none; decide +kernel
  | 6, _ => show figO (wd ws 6) _ _ = none; rw [e]; show figO (S "0") 1 60 = none; decide +kernel
theorem zero_bad {n : Int} (names : List Str) (d : WD) {ws : List Str} {k : Nat} (hk : k < 7) (h1 : 1 < k) {x : Str} (hx : 1 ≤ x.length) (e : wd ws k = S "0" ++ x) : BadAt n names d ws k := by
  have f := ok_zero hx
  match k, hk with
  | 2, _ => show figO (wd ws 2) _ _ = none; rw [e]; exact figO_bad f _ _
  | 3, _ => exact .inr (by rw [e]; exact figO_bad f _ _)
  | 4, _ => show figO (wd ws 4) _ _ = none; rw [e]; exact figO_bad f _ _
  | 5, _ => show figO (wd ws 5) _ _ = none; rw [e]; exact figO_bad f _ _
  | 6, _ => show figO (wd ws 6) _ _ = none; rw [e]; exact figO_bad f _ _
theorem wWords_len {n : Int} {d : WD} (h : WOk n d) (hn : n ≤ 99) {k : Nat} (h1 : 1 < k) (hk : k < 7) : 1 ≤ (wd (wWords d) k).length := by
  have b1 := h.st; have b2 := h.fi; have b3 := h.of; have b4 := h.nr; have b5 := h.le
  have nl : ∀ v : Int, 0 ≤ v → v < 1000 → 1 ≤ (num v).length := fun v h0 h1 => by
    have := (okB_of (num_ok h0 h1).1).1.1
    rw [cs_len] at this
    exact this
  match k, hk with
  | 2, _ => exact nl _ b1.1 (by omega)
  | 3, _ => exact nl _ b2.1 (by omega)
  | 4, _ => exact nl _ b3.1 (by omega)
  | 5, _ => exact nl _ b4.1 (by omega)
  | 6, _ => exact nl _ (by omega) (by omega)
theorem spoil_way {n : Int} (hn : 3 ≤ n ∧ n ≤ 99) {names : List Str} {d : WD} (h : WOk n d) (hx : d.name ∉ names) {way k : Nat} (hw : way < 7) (hk : k < 7) {x0 x5 : Str} (h0 : x0 ∈ bad0) :
    wayP n names (spoil way (wWords d) k x0 (beyW n k) (lowW d.start k) x5).1 = .error (spoil way (wWords d) k x0 (beyW n k) (lowW d.start k) x5).2 := by
  have hl : (wWords d).length = 7 := rfl
  have fault := fun {ws j} => way_fault (ws := ws) (j := j) h hn.2 hx
  have none0 : wayP n names [S ""] = .error 0 := fault (fun i hi => absurd hi (by omega)) (allBadE.at n names d (by decide) rfl)
  unfold spoil
  split
  · exact none0
  · rename_i hc
    have setL : ∀ (x : Str), BadAt n names d ((wWords d).set k x) k → wayP n names ((wWords d).set k x) = .error k := fun x hb => fault (fun i hi => wd_set_ne _ _ (by omega)) hb
    match way, hw, hc with
    | 0, _, _ => exact setL _ ((allBad0 h0).at n names d hk (wd_set_eq _ (by omega)))
    | 1, _, _ => exact setL _ (bey_bad hn names d hk (wd_set_eq _ (by omega)))
    | 2, _, _ => exact setL _ (low_bad n names d hk (wd_set_eq _ (by omega)))
    | 3, _, _ => exact fault (fun i hi => wd_take _ hi) (allBadE.at n names d hk (wd_take_at _ _))
    | 4, _, _ =>
      have lt : ((wWords d).take k).length = k := by rw [List.length_take]; omega
      refine fault (fun i hi => ?_) (allBadE.at n names d hk ?_)
      · show wd ((wWords d).take k ++ [S ""] ++ (wWords d).drop k) i = _
        have hi' : i < k := hi
        rw [List.append_assoc, wd_app _ _ (by omega), wd_take _ hi']
      · show wd ((wWords d).take k ++ [S ""] ++ (wWords d).drop k) k = _
        unfold wd
        rw [List.getD_eq_getElem?_getD, List.append_assoc, List.getElem?_append_right (by omega), lt, Nat.sub_self]; rfl
    | 5, _, _ =>
      refine fault (fun i hi => wd_app _ _ hi) ?_
      show 7 < (wWords d ++ [x5]).length
      rw [List.length_append, hl, List.length_singleton]; decide
    | 6, _, hc =>
      have h1 : 1 < k := by
        refine Classical.byContradiction fun z => hc (.inl ⟨rfl, by omega⟩)
      show wayP n names (if 1 < k then ((wWords d).set k (S "0" ++ wd (wWords d) k), k) else (wWords d, k)).1 = .error (if 1 < k then ((wWords d).set k (S "0" ++ wd (wWords d) k), k) else (wWords d, k)).2
      rw [if_pos h1]
      exact setL _ (zero_bad names d hk h1 (wWords_len h hn.2 h1 hk) (wd_set_eq _ (by omega)))
theorem spoil_ring {n : Int} (hn : 3 ≤ n ∧ n ≤ 99) {way k : Nat} (hw : way < 7) (hk : k < 2) {x0 x5 : Str} (h0 : x0 ∈ bad0) {tl : List (List Str)} :
    Flt ((spoil way [S "ring", num n] k x0 (beyR k) (lowR k) x5).1 :: tl) 0 (spoil way [S "ring", num n] k x0 (beyR k) (lowR k) x5).2 := by
  have fault := fun {ws j} => flt_ring (n := n) ⟨by omega, hn.2⟩ (ws := ws) (tl := tl) (k := j)
  unfold spoil
  split
  · exact fault (fun i hi => absurd hi (by omega)) (allBadE.ring (by decide) rfl)
  · rename_i hc
    have setL : ∀ (x : Str), RBad ([S "ring", num n].set k x) k → Flt ([S "ring", num n].set k x :: tl) 0 k := fun x hb => fault (fun i hi => wd_set_ne _ _ (by omega)) hb
    have hl : [S "ring", num n].length = 2 := rfl
    match way, hw, hc with
    | 0, _, _ => exact setL _ ((allBad0 h0).ring hk (wd_set_eq _ (by omega)))
    | 1, _, _ =>
      refine setL _ ?_
      match k, hk with
      | 0, _ => show S "rings" ≠ S "ring"; decide +kernel
      | 1, _ => show figO (S "100") 2 99 = none; decide +kernel
    | 2, _, _ =>
      refine setL _ ?_
      match k, hk with
      | 0, _ => show S "" ≠ S "ring"; decide +kernel
      | 1, _ => show figO (S "1") 2 99 = none; decide +kernel
    | 3, _, _ => exact fault (fun i hi => wd_take _ hi) (allBadE.ring hk (wd_take_at _ _))
    | 4, _, _ =>
      have lt : ([S "ring", num n].take k).length = k := by rw [List.length_take]; omega
      refine fault (fun i hi => ?_) (allBadE.ring hk ?_)
      · show wd ([S "ring", num n].take k ++ [S ""] ++ [S "ring", num n].drop k) i = _
        have hi' : i < k := hi
        rw [List.append_assoc, wd_app _ _ (by omega), wd_take _ hi']
      · show wd ([S "ring", num n].take k ++ [S ""] ++ [S "ring", num n].drop k) k = _
        unfold wd
        rw [List.getD_eq_getElem?_getD, List.append_assoc, List.getElem?_append_right (by omega), lt, Nat.sub_self]; rfl
    | 5, _, _ =>
      refine fault (fun i hi => wd_app _ _ hi) ?_
      show 2 < ([S "ring", num n] ++ [x5]).length
      rw [List.length_append, hl, List.length_singleton]; decide
    | 6, _, hc => exact absurd (Or.inl ⟨rfl, hk⟩) hc
end My
namespace My
open PySem L2
/-! ### _law_spoiled -/
def cur (c way : Nat) (row : List Str) (k : Nat) (x0 xb xl x5 : Str) : List Str × Nat := if way < c then spoil1 way row k x0 xb xl x5 else (row, k)
theorem cur_at {c : Nat} {row : List Str} {k : Nat} {x0 xb xl x5 : Str} : cur c c row k x0 xb xl x5 = (row, k) := by unfold cur; rw [if_neg (by omega)]
theorem cur_hit {c : Nat} {row : List Str} {k : Nat} {x0 xb xl x5 : Str} : cur (c + 1) c row k x0 xb xl x5 = spoil1 c row k x0 xb xl x5 := by unfold cur; rw [if_pos (by omega)]
theorem cur_miss {c way : Nat} {row : List Str} {k : Nat} {x0 xb xl x5 : Str} (h : way ≠ c) : cur (c + 1) way row k x0 xb xl x5 = cur c way row k x0 xb xl x5 := by
  unfold cur
  by_cases z : way < c
  · rw [if_pos z, if_pos (by omega)]
  · rw [if_neg z, if_neg (by omega)]
theorem strsV_set (l : List Str) (k : Nat) (x : Str) : (strsV l).set k (.str x) = strsV (l.set k x) := by unfold strsV; rw [List.map_set]
theorem ix_in {m k : Nat} (h : k < m) : ixN m ((k : Nat) : Int) = some k := by
  unfold ixN
  rw [if_pos (by omega), if_pos (by omega), Int.toNat_natCast]
theorem cut_to {xs : List V} {k : Nat} (h : k ≤ xs.length) : cutV xs none (some ((k : Nat) : Int)) = xs.take k := by
  unfold cutV
  rw [HT.sIx_nat, Nat.min_eq_left h, HT.sIx_none]
  simp
theorem cut_from {xs : List V} {k : Nat} (h : k ≤ xs.length) : cutV xs (some ((k : Nat) : Int)) none = xs.drop k := by
  unfold cutV
  rw [HT.sIx_nat, Nat.min_eq_left h, HT.sIx_none]
  exact List.take_of_length_le (by rw [List.length_drop]; exact Nat.le_refl _)
theorem strsV_take (l : List Str) (k : Nat) : (strsV l).take k = strsV (l.take k) := by unfold strsV; rw [List.map_take]
theorem strsV_drop (l : List Str) (k : Nat) : (strsV l).drop k = strsV (l.drop k) := by unfold strsV; rw [List.map_drop]
theorem strsV_app (l r : List Str) : strsV l ++ strsV r = strsV (l ++ r) := by unfold strsV; rw [List.map_append]
theorem getD_mem {l : List Str} {k : Nat} (h : k < l.length) (d : Str) : l.getD k d ∈ l := by
  rw [List.getD_eq_getElem?_getD, List.getElem?_eq_getElem h]
  exact List.getElem_mem h
def RQ (H : Hp) (qs : List Addr) (rows : List (List Str)) : Prop := qs.length = rows.length ∧ ∀ (i : Nat) (q : Addr) (r : List Str), qs[i]? = some q → rows[i]? = some r → H q = some (.lst (strsV r))
theorem RQ.take {H : Hp} {qs : List Addr} {rows : List (List Str)} (h : RQ H qs rows) (k : Nat) : RQ H (qs.take k) (rows.take k) := by
  refine ⟨by rw [List.length_take, List.length_take, h.1], fun i q r h1 h2 => ?_⟩
  rw [List.getElem?_take] at h1 h2
  by_cases c : i < k
  · rw [if_pos c] at h1 h2; exact h.2 i q r h1 h2
  · rw [if_neg c] at h1; cases h1
theorem RQ.drop {H : Hp} {qs : List Addr} {rows : List (List Str)} (h : RQ H qs rows) (k : Nat) : RQ H (qs.drop k) (rows.drop k) := by
  refine ⟨by rw [List.length_drop, List.length_drop, h.1], fun i q r h1 h2 => ?_⟩
  rw [List.getElem?_drop] at h1 h2
  exact h.2 _ q r h1 h2
theorem RQ.app {H : Hp} {qs qs' : List Addr} {rows rows' : List (List Str)} (h : RQ H qs rows) (h' : RQ H qs' rows') : RQ H (qs ++ qs') (rows ++ rows') := by
  refine ⟨by rw [List.length_append, List.length_append, h.1, h'.1], fun i q r h1 h2 => ?_⟩
  rw [List.getElem?_append] at h1 h2
  rw [h.1] at h1
  by_cases c : i < rows.length
  · rw [if_pos c] at h1 h2; exact h.2 i q r h1 h2
  · rw [if_neg c] at h1 h2; exact h'.2 _ q r h1 h2
theorem RQ.one {H : Hp} {p : Addr} {r : List Str} (e : H p = some (.lst (strsV r))) : RQ H [p] [r] := ⟨rfl, fun i q r' h1 h2 => by
  match i, h1, h2 with
  | 0, h1, h2 => cases h1; cases h2; exact e
  | i + 1, h1, _ => simp at h1⟩
theorem RQ.same {H H' : Hp} {qs : List Addr} {rows : List (List Str)} (h : RQ H qs rows) (s : Same H H') : RQ H' qs rows := ⟨h.1, fun i q r h1 h2 => s _ _ (h.2 i q r h1 h2)⟩
def GoodR (r : List Str) : Prop := r ≠ [] ∧ r.length ≤ 9 ∧ ∀ x ∈ r, PlainB x
theorem GoodR.e : GoodR [S ""] := ⟨by simp, by decide, fun x hx => by rw [List.mem_singleton.mp hx]; exact ⟨by decide +kernel, by decide +kernel, by decide +kernel⟩⟩
theorem spoil_plain {way k : Nat} {row : List Str} {x0 xb xl x5 : Str} (hw : way < 7) (hr : ∀ x ∈ row, Plain x) (hl : row.length ≤ 7) (hk : k < row.length) (h0 : PlainB x0) (hb : PlainB xb) (hlw : PlainB xl) (h5 : PlainB x5) :
    GoodR (spoil way row k x0 xb xl x5).1 := by
  unfold spoil
  split
  · exact GoodR.e
  · rename_i hc
    refine ⟨fun z => hc (.inr z), ?_⟩
    have setG : ∀ x, PlainB x → (row.set k x).length ≤ 9 ∧ ∀ y ∈ row.set k x, PlainB y := fun x hx => by
      refine ⟨by rw [List.length_set]; omega, fun y hy => ?_⟩
      rcases List.mem_or_eq_of_mem_set hy with z | z
      · exact (hr y z).b
      · rw [z]; exact hx
    match way, hw, hc with
    | 0, _, _ => exact setG _ h0
    | 1, _, _ => exact setG _ hb
    | 2, _, _ => exact setG _ hlw
    | 3, _, _ => exact ⟨by show (row.take k).length ≤ 9; rw [List.length_take]; omega, fun y hy => (hr y (List.mem_of_mem_take hy)).b⟩
    | 4, _, _ =>
      refine ⟨?_, fun y hy => ?_⟩
      · show (row.take k ++ [S ""] ++ row.drop k).length ≤ 9
        rw [List.length_append, List.length_append, List.length_take, List.length_drop, List.length_singleton]; omega
      · have hy' : y ∈ row.take k ++ [S ""] ++ row.drop k := hy
        rcases List.mem_append.mp hy' with z | z
        · rcases List.mem_append.mp z with z | z
          · exact (hr y (List.mem_of_mem_take z)).b
          · exact GoodR.e.2.2 y z
        · exact (hr y (List.mem_of_mem_drop z)).b
    | 5, _, _ =>
      refine ⟨?_, fun y hy => ?_⟩
      · show (row ++ [x5]).length ≤ 9
        rw [List.length_append, List.length_singleton]; omega
      · have hy' : y ∈ row ++ [x5] := hy
        rcases List.mem_append.mp hy' with z | z
        · exact (hr y z).b
        · rw [List.mem_singleton.mp z]; exact h5
    | 6, _, _ =>
      show (if 1 < k then (row.set k (S "0" ++ wd row k), k) else (row, k)).1.length ≤ 9 ∧ ∀ x ∈ (if 1 < k then (row.set k (S "0" ++ wd row k), k) else (row, k)).1, PlainB x
      split
      · have hp := hr _ (getD_mem hk (S ""))
        have e0 : (S "0").cps.toList = [48] := by decide +kernel
        have e1 : (S "0" ++ wd row k).cps.toList = 48 :: (wd row k).cps.toList := by rw [Str.cps_append, Array.toList_append, e0]; rfl
        refine setG _ ⟨?_, ?_, ?_⟩
        · rw [len_app, show (S "0").length = 1 by decide +kernel]
          have hp1 : (wd row k).length ≤ 8 := hp.1
          omega
        · rw [e1, List.mem_cons]
          exact fun z => z.elim (by decide) hp.2.1
        · rw [e1, List.mem_cons]
          exact fun z => z.elim (by decide) hp.2.2
      · exact ⟨by show row.length ≤ 9; omega, fun y hy => (hr y hy).b⟩
theorem bad0_plain : ∀ x ∈ bad0, PlainB x := by unfold PlainB; decide +kernel
theorem tail_plain : ∀ j, j < 3 → PlainB ([S "1", S "", S "way"].getD j (S "")) := by unfold PlainB; decide +kernel
theorem bey_plain {n : Int} (hn : 3 ≤ n ∧ n ≤ 99) {i k : Nat} (h : (i = 0 ∧ k < 2) ∨ (0 < i ∧ k < 7)) : PlainB (if i = 0 then beyR k else beyW n k) := by
  rcases h with ⟨z, hk⟩ | ⟨z, hk⟩
  · rw [if_pos z]
    have : ∀ k, k < 2 → PlainB (beyR k) := by unfold PlainB; decide +kernel
    exact this k hk
  · rw [if_neg (by omega)]
    have hnp := (plain_num (v := n) (by omega) (by omega)).b
    match k, hk with
    | 0, _ => show PlainB (S "cars"); unfold PlainB; decide +kernel
    | 1, _ => show PlainB (S "toolongaw"); unfold PlainB; decide +kernel
    | 2, _ => exact hnp
    | 3, _ => exact hnp
    | 4, _ => show PlainB (S "31"); unfold PlainB; decide +kernel
    | 5, _ => show PlainB (S "31"); unfold PlainB; decide +kernel
    | 6, _ => show PlainB (S "61"); unfold PlainB; decide +kernel
theorem low_plain {st : Int} {i k : Nat} (hs : i = 0 ∨ (0 ≤ st ∧ st < 99)) (h : (i = 0 ∧ k < 2) ∨ (0 < i ∧ k < 7)) : PlainB (if i = 0 then lowR k else lowW st k) := by
  rcases h with ⟨z, hk⟩ | ⟨z, hk⟩
  · rw [if_pos z]
    have : ∀ k, k < 2 → PlainB (lowR k) := by unfold PlainB; decide +kernel
    exact this k hk
  · rw [if_neg (by omega)]
    have hs' := hs.resolve_left (by omega)
    match k, hk with
    | 0, _ => show PlainB (S "Car"); unfold PlainB; decide +kernel
    | 1, _ => show PlainB (S "Aa"); unfold PlainB; decide +kernel
    | 2, _ => show PlainB (S "-1"); unfold PlainB; decide +kernel
    | 3, _ => exact (plain_num hs'.1 (by omega)).b
    | 4, _ => show PlainB (S "-0"); unfold PlainB; decide +kernel
    | 5, _ => show PlainB (S "+1"); unfold PlainB; decide +kernel
    | 6, _ => show PlainB (S "0"); unfold PlainB; decide +kernel
theorem cRows_good {n : Int} {ds : List WD} (hC : COk n ds) : ∀ r ∈ cRows n ds, GoodR r := fun r hr => by
  refine ⟨?_, ?_, fun x hx => (hC.plain r hr x hx).b⟩
  all_goals
    unfold cRows at hr
    rcases List.mem_cons.mp hr with z | z
    · rw [z]; first | decide | simp
    · obtain ⟨d, _, rfl⟩ := List.mem_map.mp z
      first | (show 7 ≤ 9; decide) | (unfold wWords; simp)
theorem splice_ok {rows : List (List Str)} {r : List Str} {i : Nat} (h : ∀ r ∈ rows, GoodR r) (hr : GoodR r) (hl : rows.length ≤ 13) : ROk (rows.take i ++ [r] ++ rows.drop (i + 1)) := by
  refine ⟨?_, fun x hx => ?_⟩
  · rw [List.length_append, List.length_append, List.length_take, List.length_drop, List.length_singleton]; omega
  · rcases List.mem_append.mp hx with z | z
    · rcases List.mem_append.mp z with z | z
      · exact h x (List.mem_of_mem_take z)
      · rw [List.mem_singleton.mp z]; exact hr
    · exact h x (List.mem_of_mem_drop z)
def sp_spoiled (K : PySem.W.Frag) (a : Addr) (ns : List Int) : Sp := fun vs H Q _ => ∃ p n ds, vs = [.ref a, .ref p] ∧ Sc K a ns H ∧ RL H p (cRows n ds) ∧ Ds6 n ds ∧ (3 ≤ n ∧ n ≤ 99) ∧ (1 ≤ ds.length ∧ ds.length ≤ 12) ∧
  ∀ tp rl rows (i k : Nat) H', Same H H' → Sc K a ns H' → H' tp = some (.tup [.ref rl, .int (i : Nat), .int (k : Nat)]) → RL H' rl rows → ROk rows → rows ≠ [] → Flt rows i k → Q (.ref tp) H'
section
variable {P : Program} {w : World} {K : PySem.W.Frag} {mg : Str → Option Value} {base : Heap} {t : Adr}
theorem ok_spoiled (T : Txt w K mg t) (a : Addr) (ns : List Int) (h63 : ns.length ≤ 63) : FnOk P w K mg base CX0 2 t.a__law_spoiled t.d__law_spoiled ["_law_script", "_law_rows_here"] (sp_spoiled K a ns) := by
  have G__law_draw : FnOk P w K mg base CX0 1 t.a__law_draw t.d__law_draw ["_law_script", "_law_k", "_law_many"] (sp_draw K a ns) := ok_draw T a ns h63
  have G__law_beyond : FnOk P w K mg base CX0 1 t.a__law_beyond t.d__law_beyond ["_law_rows_here", "_law_at", "_law_word"] sp_bey := ok_bey T
  have G__law_low : FnOk P w K mg base CX0 1 t.a__law_low t.d__law_low ["_law_rows_here", "_law_at", "_law_word"] sp_low := ok_low T
  refine T.F__law_spoiled.ok sc__law_spoiled (fun vs H Q E h => ?_) (fun cdv A outer s H vs Q E hr h => ?_)
  · obtain ⟨p, n, ds, rfl, _⟩ := h; rfl
  obtain ⟨p, n, ds, rfl, S0, L, D, hn, hl, q⟩ := h
  have hU := hr.units
  refine ⟨_, (pss_cons (ps_set (i := 2) sc__law_spoiled.nd rfl (Or.inl rfl) (pe_call G__law_draw hr rfl T.m__law_draw T.k__law_draw T.n__law_draw .nil pass0 (pa_cons (pv 0) (pa_cons pe_int (pa_cons (pe_callB call_len_seq rfl T.b_len boot_b_len (pa_cons (pv 1) pa_nil)) pa_nil)))))
      (pss_cons (ps_set (i := 3) sc__law_spoiled.nd rfl (Or.inl rfl) (pe_call G__law_draw hr rfl T.m__law_draw T.k__law_draw T.n__law_draw .nil pass0 (pa_cons (pv 0) (pa_cons pe_int (pa_cons (pe_callB call_len_seq rfl T.b_len boot_b_len (pa_cons (pe_ix ix_list (pv 1) (pv 2) (fun _ _ => rfl)) pa_nil)) pa_nil)))))
      (pss_cons (ps_set (i := 4) sc__law_spoiled.nd rfl (Or.inl rfl) (pe_call G__law_draw hr rfl T.m__law_draw T.k__law_draw T.n__law_draw .nil pass0 (pa_cons (pv 0) (pa_cons pe_int (pa_cons pe_int pa_nil)))))
      (pss_cons (ps_set (i := 5) sc__law_spoiled.nd rfl (Or.inl rfl) (pe_callTy call_list_of rfl T.b_list boot_t_list (pa_cons (pe_ix ix_list (pv 1) (pv 2) (fun _ _ => rfl)) pa_nil)))
      (pss_cons (ps_if (pt_cmpR op_eq (pv 4) pe_int (nomark _)) (pss_one (ps_asg (pe_ix ix_list (pe_lst (pa_cons pe_str (pa_cons pe_str (pa_cons pe_str (pa_cons pe_str (pa_cons pe_str pa_nil)))))) (pe_call G__law_draw hr rfl T.m__law_draw T.k__law_draw T.n__law_draw .nil pass0 (pa_cons (pv 0) (pa_cons pe_int (pa_cons pe_int pa_nil)))) (fun _ _ => rfl)) (pg_sub (pv 5) (pv 3) set_list))) pss_nil)
      (pss_cons (ps_if (pt_cmpR op_eq (pv 4) pe_int (nomark _)) (pss_one (ps_asg (pe_call G__law_beyond hr rfl T.m__law_beyond T.k__law_beyond T.n__law_beyond .nil pass0 (pa_cons (pv 1) (pa_cons (pv 2) (pa_cons (pv 3) pa_nil)))) (pg_sub (pv 5) (pv 3) set_list))) pss_nil)
      (pss_cons (ps_if (pt_cmpR op_eq (pv 4) pe_int (nomark _)) (pss_one (ps_asg (pe_call G__law_low hr rfl T.m__law_low T.k__law_low T.n__law_low .nil pass0 (pa_cons (pv 1) (pa_cons (pv 2) (pa_cons (pv 3) pa_nil)))) (pg_sub (pv 5) (pv 3) set_list))) pss_nil)
      (pss_cons (ps_if (pt_cmpR op_eq (pv 4) pe_int (nomark _)) (pss_one (ps_set (i := 5) sc__law_spoiled.nd rfl (Or.inl rfl) (pe_slice sl_list (pv 5) po_none (po_some (pv 3))))) pss_nil)
      (pss_cons (ps_if (pt_cmpR op_eq (pv 4) pe_int (nomark _)) (pss_one (ps_set (i := 5) sc__law_spoiled.nd rfl (Or.inl rfl) (pe_op op_cat (pe_op op_cat (pe_slice sl_list (pv 5) po_none (po_some (pv 3))) (pe_lst (pa_cons pe_str pa_nil))) (pe_slice sl_list (pv 5) (po_some (pv 3)) po_none)))) pss_nil)
      (pss_cons (ps_if (pt_cmpR op_eq (pv 4) pe_int (nomark _)) (pss_cons (ps_set (i := 3) sc__law_spoiled.nd rfl (Or.inl rfl) (pe_callB call_len_seq rfl T.b_len boot_b_len (pa_cons (pv 5) pa_nil)))
      (pss_one (ps_set (i := 5) sc__law_spoiled.nd rfl (Or.inl rfl) (pe_op op_cat (pv 5) (pe_lst (pa_cons (pe_ix ix_list (pe_lst (pa_cons pe_str (pa_cons pe_str (pa_cons pe_str pa_nil)))) (pe_call G__law_draw hr rfl T.m__law_draw T.k__law_draw T.n__law_draw .nil pass0 (pa_cons (pv 0) (pa_cons pe_int (pa_cons pe_int pa_nil)))) (fun _ _ => rfl)) pa_nil)))))) pss_nil)
      (pss_cons (ps_if (PW.pt (pw_and (pt_cmpR op_eq (pv 4) pe_int (nomark _)) (pw_and1 (pt_cmpR op_gt (pv 3) pe_int (nomark _))))) (pss_one (ps_asg (pe_op op_add_str pe_str (pe_ix ix_list (pv 5) (pv 3) (fun _ _ => rfl))) (pg_sub (pv 5) (pv 3) set_list))) pss_nil)
      (pss_cons (ps_if (PW.pt (pw_or (PW.pt (pw_and (pt_cmpR op_eq (pv 4) pe_int (nomark _)) (pw_and1 (pt_cmpR op_lt (pv 3) pe_int (nomark _))))) (pw_or1 (pt_cmpR (op_eqL hU) (pv 5) (pe_lst pa_nil) (nomark _))))) (pss_cons (ps_set (i := 5) sc__law_spoiled.nd rfl (Or.inl rfl) (pe_lst (pa_cons pe_str pa_nil)))
      (pss_one (ps_set (i := 3) sc__law_spoiled.nd rfl (Or.inl rfl) pe_int))) pss_nil)
      (pss_one (ps_ret (pe_tup (pa_cons (pe_op op_cat (pe_op op_cat (pe_slice sl_list (pv 1) po_none (po_some (pv 2))) (pe_lst (pa_cons (pv 5) pa_nil))) (pe_slice sl_list (pv 1) (po_some (pe_op op_add (pv 2) pe_int)) po_none)) (pa_cons (pv 2) (pa_cons (pv 3) pa_nil)))))))))))))))))), ?_⟩
  have hC := D.cok (by omega) hl
  have hrl : (cRows n ds).length = ds.length + 1 := by unfold cRows; rw [List.length_cons, List.length_map]
  obtain ⟨qs, l1, l2, al⟩ := id L
  have hql : (qs.map V.ref).length = ds.length + 1 := by rw [List.length_map, l2, hrl]
  have d1 := draw_lo ns 5 (m := ((ds.length + 1 : Nat) : Int)) (by omega)
  have d2 := draw_hi ns 5 (m := ((ds.length + 1 : Nat) : Int)) (by omega)
  obtain ⟨i, hi⟩ : ∃ i : Nat, draw ns 5 ((ds.length + 1 : Nat) : Int) = (i : Nat) := ⟨(draw ns 5 ((ds.length + 1 : Nat) : Int)).toNat, by omega⟩
  have hil : i < ds.length + 1 := by omega
  have hrow : (cRows n ds)[i]? = some (cRows n ds)[i] := List.getElem?_eq_getElem (by omega)
  obtain ⟨qs', q0, l1', la, lq, _, hq0⟩ := L.at hrow
  obtain ⟨row, hrw⟩ : ∃ row, row = (cRows n ds)[i] := ⟨_, rfl⟩
  rw [← hrw] at lq hrow
  have hrlen : row.length = if i = 0 then 2 else 7 := by
    subst hrw
    cases i with
    | zero => rfl
    | succ j =>
      rw [if_neg (by omega)]
      unfold cRows
      rw [List.getElem_cons_succ, List.getElem_map]; rfl
  have d3 := draw_lo ns 6 (m := ((row.length : Nat) : Int)) (by rw [hrlen]; split <;> decide)
  have d4 := draw_hi ns 6 (m := ((row.length : Nat) : Int)) (by rw [hrlen]; split <;> decide)
  obtain ⟨k, hk⟩ : ∃ k : Nat, draw ns 6 ((row.length : Nat) : Int) = (k : Nat) := ⟨(draw ns 6 ((row.length : Nat) : Int)).toNat, by omega⟩
  have hkl : k < row.length := by omega
  have d5 := draw_lo ns 7 (m := 7) (by decide)
  have d6 := draw_hi ns 7 (m := 7) (by decide)
  obtain ⟨way, hway⟩ : ∃ way : Nat, draw ns 7 7 = (way : Nat) := ⟨(draw ns 7 7).toNat, by omega⟩
  simp only [tSeq_ap]
  refine tS_any (fun σ' H' => H' = H ∧ σ' = [some (.ref a), some (.ref p), some (.int (i : Nat)), none, none, none]) (fun D' hD _ _ _ => ?_) ?_
  · (walk_at "RD"; repeat (simp only [sp_draw]; walk_at "RD"))
    refine ⟨_, .inl (SqL.of l1), ?_⟩
    rw [hql, hi]
    exact ⟨S0, by omega, by omega, by omega, hD _ _ ⟨rfl, rfl⟩⟩
  rintro σ1 H1 ⟨rfl, rfl⟩
  simp only [tSeq_ap]
  refine tS_any (fun σ' H' => H' = H1 ∧ σ' = [some (.ref a), some (.ref p), some (.int (i : Nat)), some (.int (k : Nat)), none, none]) (fun D' hD _ _ _ => ?_) ?_
  · (walk_at "RD"; repeat (simp only [sp_draw]; walk_at "RD"))
    refine ⟨_, SqL.of l1', _, la, _, rfl, _, .inl (SqL.of lq), ?_⟩
    rw [strsV_len, hk]
    exact ⟨S0, by omega, by omega, by omega, hD _ _ ⟨rfl, rfl⟩⟩
  rintro σ1 H2 ⟨rfl, rfl⟩
  simp only [tSeq_ap]
  refine tS_any (fun σ' H' => H' = H2 ∧ σ' = [some (.ref a), some (.ref p), some (.int (i : Nat)), some (.int (k : Nat)), some (.int (way : Nat)), none]) (fun D' hD _ _ _ => ?_) ?_
  · (walk_at "RD"; repeat (simp only [sp_draw]; walk_at "RD"))
    rw [hway]
    exact ⟨S0, by omega, by omega, by decide, hD _ _ ⟨rfl, rfl⟩⟩
  rintro σ1 H3 ⟨rfl, rfl⟩
  have x0 := draw_lo ns 8 (m := 5) (by decide)
  have x0' := draw_hi ns 8 (m := 5) (by decide)
  have x5 := draw_lo ns 8 (m := 3) (by decide)
  have x5' := draw_hi ns 8 (m := 3) (by decide)
  obtain ⟨j0, hj0⟩ : ∃ j : Nat, draw ns 8 5 = (j : Nat) := ⟨(draw ns 8 5).toNat, by omega⟩
  obtain ⟨j5, hj5⟩ : ∃ j : Nat, draw ns 8 3 = (j : Nat) := ⟨(draw ns 8 3).toNat, by omega⟩
  have hj0l : j0 < 5 := by omega
  have hj5l : j5 < 3 := by omega
  obtain ⟨w0, hw0⟩ : ∃ w0, w0 = bad0.getD j0 (S "") := ⟨_, rfl⟩
  obtain ⟨w5, hw5⟩ : ∃ w5, w5 = [S "1", S "", S "way"].getD j5 (S "") := ⟨_, rfl⟩
  obtain ⟨wb, hwb⟩ : ∃ wb, wb = if i = 0 then beyR k else beyW n k := ⟨_, rfl⟩
  obtain ⟨st, hst⟩ : ∃ st : Int, i = 0 ∨ ∃ d, ds[i - 1]? = some d ∧ d.start = st := by
    by_cases c : i = 0
    · exact ⟨0, .inl c⟩
    · exact ⟨ds[i - 1].start, .inr ⟨ds[i - 1], List.getElem?_eq_getElem (by omega), rfl⟩⟩
  obtain ⟨wl, hwl⟩ : ∃ wl, wl = if i = 0 then lowR k else lowW st k := ⟨_, rfl⟩
  have hik : (i = 0 ∧ k < 2) ∨ (0 < i ∧ k < 7) := by
    by_cases z : i = 0
    · exact .inl ⟨z, by rw [hrlen, if_pos z] at hkl; exact hkl⟩
    · exact .inr ⟨by omega, by rw [hrlen, if_neg z] at hkl; exact hkl⟩
  have hpl : ∀ x ∈ row, Plain x := hC.plain row (List.mem_of_getElem? hrow)
  have hbig : ∀ m : Nat, m ≤ 1000 → m ≤ sizeLine := fun m h => Nat.le_trans h (by decide)
  have hr7 : row.length ≤ 7 := by rw [hrlen]; split <;> decide
  let R : Nat → St → Hp → Prop := fun c σ' H' => Same H3 H' ∧ Sc K a ns H' ∧ ∃ pr, H3 pr = none ∧ H' pr = some (.lst (strsV (cur c way row k w0 wb wl w5).1)) ∧
    σ' = [some (.ref a), some (.ref p), some (.int (i : Nat)), some (.int ((cur c way row k w0 wb wl w5).2 : Nat)), some (.int (way : Nat)), some (.ref pr)]
  simp only [tSeq_ap]
  refine tS_any (R 0) (fun D' hD _ _ _ => ?_) ?_
  · (walk_at "RD")
    refine ⟨_, SqL.of l1', _, la, _, rfl, _, .inl (SqL.of lq), fun pr hpr => hD _ _ ⟨same_new hpr, S0.new hpr, pr, hpr, ?_, ?_⟩⟩
    · rw [upd_same]; rfl
    · rfl
  rintro σ1 H4 ⟨s4, S4, pr, hpr0, e4, rfl⟩
  simp only [tSeq_ap]
  refine tS_any (R 1) (fun D' hD _ _ _ => ?_) ?_
  · refine tIfS_by (decide (way = 0)) (fun Q hQ => ?_) (fun hc => ?_) (fun hc => ?_)
    · (walk_at "RD")
      rw [show decide (((way : Nat) : Int) = 0) = decide (way = 0) by rw [Bool.eq_iff_iff, decide_eq_true_eq, decide_eq_true_eq]; omega]
      exact hQ
    · have hc := of_decide_eq_true hc
      subst hc
      rw [cur_at] at e4
      rw [cur_at]
      (walk_at "RD"; repeat (simp only [sp_draw]; walk_at "RD"))
      refine ⟨by decide, fun p1 hp1 => ⟨S4.new hp1, by omega, by omega, by decide, _, SqL.of upd_same, _, by rw [hj0]; exact at_strs (l := bad0) (k := j0) hj0l, ?_⟩⟩
      have hpp : pr ≠ p1 := ne_of_none e4 hp1
      refine ⟨_, by rw [upd_ne hpp]; exact e4, k, by rw [strsV_len]; exact ix_in hkl, ?_⟩
      refine hD _ _ ⟨(s4.trans (same_new hp1)).updN hpr0, (S4.new hp1).set (by rw [upd_ne hpp]; exact e4) (fun ob z e => by cases e), pr, hpr0, ?_, ?_⟩
      · rw [upd_same, cur_hit, ← hw0, strsV_set]; rfl
      · rw [cur_hit]; rfl
    · have hc := of_decide_eq_false hc
      (walk_at "RD")
      exact hD _ _ ⟨s4, S4, pr, hpr0, by rw [cur_miss hc]; exact e4, by rw [cur_miss hc]⟩
  clear e4 hpr0 S4 s4
  rintro σ1 H4 ⟨s4, S4, pr, hpr0, e4, rfl⟩
  simp only [tSeq_ap]
  refine tS_any (R 2) (fun D' hD _ _ _ => ?_) ?_
  · refine tIfS_by (decide (way = 1)) (fun Q hQ => ?_) (fun hc => ?_) (fun hc => ?_)
    · (walk_at "RD")
      rw [show decide (((way : Nat) : Int) = 1) = decide (way = 1) by rw [Bool.eq_iff_iff, decide_eq_true_eq, decide_eq_true_eq]; omega]
      exact hQ
    · have hc := of_decide_eq_true hc
      subst hc
      rw [cur_at] at e4
      rw [cur_at]
      (walk_at "RD")
      refine ⟨p, n, ds, i, k, rfl, L.same s4, hn, S4.nt, hik, ?_⟩
      (walk_at "RD")
      refine ⟨_, e4, k, by rw [strsV_len]; exact ix_in hkl, ?_⟩
      refine hD _ _ ⟨s4.updN hpr0, S4.set e4 (fun ob z e => by cases e), pr, hpr0, ?_, ?_⟩
      · rw [upd_same, cur_hit, ← hwb, strsV_set]; rfl
      · rw [cur_hit]; rfl
    · have hc := of_decide_eq_false hc
      (walk_at "RD")
      exact hD _ _ ⟨s4, S4, pr, hpr0, by rw [cur_miss hc]; exact e4, by rw [cur_miss hc]⟩
  clear e4 hpr0 S4 s4
  rintro σ1 H4 ⟨s4, S4, pr, hpr0, e4, rfl⟩
  simp only [tSeq_ap]
  refine tS_any (R 3) (fun D' hD _ _ _ => ?_) ?_
  · refine tIfS_by (decide (way = 2)) (fun Q hQ => ?_) (fun hc => ?_) (fun hc => ?_)
    · (walk_at "RD")
      rw [show decide (((way : Nat) : Int) = 2) = decide (way = 2) by rw [Bool.eq_iff_iff, decide_eq_true_eq, decide_eq_true_eq]; omega]
      exact hQ
    · have hc := of_decide_eq_true hc
      subst hc
      rw [cur_at] at e4
      rw [cur_at]
      (walk_at "RD")
      refine ⟨p, n, ds, i, k, st, rfl, L.same s4, S4.nt, ?_, ?_⟩
      · rcases hst with z | ⟨d, hd1, hd2⟩
        · exact .inl ⟨z, by rw [hrlen, if_pos z] at hkl; exact hkl⟩
        · by_cases z : i = 0
          · exact .inl ⟨z, by rw [hrlen, if_pos z] at hkl; exact hkl⟩
          · exact .inr ⟨by rw [hrlen, if_neg z] at hkl; exact hkl, by omega, d, hd1, hd2⟩
      (walk_at "RD")
      refine ⟨_, e4, k, by rw [strsV_len]; exact ix_in hkl, ?_⟩
      refine hD _ _ ⟨s4.updN hpr0, S4.set e4 (fun ob z e => by cases e), pr, hpr0, ?_, ?_⟩
      · rw [upd_same, cur_hit, ← hwl, strsV_set]; rfl
      · rw [cur_hit]; rfl
    · have hc := of_decide_eq_false hc
      (walk_at "RD")
      exact hD _ _ ⟨s4, S4, pr, hpr0, by rw [cur_miss hc]; exact e4, by rw [cur_miss hc]⟩
  clear e4 hpr0 S4 s4
  rintro σ1 H4 ⟨s4, S4, pr, hpr0, e4, rfl⟩
  simp only [tSeq_ap]
  refine tS_any (R 4) (fun D' hD _ _ _ => ?_) ?_
  · refine tIfS_by (decide (way = 3)) (fun Q hQ => ?_) (fun hc => ?_) (fun hc => ?_)
    · (walk_at "RD")
      rw [show decide (((way : Nat) : Int) = 3) = decide (way = 3) by rw [Bool.eq_iff_iff, decide_eq_true_eq, decide_eq_true_eq]; omega]
      exact hQ
    · have hc := of_decide_eq_true hc
      subst hc
      rw [cur_at] at e4
      rw [cur_at]
      (walk_at "RD")
      refine ⟨_, SqL.of e4, fun p1 hp1 => ?_⟩
      refine hD _ _ ⟨s4.trans (same_new hp1), S4.new hp1, p1, s4.free hp1, ?_, ?_⟩
      · rw [upd_same, cur_hit, cut_to (xs := strsV row) (k := k) (by rw [strsV_len]; exact Nat.le_of_lt hkl), strsV_take]; rfl
      · rw [cur_hit]; rfl
    · have hc := of_decide_eq_false hc
      (walk_at "RD")
      exact hD _ _ ⟨s4, S4, pr, hpr0, by rw [cur_miss hc]; exact e4, by rw [cur_miss hc]⟩
  clear e4 hpr0 S4 s4
  rintro σ1 H4 ⟨s4, S4, pr, hpr0, e4, rfl⟩
  simp only [tSeq_ap]
  refine tS_any (R 5) (fun D' hD _ _ _ => ?_) ?_
  · refine tIfS_by (decide (way = 4)) (fun Q hQ => ?_) (fun hc => ?_) (fun hc => ?_)
    · (walk_at "RD")
      rw [show decide (((way : Nat) : Int) = 4) = decide (way = 4) by rw [Bool.eq_iff_iff, decide_eq_true_eq, decide_eq_true_eq]; omega]
      exact hQ
    · have hc := of_decide_eq_true hc
      subst hc
      rw [cur_at] at e4
      rw [cur_at]
      (walk_at "RD")
      refine ⟨_, SqL.of e4, fun p1 hp1 => ?_⟩
      rw [cut_to (xs := strsV row) (k := k) (by rw [strsV_len]; exact Nat.le_of_lt hkl), strsV_take]
      have sa := same_new (o := .lst (strsV (row.take k))) hp1
      have Sa := S4.new (o := .lst (strsV (row.take k))) hp1
      have ea : (upd H4 p1 (.lst (strsV (row.take k)))) p1 = some (.lst (strsV (row.take k))) := upd_same
      generalize upd H4 p1 (.lst (strsV (row.take k))) = Ha at sa Sa ea ⊢
      refine ⟨by decide, fun p2 hp2 => ?_⟩
      have sb := same_new (o := .lst [V.str (Str.ofString "")]) hp2
      have Sb := Sa.new (o := .lst [V.str (Str.ofString "")]) hp2
      have eb : (upd Ha p2 (.lst [V.str (Str.ofString "")])) p2 = some (.lst [V.str (Str.ofString "")]) := upd_same
      generalize upd Ha p2 (.lst [V.str (Str.ofString "")]) = Hb at sb Sb eb ⊢
      have lt : (row.take k).length ≤ 7 := by rw [List.length_take]; omega
      refine ⟨_, sb _ _ ea, _, eb, hbig _ (by rw [strsV_len, List.length_singleton]; omega), fun p3 hp3 => ?_⟩
      have sc := same_new (o := .lst (strsV (row.take k) ++ [V.str (Str.ofString "")])) hp3
      have Sc' := Sb.new (o := .lst (strsV (row.take k) ++ [V.str (Str.ofString "")])) hp3
      have ec : (upd Hb p3 (.lst (strsV (row.take k) ++ [V.str (Str.ofString "")]))) p3 = some (.lst (strsV (row.take k) ++ [V.str (Str.ofString "")])) := upd_same
      generalize upd Hb p3 (.lst (strsV (row.take k) ++ [V.str (Str.ofString "")])) = Hc at sc Sc' ec ⊢
      refine ⟨_, SqL.of (sc _ _ (sb _ _ (sa _ _ e4))), fun p4 hp4 => ?_⟩
      rw [cut_from (xs := strsV row) (k := k) (by rw [strsV_len]; exact Nat.le_of_lt hkl), strsV_drop]
      have sd := same_new (o := .lst (strsV (row.drop k))) hp4
      have Sd := Sc'.new (o := .lst (strsV (row.drop k))) hp4
      have ed : (upd Hc p4 (.lst (strsV (row.drop k)))) p4 = some (.lst (strsV (row.drop k))) := upd_same
      generalize upd Hc p4 (.lst (strsV (row.drop k))) = Hd at sd Sd ed ⊢
      refine ⟨_, sd _ _ ec, _, ed, hbig _ (by rw [List.length_append, strsV_len, strsV_len, List.length_singleton, List.length_drop]; omega), fun p5 hp5 => ?_⟩
      have sall := (((s4.trans sa).trans sb).trans sc).trans sd
      refine hD _ _ ⟨sall.trans (same_new hp5), Sd.new hp5, p5, sall.free hp5, ?_, ?_⟩
      · rw [upd_same, cur_hit, show strsV (row.take k) ++ [V.str (Str.ofString "")] = strsV (row.take k ++ [S ""]) from strsV_app _ [S ""], strsV_app]; rfl
      · rw [cur_hit]; rfl
    · have hc := of_decide_eq_false hc
      (walk_at "RD")
      exact hD _ _ ⟨s4, S4, pr, hpr0, by rw [cur_miss hc]; exact e4, by rw [cur_miss hc]⟩
  clear e4 hpr0 S4 s4
  rintro σ1 H4 ⟨s4, S4, pr, hpr0, e4, rfl⟩
  simp only [tSeq_ap]
  refine tS_any (R 6) (fun D' hD _ _ _ => ?_) ?_
  · refine tIfS_by (decide (way = 5)) (fun Q hQ => ?_) (fun hc => ?_) (fun hc => ?_)
    · (walk_at "RD")
      rw [show decide (((way : Nat) : Int) = 5) = decide (way = 5) by rw [Bool.eq_iff_iff, decide_eq_true_eq, decide_eq_true_eq]; omega]
      exact hQ
    · have hc := of_decide_eq_true hc
      subst hc
      rw [cur_at] at e4
      rw [cur_at]
      (walk_at "RD"; repeat (simp only [sp_draw]; walk_at "RD"))
      refine ⟨_, .inl (SqL.of e4), by decide, fun p1 hp1 => ?_⟩
      have sa := same_new (o := .lst [V.str (Str.ofString "1"), V.str (Str.ofString ""), V.str (Str.ofString "way")]) hp1
      have Sa := S4.new (o := .lst [V.str (Str.ofString "1"), V.str (Str.ofString ""), V.str (Str.ofString "way")]) hp1
      have ea : (upd H4 p1 (.lst [V.str (Str.ofString "1"), V.str (Str.ofString ""), V.str (Str.ofString "way")])) p1 = some (.lst (strsV [S "1", S "", S "way"])) := upd_same
      generalize upd H4 p1 (.lst [V.str (Str.ofString "1"), V.str (Str.ofString ""), V.str (Str.ofString "way")]) = Ha at sa Sa ea ⊢
      refine ⟨Sa, by omega, by omega, by decide, _, SqL.of ea, _, by rw [hj5]; exact at_strs (l := [S "1", S "", S "way"]) (k := j5) hj5l, by decide, fun p2 hp2 => ?_⟩
      rw [← hw5]
      have sb := same_new (o := .lst [V.str w5]) hp2
      have Sb := Sa.new (o := .lst [V.str w5]) hp2
      have eb : (upd Ha p2 (.lst [V.str w5])) p2 = some (.lst [V.str w5]) := upd_same
      generalize upd Ha p2 (.lst [V.str w5]) = Hb at sb Sb eb ⊢
      refine ⟨_, sb _ _ (sa _ _ e4), _, eb, hbig _ (show (strsV row).length + 1 ≤ 1000 by rw [strsV_len]; omega), fun p3 hp3 => ?_⟩
      have sall := (s4.trans sa).trans sb
      refine hD _ _ ⟨sall.trans (same_new hp3), Sb.new hp3, p3, sall.free hp3, ?_, ?_⟩
      · rw [upd_same, cur_hit, show strsV row ++ [V.str w5] = strsV (row ++ [w5]) from strsV_app _ [w5]]; rfl
      · rw [cur_hit, strsV_len]; rfl
    · have hc := of_decide_eq_false hc
      (walk_at "RD")
      exact hD _ _ ⟨s4, S4, pr, hpr0, by rw [cur_miss hc]; exact e4, by rw [cur_miss hc]⟩
  clear e4 hpr0 S4 s4
  rintro σ1 H4 ⟨s4, S4, pr, hpr0, e4, rfl⟩
  have c6 : ¬ way = 6 → (cur 7 way row k w0 wb wl w5) = cur 6 way row k w0 wb wl w5 := fun h => cur_miss h
  simp only [tSeq_ap]
  refine tS_any (R 7) (fun D' hD _ _ _ => ?_) ?_
  · refine tIfS_by (decide (way = 6) && decide (1 < (cur 6 way row k w0 wb wl w5).2)) (fun Q hQ => ?_) (fun hc => ?_) (fun hc => ?_)
    · (walk_at "RD")
      rw [show decide (((way : Nat) : Int) = 6) = decide (way = 6) by rw [Bool.eq_iff_iff, decide_eq_true_eq, decide_eq_true_eq]; omega]
      cases hw6 : decide (way = 6) with
      | false => rw [hw6] at hQ; exact hQ
      | true =>
        rw [hw6] at hQ
        rw [show decide ((1 : Int) < ((cur 6 way row k w0 wb wl w5).2 : Nat)) = decide (1 < (cur 6 way row k w0 wb wl w5).2) by rw [Bool.eq_iff_iff, decide_eq_true_eq, decide_eq_true_eq]; omega]
        exact hQ
    · rw [Bool.and_eq_true, decide_eq_true_eq, decide_eq_true_eq] at hc
      obtain ⟨hc, hk1⟩ := hc
      subst hc
      rw [cur_at] at e4 hk1
      rw [cur_at]
      (walk_at "RD")
      have hx8 := (hpl _ (getD_mem hkl (S ""))).1
      refine ⟨_, SqL.of e4, _, at_strs hkl, _, rfl, hbig _ ?_, _, e4, k, by rw [strsV_len]; exact ix_in hkl, ?_⟩
      · show (Str.ofString "0").length + (row.getD k (S "")).length ≤ 1000
        rw [show (Str.ofString "0").length = 1 by decide +kernel]; omega
      · refine hD _ _ ⟨s4.updN hpr0, S4.set e4 (fun ob z e => by cases e), pr, hpr0, ?_, ?_⟩
        · rw [upd_same, cur_hit, strsV_set, show spoil1 6 row k w0 wb wl w5 = (row.set k (S "0" ++ wd row k), k) by show (if 1 < k then _ else (row, k)) = _; rw [if_pos hk1]]; first | done | rfl
        · rw [cur_hit, show spoil1 6 row k w0 wb wl w5 = (row.set k (S "0" ++ wd row k), k) by show (if 1 < k then _ else (row, k)) = _; rw [if_pos hk1]]
    · (walk_at "RD")
      refine hD _ _ ⟨s4, S4, pr, hpr0, ?_, ?_⟩
      all_goals
        rw [Bool.and_eq_false_iff, decide_eq_false_iff_not, decide_eq_false_iff_not] at hc
        by_cases z : way = 6
        · subst z
          have hk1 := hc.resolve_left (fun z => z rfl)
          rw [cur_at] at hk1
          rw [cur_at] at e4
          rw [cur_hit, show spoil1 6 row k w0 wb wl w5 = (row, k) by show (if 1 < k then _ else (row, k)) = _; rw [if_neg hk1]]
          (first | done | exact e4 | rfl)
        · rw [c6 z]
          (first | done | exact e4 | rfl)
  clear e4 hpr0 S4 s4
  rintro σ1 H4 ⟨s4, S4, pr, hpr0, e4, rfl⟩
  have hw7 : way < 7 := by omega
  have hc7 : cur 7 way row k w0 wb wl w5 = spoil1 way row k w0 wb wl w5 := by unfold cur; rw [if_pos hw7]
  rw [hc7] at e4
  rw [hc7]
  have h62 : way = 6 → (spoil1 way row k w0 wb wl w5).2 = k := fun z => by
    subst z
    show (if 1 < k then (row.set k (S "0" ++ wd row k), k) else (row, k)).2 = k
    split <;> rfl
  simp only [tSeq_ap]
  refine tS_any (fun σ' H' => Same H3 H' ∧ Sc K a ns H' ∧ ∃ pr, H' pr = some (.lst (strsV (spoil way row k w0 wb wl w5).1)) ∧
    σ' = [some (.ref a), some (.ref p), some (.int (i : Nat)), some (.int ((spoil way row k w0 wb wl w5).2 : Nat)), some (.int (way : Nat)), some (.ref pr)]) (fun D' hD _ _ _ => ?_) ?_
  · have hdE : decide (strsV (spoil1 way row k w0 wb wl w5).1 = []) = decide ((spoil1 way row k w0 wb wl w5).1 = []) := by
      cases (spoil1 way row k w0 wb wl w5).1 <;> rfl
    refine tIfS_any (fun b H' => b = ((decide (way = 6) && decide (k < 2)) || decide ((spoil1 way row k w0 wb wl w5).1 = [])) ∧ Same H4 H' ∧ Sc K a ns H') (fun Q hQ => ?_) (fun H' hc => ?_) (fun H' hc => ?_)
    · (walk_at "RD")
      rw [show decide (((way : Nat) : Int) = 6) = decide (way = 6) by rw [Bool.eq_iff_iff, decide_eq_true_eq, decide_eq_true_eq]; omega]
      have hrest : 0 ≤ sizeLine ∧ ∀ (p : Addr), H4 p = none → ∃ x, EqH K (upd H4 p (HO.lst [])) 8 (V.ref pr) (V.ref p) x ∧ (((decide (way = 6) && decide (k < 2)) = false) → Q x (upd H4 p (HO.lst []))) := by
        refine ⟨by decide, fun p1 hp1 => ⟨_, EqH.flats (k := 7) (SqL.of (by rw [upd_ne (ne_of_none e4 hp1)]; exact e4)) (SqL.of upd_same) (fun x _ y hy => by simp at hy), fun z => ?_⟩⟩
        exact hQ _ _ ⟨by rw [hdE, z, Bool.false_or], same_new hp1, S4.new hp1⟩
      by_cases z6 : way = 6
      · rw [if_pos (decide_eq_true z6), h62 z6]
        rw [show decide (((k : Nat) : Int) < 2) = decide (k < 2) by rw [Bool.eq_iff_iff, decide_eq_true_eq, decide_eq_true_eq]; omega]
        by_cases z2 : k < 2
        · rw [if_pos (decide_eq_true z2)]
          exact hQ _ _ ⟨by rw [decide_eq_true z6, decide_eq_true z2]; rfl, Same.refl _, S4⟩
        · rw [if_neg (by rw [decide_eq_true_eq]; exact z2)]
          exact ⟨hrest.1, fun p1 hp1 => let ⟨x, h1, h2⟩ := hrest.2 p1 hp1; ⟨x, h1, h2 (by rw [decide_eq_false z2, Bool.and_false])⟩⟩
      · rw [if_neg (by rw [decide_eq_true_eq]; exact z6)]
        exact ⟨hrest.1, fun p1 hp1 => let ⟨x, h1, h2⟩ := hrest.2 p1 hp1; ⟨x, h1, h2 (by rw [decide_eq_false z6, Bool.false_and])⟩⟩
    · obtain ⟨hb, s5, S5⟩ := hc
      have hsp : spoil way row k w0 wb wl w5 = ([S ""], 0) := by
        unfold spoil
        rw [if_pos]
        have := hb.symm
        rw [Bool.or_eq_true, Bool.and_eq_true, decide_eq_true_eq, decide_eq_true_eq, decide_eq_true_eq] at this
        exact this
      (walk_at "RD")
      rw [hsp] at hD
      exact ⟨by decide, fun p1 hp1 => hD _ _ ⟨(s4.trans s5).trans (same_new hp1), S5.new hp1, p1, upd_same, rfl⟩⟩
    · obtain ⟨hb, s5, S5⟩ := hc
      have hsp : spoil way row k w0 wb wl w5 = spoil1 way row k w0 wb wl w5 := by
        unfold spoil
        rw [if_neg]
        have := hb.symm
        intro z
        rw [show ((decide (way = 6) && decide (k < 2)) || decide ((spoil1 way row k w0 wb wl w5).1 = [])) = true by rw [Bool.or_eq_true, Bool.and_eq_true, decide_eq_true_eq, decide_eq_true_eq, decide_eq_true_eq]; exact z] at this
        cases this
      (walk_at "RD")
      rw [hsp] at hD
      exact hD _ _ ⟨s4.trans s5, S5, pr, s5 _ _ e4, rfl⟩
  clear e4 hpr0 S4 s4
  rintro σ1 H4 ⟨s4, S4, pr, e4, rfl⟩
  have hx0 : w0 ∈ bad0 := by rw [hw0]; exact getD_mem hj0l _
  have hgood : GoodR (spoil way row k w0 wb wl w5).1 := by
    refine spoil_plain hw7 hpl hr7 hkl (bad0_plain _ hx0) (by rw [hwb]; exact bey_plain hn hik) ?_ (by rw [hw5]; exact tail_plain _ hj5l)
    rw [hwl]
    refine low_plain ?_ hik
    rcases hst with z | ⟨d, hd1, hd2⟩
    · exact .inl z
    · have := (hC.al d (List.mem_of_getElem? hd1)).st
      exact .inr (by omega)
  have hflt : Flt ((cRows n ds).take i ++ [(spoil way row k w0 wb wl w5).1] ++ (cRows n ds).drop (i + 1)) i (spoil way row k w0 wb wl w5).2 := by
    cases i with
    | zero =>
      rw [hwb, hwl, hrw]
      exact spoil_ring hn hw7 (by omega) hx0
    | succ j =>
      have hj : j < ds.length := by omega
      obtain ⟨d, hd1, hd2⟩ := hst.resolve_left (by omega)
      have hdj : ds[j]? = some d := hd1
      have hrd : row = wWords d := by
        have h1 := hrow
        unfold cRows at h1
        rw [List.getElem?_cons_succ, List.getElem?_map, hdj] at h1
        exact (Option.some.inj h1).symm
      rw [hwb, hwl, if_neg (by omega), if_neg (by omega), ← hd2, hrd, List.append_assoc]
      refine flt_way ⟨by omega, hn.2⟩ hC hj ?_
      refine spoil_way hn (hC.al d (List.mem_of_getElem? hdj)) (fun z => ?_) hw7 (by omega) hx0
      obtain ⟨d', hd', e⟩ := List.mem_map.mp z
      obtain ⟨m, hm⟩ := List.getElem?_of_mem hd'
      rw [List.getElem?_take] at hm
      by_cases c : m < j
      · rw [if_pos c] at hm
        obtain ⟨u, v, hu, hv, al6⟩ := D.nm
        rw [al6 m d' hm, al6 j d hdj] at e
        have := nm6_inj hu hv e
        omega
      · rw [if_neg c] at hm; cases hm
  have hrok := splice_ok (i := i) (cRows_good hC) hgood (by omega)
  have hrne : (cRows n ds).take i ++ [(spoil way row k w0 wb wl w5).1] ++ (cRows n ds).drop (i + 1) ≠ [] := by simp
  generalize (spoil way row k w0 wb wl w5).2 = kk at hflt ⊢
  generalize (spoil way row k w0 wb wl w5).1 = rr at hflt hrok hrne e4 hgood
  have hci : (((i : Nat) : Int) + 1) = ((i + 1 : Nat) : Int) := by omega
  (walk_at "RD")
  refine ⟨_, SqL.of (s4 _ _ l1), fun p1 hp1 => ⟨by decide, ?_⟩⟩
  rw [cut_to (xs := qs.map V.ref) (k := i) (by omega), ← List.map_take, hci]
  have sa := same_new (o := .lst ((qs.take i).map V.ref)) hp1
  have Sa := S4.new (o := .lst ((qs.take i).map V.ref)) hp1
  have ea : (upd H4 p1 (.lst ((qs.take i).map V.ref))) p1 = some (.lst ((qs.take i).map V.ref)) := upd_same
  generalize upd H4 p1 (.lst ((qs.take i).map V.ref)) = Ha at sa Sa ea ⊢
  intro p2 hp2
  have sb := same_new (o := .lst ([pr].map V.ref)) hp2
  have Sb := Sa.new (o := .lst ([pr].map V.ref)) hp2
  have eb : (upd Ha p2 (.lst ([pr].map V.ref))) p2 = some (.lst ([pr].map V.ref)) := upd_same
  rw [show [V.ref pr] = [pr].map V.ref from rfl]
  generalize upd Ha p2 (.lst ([pr].map V.ref)) = Hb at sb Sb eb ⊢
  have lq : qs.length = ds.length + 1 := by rw [l2, hrl]
  refine ⟨_, sb _ _ ea, _, eb, hbig _ (by rw [List.length_map, List.length_map, List.length_take, List.length_singleton]; omega), ?_⟩
  rw [← List.map_append]
  intro p3 hp3
  have sc := same_new (o := .lst ((qs.take i ++ [pr]).map V.ref)) hp3
  have Sc' := Sb.new (o := .lst ((qs.take i ++ [pr]).map V.ref)) hp3
  have ec : (upd Hb p3 (.lst ((qs.take i ++ [pr]).map V.ref))) p3 = some (.lst ((qs.take i ++ [pr]).map V.ref)) := upd_same
  generalize upd Hb p3 (.lst ((qs.take i ++ [pr]).map V.ref)) = Hc at sc Sc' ec ⊢
  refine ⟨_, SqL.of (sc _ _ (sb _ _ (sa _ _ (s4 _ _ l1)))), ?_⟩
  rw [cut_from (xs := qs.map V.ref) (k := i + 1) (by omega), ← List.map_drop]
  intro p4 hp4
  have sd := same_new (o := .lst ((qs.drop (i + 1)).map V.ref)) hp4
  have Sd := Sc'.new (o := .lst ((qs.drop (i + 1)).map V.ref)) hp4
  have ed : (upd Hc p4 (.lst ((qs.drop (i + 1)).map V.ref))) p4 = some (.lst ((qs.drop (i + 1)).map V.ref)) := upd_same
  generalize upd Hc p4 (.lst ((qs.drop (i + 1)).map V.ref)) = Hd at sd Sd ed ⊢
  refine ⟨_, sd _ _ ec, _, ed, hbig _ (by rw [List.length_map, List.length_map, List.length_append, List.length_take, List.length_drop, List.length_singleton]; omega), ?_⟩
  rw [← List.map_append]
  intro p5 hp5
  have se := same_new (o := .lst ((qs.take i ++ [pr] ++ qs.drop (i + 1)).map V.ref)) hp5
  have Se := Sd.new (o := .lst ((qs.take i ++ [pr] ++ qs.drop (i + 1)).map V.ref)) hp5
  have ee : (upd Hd p5 (.lst ((qs.take i ++ [pr] ++ qs.drop (i + 1)).map V.ref))) p5 = some (.lst ((qs.take i ++ [pr] ++ qs.drop (i + 1)).map V.ref)) := upd_same
  generalize upd Hd p5 (.lst ((qs.take i ++ [pr] ++ qs.drop (i + 1)).map V.ref)) = He at se Se ee ⊢
  have sall := (((sa.trans sb).trans sc).trans sd).trans se
  refine ⟨by decide, fun tp htp => ?_⟩
  have q0 : RQ H3 qs (cRows n ds) := ⟨l2, al⟩
  have hRL : RL He p5 ((cRows n ds).take i ++ [rr] ++ (cRows n ds).drop (i + 1)) := ⟨_, ee, (((q0.same (s4.trans sall)).take i).app (RQ.one (sall _ _ e4))).app ((q0.same (s4.trans sall)).drop (i + 1))⟩
  exact q tp p5 _ i kk _ ((s4.trans sall).trans (same_new htp)) (Se.new htp) upd_same (hRL.same (same_new htp)) hrok hrne hflt
end
end My
namespace My
open PySem L2
/-! ### _law_other -/
theorem flt_gen {n : Int} {ds : List WD} {ws : List Str} {tl : List (List Str)} {k : Nat} (h : ∀ tail, crossP [Str.ofString "ring", num n] (ds.map wWords ++ ws :: tail) = .error (ds.length + 1, k)) : Flt (cRows n ds ++ ws :: tl) (ds.length + 1) k := fun r0 rest e => by
  have hl : (cRows n ds).length = ds.length + 1 := by
    unfold cRows
    rw [List.length_cons, List.length_map]
  have e1 := List.take_append_drop (ds.length + 1 + 1) (r0 :: rest)
  rw [e, List.take_append, hl, List.take_of_length_le (by omega), show ds.length + 1 + 1 - (ds.length + 1) = 1 by omega] at e1
  generalize (r0 :: rest).drop (ds.length + 1 + 1) = tail at e1
  have e2 : r0 :: rest = (Str.ofString "ring" :: [num n]) :: (ds.map wWords ++ ws :: tail) := by
    rw [← e1]
    unfold cRows
    rw [List.append_assoc]; rfl
  injection e2 with e3 e4
  rw [e3, e4]
  exact h tail
theorem flt_none {n : Int} (hn : 2 ≤ n ∧ n ≤ 99) : Flt [[Str.ofString "ring", num n]] 1 0 := fun r0 rest e => by
  cases rest with
  | nil =>
    have e' : r0 = [Str.ofString "ring", num n] := by simpa using e
    rw [e']
    exact cross_none hn
  | cons a b => simp at e
theorem way_empty (n : Int) (names : List Str) : wayP n names [S ""] = .error 0 := by
  unfold wayP
  rw [show sortK (wd [S ""] 0) = none by decide +kernel]; rfl
theorem flt_empty {n : Int} (hn : 2 ≤ n ∧ n ≤ 99) {ds : List WD} (hC : COk n ds) : Flt (cRows n ds ++ [[S ""]]) (ds.length + 1) 0 := by
  refine flt_gen fun tail => ?_
  by_cases c : ds.length = 12
  · rw [cross_over hn hC.al hC.nd c, c]
  · exact cross_fault hn hC.al hC.nd (by have := hC.ln.2; omega) (way_empty _ _)
def overN (k : Nat) : Str := S "over" ++ ⟨#[97 + k]⟩
def overD (k : Nat) : WD := ⟨0, overN k, 0, 1, 0, 0, 1⟩
theorem overD_words (k : Nat) : wWords (overD k) = [S "car", overN k, S "0", S "1", S "0", S "0", S "1"] := by
  show [sortS 0, overN k, num 0, num 1, num 0, num 0, num 1] = _
  rw [show sortS 0 = S "car" by decide +kernel, show num 0 = S "0" by decide +kernel, show num 1 = S "1" by decide +kernel]
theorem overN_cps (k : Nat) : (overN k).cps.toList = [111, 118, 101, 114, 97 + k] := by
  unfold overN
  rw [Str.cps_append, Array.toList_append, show (S "over").cps.toList = [111, 118, 101, 114] by decide +kernel]; rfl
theorem overN_made : ∀ k, k < 13 → made (overN k) letters 8 = true := by decide +kernel
theorem overN_ne {u v k i : Nat} (hu : u < 5) (hv : v < 4) : nm6 u v i ≠ overN k := fun e => by
  have e := congrArg (fun x : Str => x.cps.toList) e
  simp only [nm6_cps hu hv, overN_cps] at e
  by_cases z : u = 0
  · subst z
    have := congrArg List.length e
    rw [List.length_append, List.length_append, List.length_take, List.length_take] at this
    simp only [List.length_cons, List.length_nil] at this
    omega
  · obtain ⟨u', rfl⟩ := Nat.exists_eq_succ_of_ne_zero z
    rw [List.take_succ_cons, List.cons_append, List.cons_append] at e
    exact absurd (List.cons.inj e).1 (by decide)
theorem abc13_at : ∀ k, k < 13 → atI (Str.ofString "abcdefghijklm").cps.toList ((k : Nat) : Int) = some (97 + k) := by decide +kernel
def overs (m : Nat) : List WD := (List.range m).map overD
theorem overs_len (m : Nat) : (overs m).length = m := by unfold overs; rw [List.length_map, List.length_range]
theorem overs_snoc (m : Nat) : overs (m + 1) = overs m ++ [overD m] := by unfold overs; rw [List.range_succ, List.map_append]; rfl
theorem overD_ok {n : Int} (hn : 3 ≤ n) {k : Nat} (hk : k < 13) : WOk n (overD k) :=
  ⟨show 0 < 3 by decide, overN_made k hk, ⟨show (0 : Int) ≤ 0 by decide, show (0 : Int) < n by omega⟩, ⟨show (0 : Int) ≤ 1 by decide, show (1 : Int) < n by omega⟩, show (0 : Int) ≠ 1 by decide, ⟨show (0 : Int) ≤ 0 by decide, show (0 : Int) ≤ 30 by decide⟩, ⟨show (0 : Int) ≤ 0 by decide, show (0 : Int) ≤ 30 by decide⟩, ⟨show (1 : Int) ≤ 1 by decide, show (1 : Int) ≤ 60 by decide⟩⟩
theorem overs_ok {n : Int} (hn : 3 ≤ n) {m : Nat} (hm : m ≤ 13) : ∀ d ∈ overs m, WOk n d := fun d hd => by
  obtain ⟨k, hk, rfl⟩ := List.mem_map.mp hd
  exact overD_ok hn (by have := List.mem_range.mp hk; omega)
theorem overN_inj {i j : Nat} (e : overN i = overN j) : i = j := by
  have e := congrArg (fun x : Str => x.cps.toList) e
  simp only [overN_cps] at e
  simp at e; omega
theorem over_nd {n : Int} {ds : List WD} (D : Ds6 n ds) (m : Nat) : ((ds ++ overs m).map (·.name)).Nodup := by
  rw [List.map_append]
  refine List.nodup_append.mpr ⟨D.nd, ?_, ?_⟩
  · refine List.pairwise_iff_getElem.mpr fun i j hi hj hij e => ?_
    rw [List.getElem_map, List.getElem_map] at e
    rw [List.length_map, overs_len] at hi hj
    have ho : ∀ k (hk : k < (overs m).length), (overs m)[k] = overD k := fun k hk => by
      have h1 : (overs m)[k]? = some (overD k) := by
        rw [overs_len] at hk
        unfold overs
        rw [List.getElem?_map, List.getElem?_range hk]; rfl
      rw [List.getElem?_eq_getElem hk] at h1
      exact Option.some.inj h1
    rw [ho, ho] at e
    have := overN_inj (i := i) (j := j) e
    omega
  · intro x hx y hy e
    subst e
    obtain ⟨d, hd, e1⟩ := List.mem_map.mp hx
    obtain ⟨d', hd', e2⟩ := List.mem_map.mp hy
    obtain ⟨k, _, rfl⟩ := List.mem_map.mp hd'
    obtain ⟨i, hi⟩ := List.getElem?_of_mem hd
    obtain ⟨u, v, hu, hv, al⟩ := D.nm
    exact overN_ne hu hv (by rw [← al i d hi, e1, ← e2]; rfl)
theorem flt_over {n : Int} (hn : 3 ≤ n ∧ n ≤ 99) {ds : List WD} (D : Ds6 n ds) (hl : ds.length ≤ 12) : Flt (cRows n ds ++ (overs (13 - ds.length)).map wWords) 13 0 := by
  have e : cRows n ds ++ (overs (13 - ds.length)).map wWords = cRows n (ds ++ overs (12 - ds.length)) ++ wWords (overD (12 - ds.length)) :: [] := by
    rw [show 13 - ds.length = (12 - ds.length) + 1 by omega, overs_snoc]
    unfold cRows
    rw [List.map_append, List.map_append, List.cons_append, List.cons_append, List.append_assoc]; rfl
  have el : (ds ++ overs (12 - ds.length)).length = 12 := by rw [List.length_append, overs_len]; omega
  rw [e]
  have := flt_gen (n := n) (ds := ds ++ overs (12 - ds.length)) (ws := wWords (overD (12 - ds.length))) (tl := []) (k := 0) fun tail => by
    rw [el]
    refine cross_over ⟨by omega, hn.2⟩ (fun d hd => ?_) (over_nd D _) el
    rcases List.mem_append.mp hd with z | z
    · exact D.al d z
    · exact overs_ok hn.1 (by omega) d z
  rw [el] at this
  exact this
theorem way_taken {n : Int} {names : List Str} {d : WD} {x : Str} (h : WOk n d) (hn : n ≤ 99) (hx : d.name ∉ names) (ht : x ∈ names) : wayP n names ([sortS d.k, x] ++ (wWords d).drop 2) = .error 1 := by
  refine way_fault h hn hx (fun i hi => ?_) ?_
  · rw [show i = 0 by omega]; rfl
  · exact fun z => z.2 ht
def sp_other (K : PySem.W.Frag) (a : Addr) (ns : List Int) : Sp := sp_spoiled K a ns
section
variable {P : Program} {w : World} {K : PySem.W.Frag} {mg : Str → Option Value} {base : Heap} {t : Adr}
theorem ok_other (T : Txt w K mg t) (a : Addr) (ns : List Int) (h63 : ns.length ≤ 63) : FnOk P w K mg base CX0 2 t.a__law_other t.d__law_other ["_law_script", "_law_rows_here"] (sp_spoiled K a ns) := by
  have G__law_draw : FnOk P w K mg base CX0 1 t.a__law_draw t.d__law_draw ["_law_script", "_law_k", "_law_many"] (sp_draw K a ns) := ok_draw T a ns h63
  refine T.F__law_other.ok sc__law_other (fun vs H Q E h => ?_) (fun cdv A outer s H vs Q E hr h => ?_)
  · obtain ⟨p, n, ds, rfl, _⟩ := h; rfl
  obtain ⟨p, n, ds, rfl, S0, L, D, hn, hl, q⟩ := h
  have hU := hr.units
  refine ⟨_, (pss_cons (ps_set (i := 2) sc__law_other.nd rfl (Or.inl rfl) (pe_call G__law_draw hr rfl T.m__law_draw T.k__law_draw T.n__law_draw .nil pass0 (pa_cons (pv 0) (pa_cons pe_int (pa_cons pe_int pa_nil)))))
      (pss_cons (ps_if (pt_cmpR op_eq (pv 2) pe_int (nomark _)) (pss_one (ps_ret (pe_tup (pa_cons (pe_op op_cat (pv 1) (pe_lst (pa_cons (pe_lst (pa_cons pe_str pa_nil)) pa_nil))) (pa_cons (pe_callB call_len_seq rfl T.b_len boot_b_len (pa_cons (pv 1) pa_nil)) (pa_cons pe_int pa_nil)))))) pss_nil)
      (pss_cons (ps_if (PW.pt (pw_and (pt_cmpR op_eq (pv 2) pe_int (nomark _)) (pw_and1 (pt_cmpR op_gt (pe_callB call_len_seq rfl T.b_len boot_b_len (pa_cons (pv 1) pa_nil)) pe_int (nomark _))))) (pss_cons (ps_set (i := 3) sc__law_other.nd rfl (Or.inl rfl) (pe_op op_add pe_int (pe_call G__law_draw hr rfl T.m__law_draw T.k__law_draw T.n__law_draw .nil pass0 (pa_cons (pv 0) (pa_cons pe_int (pa_cons (pe_op op_sub (pe_callB call_len_seq rfl T.b_len boot_b_len (pa_cons (pv 1) pa_nil)) pe_int) pa_nil))))))
      (pss_cons (ps_set (i := 4) sc__law_other.nd rfl (Or.inl rfl) (pe_ix ix_list (pe_ix ix_list (pv 1) (pe_op op_add pe_int (pe_call G__law_draw hr rfl T.m__law_draw T.k__law_draw T.n__law_draw .nil pass0 (pa_cons (pv 0) (pa_cons pe_int (pa_cons (pe_op op_sub (pv 3) pe_int) pa_nil))))) (fun _ _ => rfl)) pe_int (fun _ _ => rfl)))
      (pss_one (ps_ret (pe_tup (pa_cons (pe_op op_cat (pe_op op_cat (pe_slice sl_list (pv 1) po_none (po_some (pv 3))) (pe_lst (pa_cons (pe_op op_cat (pe_lst (pa_cons (pe_ix ix_list (pe_ix ix_list (pv 1) (pv 3) (fun _ _ => rfl)) pe_int (fun _ _ => rfl)) (pa_cons (pv 4) pa_nil))) (pe_slice sl_list (pe_ix ix_list (pv 1) (pv 3) (fun _ _ => rfl)) (po_some pe_int) po_none)) pa_nil))) (pe_slice sl_list (pv 1) (po_some (pe_op op_add (pv 3) pe_int)) po_none)) (pa_cons (pv 3) (pa_cons pe_int pa_nil)))))))) pss_nil)
      (pss_cons (ps_if (pt_cmpR op_eq (pv 2) pe_int (nomark _)) (pss_cons (ps_setComp (i := 5) sc__law_other.nd rfl (Or.inl rfl) rfl (pi_range1 rfl T.b_range (pa_cons (pe_op op_sub pe_int (pe_callB call_len_seq rfl T.b_len boot_b_len (pa_cons (pv 1) pa_nil))) pa_nil)) (cscope_of (sc := defScope s__law_other) rfl (by decide +kernel)) (N := ["_law_k"]) (sel := [none]) (selOk_of (M := ["_law_script", "_law_rows_here", "_law_way", "_law_at", "_law_taken", "_law_over"]) (by decide +kernel)) (Blk.of (fun _ _ _ _ => (pg_name (i := 0) (nd_of (N := ["_law_k"]) (by decide +kernel) rfl) rfl (Or.inl rfl))) (fun _ _ _ _ => ⟨_, pts_nil, by first | rfl | (dsimp only [Cx.block]; done) | (dsimp only [Cx.block]; exact rfl)⟩) (fun _ _ _ _ => ⟨_, (pe_lst (pa_cons pe_str (pa_cons (pe_op op_add_str pe_str (pe_ix ix_str pe_str (pv 0) (fun _ _ => rfl))) (pa_cons pe_str (pa_cons pe_str (pa_cons pe_str (pa_cons pe_str (pa_cons pe_str pa_nil)))))))), by first | rfl | (dsimp only [Cx.block]; done) | (dsimp only [Cx.block]; exact rfl)⟩)) rfl)
      (pss_one (ps_ret (pe_tup (pa_cons (pe_op op_cat (pv 1) (pv 5)) (pa_cons pe_int (pa_cons pe_int pa_nil))))))) pss_nil)
      (pss_one (ps_ret (pe_tup (pa_cons (pe_lst (pa_cons (pe_ix ix_list (pv 1) pe_int (fun _ _ => rfl)) pa_nil)) (pa_cons pe_int (pa_cons pe_int pa_nil)))))))))), ?_⟩
  have hC := D.cok (by omega) hl
  have hrl : (cRows n ds).length = ds.length + 1 := by unfold cRows; rw [List.length_cons, List.length_map]
  obtain ⟨qs, l1, l2, al⟩ := id L
  have q0 : RQ H qs (cRows n ds) := ⟨l2, al⟩
  have hql : (qs.map V.ref).length = ds.length + 1 := by rw [List.length_map, l2, hrl]
  have lq : qs.length = ds.length + 1 := by rw [l2, hrl]
  have hbig : ∀ m : Nat, m ≤ 1000 → m ≤ sizeLine := fun m h => Nat.le_trans h (by decide)
  have d1 := draw_lo ns 9 (m := 4) (by decide)
  have d2 := draw_hi ns 9 (m := 4) (by decide)
  obtain ⟨way, hway⟩ : ∃ way : Nat, draw ns 9 4 = (way : Nat) := ⟨(draw ns 9 4).toNat, by omega⟩
  simp only [tSeq_ap]
  refine tS_any (fun σ' H' => H' = H ∧ σ' = [some (.ref a), some (.ref p), some (.int (way : Nat)), none, none, none]) (fun D' hD _ _ _ => ?_) ?_
  · (walk_at "RD"; repeat (simp only [sp_draw]; walk_at "RD"))
    rw [hway]
    exact ⟨S0, by omega, by omega, by decide, hD _ _ ⟨rfl, rfl⟩⟩
  rintro σ1 H1 ⟨rfl, rfl⟩
  simp only [tSeq_ap]
  refine tIfS_by (decide (way = 0)) (fun Q hQ => ?_) (fun hc => ?_) (fun hc => ?_)
  · (walk_at "RD")
    rw [show decide (((way : Nat) : Int) = 0) = decide (way = 0) by rw [Bool.eq_iff_iff, decide_eq_true_eq, decide_eq_true_eq]; omega]
    exact hQ
  · (walk_at "RD")
    refine ⟨by decide, fun p1 hp1 => ⟨by decide, ?_⟩⟩
    rw [show [V.str (Str.ofString "")] = strsV [S ""] from rfl]
    have sa := same_new (o := .lst (strsV [S ""])) hp1
    have Sa := S0.new (o := .lst (strsV [S ""])) hp1
    have ea : (upd H1 p1 (.lst (strsV [S ""]))) p1 = some (.lst (strsV [S ""])) := upd_same
    generalize upd H1 p1 (.lst (strsV [S ""])) = Ha at sa Sa ea ⊢
    rw [show [V.ref p1] = [p1].map V.ref from rfl]
    intro p2 hp2
    have sb := same_new (o := .lst ([p1].map V.ref)) hp2
    have Sb := Sa.new (o := .lst ([p1].map V.ref)) hp2
    have eb : (upd Ha p2 (.lst ([p1].map V.ref))) p2 = some (.lst ([p1].map V.ref)) := upd_same
    generalize upd Ha p2 (.lst ([p1].map V.ref)) = Hb at sb Sb eb ⊢
    refine ⟨_, sb _ _ (sa _ _ l1), _, eb, hbig _ (by rw [hql, List.length_map, List.length_singleton]; omega), ?_⟩
    rw [← List.map_append]
    intro p3 hp3
    have sc := same_new (o := .lst ((qs ++ [p1]).map V.ref)) hp3
    have Sc' := Sb.new (o := .lst ((qs ++ [p1]).map V.ref)) hp3
    have ec : (upd Hb p3 (.lst ((qs ++ [p1]).map V.ref))) p3 = some (.lst ((qs ++ [p1]).map V.ref)) := upd_same
    generalize upd Hb p3 (.lst ((qs ++ [p1]).map V.ref)) = Hc at sc Sc' ec ⊢
    have sall := (sa.trans sb).trans sc
    refine ⟨_, .inl (SqL.of (sall _ _ l1)), by decide, fun tp htp => ?_⟩
    rw [hql]
    have hRL : RL Hc p3 (cRows n ds ++ [[S ""]]) := ⟨_, ec, (q0.same sall).app (RQ.one (sc _ _ (sb _ _ ea)))⟩
    refine q tp p3 _ (ds.length + 1) 0 _ (sall.trans (same_new htp)) (Sc'.new htp) upd_same (hRL.same (same_new htp)) ⟨?_, fun x hx => ?_⟩ (by simp) (flt_empty ⟨by omega, hn.2⟩ hC)
    · rw [List.length_append, hrl, List.length_singleton]; omega
    · rcases List.mem_append.mp hx with z | z
      · exact cRows_good hC x z
      · rw [List.mem_singleton.mp z]; exact GoodR.e
  simp only [tNext_ap, tSeq_ap]
  refine tIfS_by (decide (way = 1) && decide (1 < ds.length)) (fun Q hQ => ?_) (fun hc => ?_) (fun hc => ?_)
  · (walk_at "RD")
    rw [show decide (((way : Nat) : Int) = 1) = decide (way = 1) by rw [Bool.eq_iff_iff, decide_eq_true_eq, decide_eq_true_eq]; omega]
    by_cases z : way = 1
    · rw [if_pos (decide_eq_true z)]
      rw [decide_eq_true z, Bool.true_and] at hQ
      refine ⟨_, .inl (SqL.of l1), ?_⟩
      rw [hql, show decide ((2 : Int) < ((ds.length + 1 : Nat) : Int)) = decide (1 < ds.length) by rw [Bool.eq_iff_iff, decide_eq_true_eq, decide_eq_true_eq]; omega]
      exact hQ
    · rw [if_neg (by rw [decide_eq_true_eq]; exact z)]
      rw [decide_eq_false z, Bool.false_and] at hQ
      exact hQ
  · rw [Bool.and_eq_true, decide_eq_true_eq, decide_eq_true_eq] at hc
    obtain ⟨hw1, hl2⟩ := hc
    have b1 := draw_lo ns 10 (m := ((ds.length + 1 : Nat) : Int) - 2) (by omega)
    have b2 := draw_hi ns 10 (m := ((ds.length + 1 : Nat) : Int) - 2) (by omega)
    obtain ⟨i, hi⟩ : ∃ i : Nat, 2 + draw ns 10 (((ds.length + 1 : Nat) : Int) - 2) = ((i + 1 : Nat) : Int) := ⟨(1 + draw ns 10 (((ds.length + 1 : Nat) : Int) - 2)).toNat, by omega⟩
    have hi1 : 1 ≤ i := by omega
    have hi2 : i < ds.length := by omega
    have b3 := draw_lo ns 11 (m := ((i + 1 : Nat) : Int) - 1) (by omega)
    have b4 := draw_hi ns 11 (m := ((i + 1 : Nat) : Int) - 1) (by omega)
    obtain ⟨j, hj⟩ : ∃ j : Nat, 1 + draw ns 11 (((i + 1 : Nat) : Int) - 1) = ((j + 1 : Nat) : Int) := ⟨(draw ns 11 (((i + 1 : Nat) : Int) - 1)).toNat, by omega⟩
    have hji : j < i := by omega
    obtain ⟨d, hd⟩ : ∃ d, ds[i]? = some d := ⟨_, List.getElem?_eq_getElem hi2⟩
    obtain ⟨d', hd'⟩ : ∃ d', ds[j]? = some d' := ⟨_, List.getElem?_eq_getElem (by omega)⟩
    have hri : (cRows n ds)[i + 1]? = some (wWords d) := by unfold cRows; rw [List.getElem?_cons_succ, List.getElem?_map, hd]; rfl
    have hrj : (cRows n ds)[j + 1]? = some (wWords d') := by unfold cRows; rw [List.getElem?_cons_succ, List.getElem?_map, hd']; rfl
    obtain ⟨qi, pi, li1, lia, liq, _, _⟩ := L.at hri
    obtain ⟨qj, pj, lj1, lja, ljq, _, _⟩ := L.at hrj
    simp only [tSeq_ap]
    refine tS_any (fun σ' H' => H' = H1 ∧ σ' = [some (.ref a), some (.ref p), some (.int (way : Nat)), some (.int ((i + 1 : Nat) : Int)), none, none]) (fun D' hD _ _ _ => ?_) ?_
    · (walk_at "RD"; repeat (simp only [sp_draw]; walk_at "RD"))
      refine ⟨_, .inl (SqL.of l1), ?_⟩
      rw [hql, hi]
      exact ⟨S0, by omega, by omega, by omega, hD _ _ ⟨rfl, rfl⟩⟩
    rintro σ1 H2 ⟨rfl, rfl⟩
    simp only [tSeq_ap]
    refine tS_any (fun σ' H' => H' = H2 ∧ σ' = [some (.ref a), some (.ref p), some (.int (way : Nat)), some (.int ((i + 1 : Nat) : Int)), some (.str d'.name), none]) (fun D' hD _ _ _ => ?_) ?_
    · (walk_at "RD"; repeat (simp only [sp_draw]; walk_at "RD"))
      rw [hj]
      exact ⟨S0, by omega, by omega, by omega, _, SqL.of lj1, _, lja, _, rfl, _, SqL.of ljq, _, atI_nat (j := 1) rfl, hD _ _ ⟨rfl, rfl⟩⟩
    rintro σ1 H3 ⟨rfl, rfl⟩
    have hdl : d.name ∉ (ds.take i).map (·.name) := fun z => by
      obtain ⟨d2, hd2, e⟩ := List.mem_map.mp z
      obtain ⟨m, hm⟩ := List.getElem?_of_mem hd2
      rw [List.getElem?_take] at hm
      by_cases c : m < i
      · rw [if_pos c] at hm
        obtain ⟨u, v, hu, hv, al6⟩ := D.nm
        rw [al6 m d2 hm, al6 i d hd] at e
        have := nm6_inj hu hv e
        omega
      · rw [if_neg c] at hm; cases hm
    have htk : d'.name ∈ (ds.take i).map (·.name) := List.mem_map.mpr ⟨d', List.mem_of_getElem? (i := j) (by rw [List.getElem?_take, if_pos hji]; exact hd'), rfl⟩
    have hwd := hC.al d (List.mem_of_getElem? hd)
    have hwt := way_taken hwd hn.2 hdl htk
    obtain ⟨rr, hrr⟩ : ∃ rr, rr = [sortS d.k, d'.name] ++ (wWords d).drop 2 := ⟨_, rfl⟩
    have hgood : GoodR rr := by
      rw [hrr]
      refine ⟨by simp, show 7 ≤ 9 by decide, fun x hx => ?_⟩
      rcases List.mem_append.mp hx with z | z
      · rcases List.mem_cons.mp z with z | z
        · rw [z]; exact (plain_sort _).b
        · rw [List.mem_singleton.mp z]
          exact (plain_name (hC.al d' (List.mem_of_getElem? hd')).nm).b
      · exact (hwd.plain hn.2 x (List.mem_of_mem_drop z)).b
    rw [← hrr] at hwt
    have hflt : Flt ((cRows n ds).take (i + 1) ++ [rr] ++ (cRows n ds).drop (i + 1 + 1)) (i + 1) 1 := by
      rw [List.append_assoc]
      exact flt_way ⟨by omega, hn.2⟩ hC hi2 hwt
    have hrok := splice_ok (i := i + 1) (cRows_good hC) hgood (by omega)
    have hrne : (cRows n ds).take (i + 1) ++ [rr] ++ (cRows n ds).drop (i + 1 + 1) ≠ [] := by simp
    have hci : (((i + 1 : Nat) : Int) + 1) = ((i + 1 + 1 : Nat) : Int) := by omega
    have liq0 : atI (qs.map V.ref) ((i + 1 : Nat) : Int) = some (V.ref pi) := by
      rw [li1] at l1
      have := Option.some.inj l1
      injection this with this
      rw [← this]; exact lia
    (walk_at "RD")
    refine ⟨_, SqL.of l1, ?_⟩
    rw [cut_to (xs := qs.map V.ref) (k := i + 1) (by omega), ← List.map_take, hci]
    intro p1 hp1
    have sa := same_new (o := .lst ((qs.take (i + 1)).map V.ref)) hp1
    have Sa := S0.new (o := .lst ((qs.take (i + 1)).map V.ref)) hp1
    have ea : (upd H3 p1 (.lst ((qs.take (i + 1)).map V.ref))) p1 = some (.lst ((qs.take (i + 1)).map V.ref)) := upd_same
    generalize upd H3 p1 (.lst ((qs.take (i + 1)).map V.ref)) = Ha at sa Sa ea ⊢
    refine ⟨_, SqL.of (sa _ _ l1), _, liq0, _, rfl, _, SqL.of (sa _ _ liq), _, atI_nat (j := 0) rfl, by decide, ?_⟩
    rw [show [V.str (sortS d.k), V.str d'.name] = strsV [sortS d.k, d'.name] from rfl]
    intro p2 hp2
    have sb := same_new (o := .lst (strsV [sortS d.k, d'.name])) hp2
    have Sb := Sa.new (o := .lst (strsV [sortS d.k, d'.name])) hp2
    have eb : (upd Ha p2 (.lst (strsV [sortS d.k, d'.name]))) p2 = some (.lst (strsV [sortS d.k, d'.name])) := upd_same
    generalize upd Ha p2 (.lst (strsV [sortS d.k, d'.name])) = Hb at sb Sb eb ⊢
    refine ⟨_, SqL.of (sb _ _ (sa _ _ l1)), _, liq0, _, rfl, _, SqL.of (sb _ _ (sa _ _ liq)), ?_⟩
    rw [show cutV (strsV (wWords d)) (some 2) none = strsV ((wWords d).drop 2) from (cut_from (xs := strsV (wWords d)) (k := 2) (by rw [strsV_len]; show 2 ≤ 7; decide)).trans (strsV_drop _ _)]
    intro p3 hp3
    have sc := same_new (o := .lst (strsV ((wWords d).drop 2))) hp3
    have Sc' := Sb.new (o := .lst (strsV ((wWords d).drop 2))) hp3
    have ec : (upd Hb p3 (.lst (strsV ((wWords d).drop 2)))) p3 = some (.lst (strsV ((wWords d).drop 2))) := upd_same
    generalize upd Hb p3 (.lst (strsV ((wWords d).drop 2))) = Hc at sc Sc' ec ⊢
    refine ⟨_, sc _ _ eb, _, ec, hbig _ (by rw [strsV_len, strsV_len]; show 2 + 5 ≤ 1000; decide), ?_⟩
    rw [strsV_app, ← hrr]
    intro p4 hp4
    have sd := same_new (o := .lst (strsV rr)) hp4
    have Sd := Sc'.new (o := .lst (strsV rr)) hp4
    have ed : (upd Hc p4 (.lst (strsV rr))) p4 = some (.lst (strsV rr)) := upd_same
    generalize upd Hc p4 (.lst (strsV rr)) = Hd at sd Sd ed ⊢
    refine ⟨by decide, ?_⟩
    rw [show [V.ref p4] = [p4].map V.ref from rfl]
    intro p5 hp5
    have se := same_new (o := .lst ([p4].map V.ref)) hp5
    have Se := Sd.new (o := .lst ([p4].map V.ref)) hp5
    have ee : (upd Hd p5 (.lst ([p4].map V.ref))) p5 = some (.lst ([p4].map V.ref)) := upd_same
    generalize upd Hd p5 (.lst ([p4].map V.ref)) = He at se Se ee ⊢
    refine ⟨_, se _ _ (sd _ _ (sc _ _ (sb _ _ ea))), _, ee, hbig _ (by rw [List.length_map, List.length_map, List.length_take, List.length_singleton]; omega), ?_⟩
    rw [← List.map_append]
    intro p6 hp6
    have sf := same_new (o := .lst ((qs.take (i + 1) ++ [p4]).map V.ref)) hp6
    have Sf := Se.new (o := .lst ((qs.take (i + 1) ++ [p4]).map V.ref)) hp6
    have ef : (upd He p6 (.lst ((qs.take (i + 1) ++ [p4]).map V.ref))) p6 = some (.lst ((qs.take (i + 1) ++ [p4]).map V.ref)) := upd_same
    generalize upd He p6 (.lst ((qs.take (i + 1) ++ [p4]).map V.ref)) = Hf at sf Sf ef ⊢
    have sm := ((((sa.trans sb).trans sc).trans sd).trans se).trans sf
    refine ⟨_, SqL.of (sm _ _ l1), ?_⟩
    rw [cut_from (xs := qs.map V.ref) (k := i + 1 + 1) (by omega), ← List.map_drop]
    intro p7 hp7
    have sg := same_new (o := .lst ((qs.drop (i + 1 + 1)).map V.ref)) hp7
    have Sg := Sf.new (o := .lst ((qs.drop (i + 1 + 1)).map V.ref)) hp7
    have eg : (upd Hf p7 (.lst ((qs.drop (i + 1 + 1)).map V.ref))) p7 = some (.lst ((qs.drop (i + 1 + 1)).map V.ref)) := upd_same
    generalize upd Hf p7 (.lst ((qs.drop (i + 1 + 1)).map V.ref)) = Hg at sg Sg eg ⊢
    refine ⟨_, sg _ _ ef, _, eg, hbig _ (by rw [List.length_map, List.length_map, List.length_append, List.length_take, List.length_drop, List.length_singleton]; omega), ?_⟩
    rw [← List.map_append]
    intro p8 hp8
    have sh := same_new (o := .lst ((qs.take (i + 1) ++ [p4] ++ qs.drop (i + 1 + 1)).map V.ref)) hp8
    have Sh := Sg.new (o := .lst ((qs.take (i + 1) ++ [p4] ++ qs.drop (i + 1 + 1)).map V.ref)) hp8
    have eh : (upd Hg p8 (.lst ((qs.take (i + 1) ++ [p4] ++ qs.drop (i + 1 + 1)).map V.ref))) p8 = some (.lst ((qs.take (i + 1) ++ [p4] ++ qs.drop (i + 1 + 1)).map V.ref)) := upd_same
    generalize upd Hg p8 (.lst ((qs.take (i + 1) ++ [p4] ++ qs.drop (i + 1 + 1)).map V.ref)) = Hh at sh Sh eh ⊢
    have sall := (sm.trans sg).trans sh
    refine ⟨by decide, fun tp htp => ?_⟩
    have hRL : RL Hh p8 ((cRows n ds).take (i + 1) ++ [rr] ++ (cRows n ds).drop (i + 1 + 1)) := ⟨_, eh, (((q0.same sall).take (i + 1)).app (RQ.one (sh _ _ (sg _ _ (sf _ _ (se _ _ ed)))))).app ((q0.same sall).drop (i + 1 + 1))⟩
    exact q tp p8 _ (i + 1) 1 _ (sall.trans (same_new htp)) (Sh.new htp) upd_same (hRL.same (same_new htp)) hrok hrne hflt
  simp only [tNext_ap, tSeq_ap]
  refine tIfS_by (decide (way = 2)) (fun Q hQ => ?_) (fun hc => ?_) (fun hc => ?_)
  · (walk_at "RD")
    rw [show decide (((way : Nat) : Int) = 2) = decide (way = 2) by rw [Bool.eq_iff_iff, decide_eq_true_eq, decide_eq_true_eq]; omega]
    exact hQ
  · (walk_at "RD")
    refine ⟨_, .inl (SqL.of l1), ?_⟩
    rw [hql, show ((14 : Int) - ((ds.length + 1 : Nat) : Int)).toNat = 13 - ds.length by omega]
    refine ⟨by omega, by omega, CompR.range (fun i ys H' => ∃ os : List Addr, ys = os.map V.ref ∧ RQ H' os ((overs i).map wWords) ∧ Same H1 H' ∧ Sc K a ns H') (hbig _ (by omega)) ⟨[], rfl, ⟨rfl, fun i q r h _ => by simp at h⟩, Same.refl _, S0⟩ ?_ ?_ ?_⟩
    · rintro i ys H' hi ⟨os, rfl, r, _, _⟩
      rw [List.length_map, r.1, List.length_map, overs_len]
      exact Nat.le_refl _
    · rintro i ys H' hi ⟨os, rfl, r, sm, Sm⟩ N hN
      (walk_at "RD")
      refine ⟨Sub.name, by decide +kernel, _, abc13_at i (by omega), show (Str.ofString "over").length + 1 ≤ sizeLine from (by decide +kernel), by decide, fun p1 hp1 => ?_⟩
      have eo : (HO.lst [V.str (Str.ofString "car"), V.str (Str.ofString "over" ++ { cps := #[97 + i] }), V.str (Str.ofString "0"), V.str (Str.ofString "1"), V.str (Str.ofString "0"), V.str (Str.ofString "0"), V.str (Str.ofString "1")]) = .lst (strsV (wWords (overD i))) := by rw [overD_words]; rfl
      rw [eo, show os.map V.ref ++ [V.ref p1] = (os ++ [p1]).map V.ref by rw [List.map_append]; rfl]
      exact hN _ _ ⟨os ++ [p1], rfl, by rw [overs_snoc, List.map_append]; exact (r.same (same_new hp1)).app (RQ.one upd_same), sm.trans (same_new hp1), Sm.new hp1⟩
    · rintro ys H' ⟨os, rfl, r, sm, Sm⟩ p1 hp1
      have sa := same_new (o := .lst (os.map V.ref)) hp1
      have Sa := Sm.new (o := .lst (os.map V.ref)) hp1
      have ea : (upd H' p1 (.lst (os.map V.ref))) p1 = some (.lst (os.map V.ref)) := upd_same
      generalize upd H' p1 (.lst (os.map V.ref)) = Ha at sa Sa ea ⊢
      have hol : os.length = 13 - ds.length := by rw [r.1, List.length_map, overs_len]
      refine ⟨_, rfl, _, sa _ _ (sm _ _ l1), _, ea, hbig _ (by rw [hql, List.length_map]; omega), ?_⟩
      rw [← List.map_append]
      intro p2 hp2
      have sb := same_new (o := .lst ((qs ++ os).map V.ref)) hp2
      have Sb := Sa.new (o := .lst ((qs ++ os).map V.ref)) hp2
      have eb : (upd Ha p2 (.lst ((qs ++ os).map V.ref))) p2 = some (.lst ((qs ++ os).map V.ref)) := upd_same
      generalize upd Ha p2 (.lst ((qs ++ os).map V.ref)) = Hb at sb Sb eb ⊢
      refine ⟨by decide, fun tp htp => ?_⟩
      have sall := (sm.trans sa).trans sb
      have hRL : RL Hb p2 (cRows n ds ++ (overs (13 - ds.length)).map wWords) := ⟨_, eb, (q0.same sall).app (r.same (sa.trans sb))⟩
      refine q tp p2 _ 13 0 _ (sall.trans (same_new htp)) (Sb.new htp) upd_same (hRL.same (same_new htp)) ⟨?_, fun x hx => ?_⟩ (by unfold cRows; simp) (flt_over hn D hl.2)
      · rw [List.length_append, hrl, List.length_map, overs_len]; omega
      · rcases List.mem_append.mp hx with z | z
        · exact cRows_good hC x z
        · obtain ⟨e, he, rfl⟩ := List.mem_map.mp z
          exact ⟨by unfold wWords; simp, show 7 ≤ 9 by decide, fun y hy => ((overs_ok hn.1 (by omega) e he).plain hn.2 y hy).b⟩
  (walk_at "RD")
  obtain ⟨qz, pz, lz1, lza, lzq, _, _⟩ := L.at (i := 0) (r := [S "ring", num n]) rfl
  refine ⟨_, SqL.of lz1, _, lza, by decide, ?_⟩
  intro p1 hp1
  have sa := same_new (o := .lst ([pz].map V.ref)) hp1
  have Sa := S0.new (o := .lst ([pz].map V.ref)) hp1
  have ea : (upd H1 p1 (.lst ([pz].map V.ref))) p1 = some (.lst ([pz].map V.ref)) := upd_same
  rw [show [V.ref pz] = [pz].map V.ref from rfl]
  generalize upd H1 p1 (.lst ([pz].map V.ref)) = Ha at sa Sa ea ⊢
  refine ⟨by decide, fun tp htp => ?_⟩
  have hRL : RL Ha p1 [[S "ring", num n]] := ⟨_, ea, RQ.one (sa _ _ lzq)⟩
  refine q tp p1 _ 1 0 _ (sa.trans (same_new htp)) (Sa.new htp) upd_same (hRL.same (same_new htp)) ⟨show 1 ≤ 20 by decide, fun x hx => ?_⟩ (by simp) (flt_none ⟨by omega, hn.2⟩)
  rw [List.mem_singleton.mp hx]
  exact cRows_good hC _ (List.mem_cons_self ..)
end
end My
namespace My
open PySem L2
/-! ### law -/
theorem eq_pair {K : PySem.W.Frag} {H : Hp} {p q : Addr} {a b : Int} (hp : SqT K H p [.int a, .int b]) (hq : SqT K H q [.int a, .int b]) : EqH K H 8 (.ref p) (.ref q) true := by
  have := EqH.tup (k := 7) (e := fun _ => true) hp hq (fun j x y h1 h2 => by
    rw [h1] at h2
    cases h2
    have hf : flatV x = true := by
      match j, h1 with
      | 0, h1 => cases h1; rfl
      | 1, h1 => cases h1; rfl
      | j + 2, h1 => simp at h1
    have := EqH.flat (K := K) (H := H) (k := 7) hf hf
    rw [eqV_self hf] at this
    exact this)
  exact this
theorem Flt.set {rows : List (List Str)} {i k l : Nat} {r : List Str} (h : Flt rows i k) (hl : i < l) : Flt (rows.set l r) i k := fun r0 rest e => by
  refine h r0 rest (e.trans (List.ext_getElem? fun j => ?_))
  rw [List.getElem?_take, List.getElem?_take]
  by_cases c : j < i + 1
  · rw [if_pos c, if_pos c, List.getElem?_set_ne (by omega)]
  · rw [if_neg c, if_neg c]
theorem GoodR.x1 {r : List Str} (h : GoodR r) : GoodR (r.set 0 (S "x1")) := by
  refine ⟨fun z => h.1 ?_, by rw [List.length_set]; exact h.2.1, fun x hx => ?_⟩
  · have := congrArg List.length z
    rw [List.length_set] at this
    exact List.length_eq_zero_iff.mp this
  · rcases List.mem_or_eq_of_mem_set hx with z | z
    · exact h.2.2 x z
    · rw [z]; exact bad0_plain _ (by decide +kernel)
theorem ROk.set {rows : List (List Str)} (h : ROk rows) {l : Nat} {r : List Str} (hr : GoodR r) : ROk (rows.set l r) := by
  refine ⟨by rw [List.length_set]; exact h.ln, fun x hx => ?_⟩
  rcases List.mem_or_eq_of_mem_set hx with z | z
  · exact h.al x z
  · rw [z]; exact hr
theorem RQ.set {H : Hp} {qs : List Addr} {rows : List (List Str)} (h : RQ H qs rows) (nd : qs.Nodup) {l : Nat} {q : Addr} (hq : qs[l]? = some q) (r : List Str) : RQ (upd H q (.lst (strsV r))) qs (rows.set l r) := by
  refine ⟨by rw [List.length_set]; exact h.1, fun i p x h1 h2 => ?_⟩
  by_cases c : i = l
  · subst c
    rw [hq] at h1
    cases h1
    rw [List.getElem?_set_self (by rw [← h.1]; exact (List.getElem?_eq_some_iff.mp hq).1)] at h2
    cases h2
    exact upd_same
  · rw [List.getElem?_set_ne (fun e => c e.symm)] at h2
    have hne : p ≠ q := fun e => by
      subst e
      obtain ⟨a1, b1⟩ := List.getElem?_eq_some_iff.mp h1
      obtain ⟨a2, b2⟩ := List.getElem?_eq_some_iff.mp hq
      exact c ((List.getElem_inj nd).mp (b1.trans b2.symm))
    rw [upd_ne hne]
    exact h.2 i p x h1 h2
section
variable {P : Program} {w : World} {K : PySem.W.Frag} {mg : Str → Option Value} {base : Heap} {t : Adr}
theorem ok_law (T : Txt w K mg t) : FnOk P w K mg base CX0 10 t.a_law t.d_law ["_law_script"] (spLaw K) := by
  refine T.F_law.ok sc_law (fun vs H Q E h => ?_) (fun cdv A outer s H vs Q E hr h => ?_)
  · obtain ⟨a, ns, rfl, _⟩ := h; rfl
  obtain ⟨a, ns, rfl, S00, h63, q⟩ := h
  have hU := hr.units
  have G__law_draw : FnOk P w K mg base CX0 9 t.a__law_draw t.d__law_draw ["_law_script", "_law_k", "_law_many"] (sp_draw K a ns) := (ok_draw T a ns h63).mono (by decide)
  have G__law_rows : FnOk P w K mg base CX0 9 t.a__law_rows t.d__law_rows ["_law_script"] (sp_lrows K a ns) := (ok_lrows T a ns h63).mono (by decide)
  have G__law_spoiled : FnOk P w K mg base CX0 9 t.a__law_spoiled t.d__law_spoiled ["_law_script", "_law_rows_here"] (sp_spoiled K a ns) := (ok_spoiled T a ns h63).mono (by decide)
  have G__law_other : FnOk P w K mg base CX0 9 t.a__law_other t.d__law_other ["_law_script", "_law_rows_here"] (sp_spoiled K a ns) := (ok_other T a ns h63).mono (by decide)
  have G__law_asked : FnOk P w K mg base CX0 9 t.a__law_asked t.d__law_asked ["_law_rows_here"] (sp_asked t) := ok_asked T
  refine ⟨_, (pss_cons (ps_set (i := 1) sc_law.nd rfl (Or.inl rfl) (pe_call G__law_rows hr rfl T.m__law_rows T.k__law_rows T.n__law_rows .nil pass0 (pa_cons (pv 0) pa_nil)))
      (pss_cons (ps_if (pt_cmpR (op_neL hU) (pe_call G__law_asked hr rfl T.m__law_asked T.k__law_asked T.n__law_asked .nil pass0 (pa_cons (pv 1) pa_nil)) (pe_tup (pa_cons (pe_un un_neg pe_int) (pa_cons (pe_un un_neg pe_int) pa_nil))) (nomark _)) (pss_one (ps_ret pe_bl)) pss_nil)
      (pss_cons (ps_set (i := 2) sc_law.nd rfl (Or.inl rfl) (pe_call G__law_spoiled hr rfl T.m__law_spoiled T.k__law_spoiled T.n__law_spoiled .nil pass0 (pa_cons (pv 0) (pa_cons (pv 1) pa_nil))))
      (pss_cons (ps_if (pt_cmpR op_eq (pe_call G__law_draw hr rfl T.m__law_draw T.k__law_draw T.n__law_draw .nil pass0 (pa_cons (pv 0) (pa_cons pe_int (pa_cons pe_int pa_nil)))) pe_int (nomark _)) (pss_one (ps_set (i := 2) sc_law.nd rfl (Or.inl rfl) (pe_call G__law_other hr rfl T.m__law_other T.k__law_other T.n__law_other .nil pass0 (pa_cons (pv 0) (pa_cons (pv 1) pa_nil))))) pss_nil)
      (pss_cons (ps_setComp (i := 3) sc_law.nd rfl (Or.inl rfl) rfl (pi_list (pe_ix ix_tup (pv 2) pe_int (fun _ _ => rfl))) (cscope_of (sc := defScope s_law) rfl (by decide +kernel)) (N := ["_law_row"]) (sel := [none]) (selOk_of (M := ["_law_script", "_law_rows_here", "_law_found", "_law_spoiled_here", "_law_last", "_law_told", "_law_number"]) (by decide +kernel)) (Blk.of (fun _ _ _ _ => (pg_name (i := 0) (nd_of (N := ["_law_row"]) (by decide +kernel) rfl) rfl (Or.inl rfl))) (fun _ _ _ _ => ⟨_, pts_nil, by first | rfl | (dsimp only [Cx.block]; done) | (dsimp only [Cx.block]; exact rfl)⟩) (fun _ _ _ _ => ⟨_, (pe_callTy call_list_of rfl T.b_list boot_t_list (pa_cons (pv 0) pa_nil)), by first | rfl | (dsimp only [Cx.block]; done) | (dsimp only [Cx.block]; exact rfl)⟩)) rfl)
      (pss_cons (ps_set (i := 4) sc_law.nd rfl (Or.inl rfl) (pe_op op_sub (pe_callB call_len_seq rfl T.b_len boot_b_len (pa_cons (pv 3) pa_nil)) pe_int))
      (pss_cons (ps_if (PW.pt (pw_and (pt_cmpR op_eq (pe_call G__law_draw hr rfl T.m__law_draw T.k__law_draw T.n__law_draw .nil pass0 (pa_cons (pv 0) (pa_cons pe_int (pa_cons pe_int pa_nil)))) pe_int (nomark _)) (pw_and1 (pt_cmpR op_gt (pv 4) (pe_ix ix_tup (pv 2) pe_int (fun _ _ => rfl)) (nomark _))))) (pss_one (ps_asg pe_str (pg_sub (pe_ix ix_list (pv 3) (pv 4) (fun _ _ => rfl)) pe_int set_list))) pss_nil)
      (pss_cons (ps_set (i := 5) sc_law.nd rfl (Or.inl rfl) (pe_call G__law_asked hr rfl T.m__law_asked T.k__law_asked T.n__law_asked .nil pass0 (pa_cons (pv 3) pa_nil)))
      (pss_cons (ps_for PassesOwn.never rfl (pi_tup (pv 5)) (pg_name (i := 6) sc_law.nd rfl (Or.inl rfl)) (pss_one (ps_if (PW.pt (pw_or (pt_not (pt_val (pe_callB call_isi rfl T.b_isinstance boot_b_isinstance (pa_cons (pv 6) (pa_cons (pe_bltn (v := .ty "int") rfl T.b_int boot_t_int rfl) pa_nil))))) (pw_or1 (pt_val (pe_callB call_isi rfl T.b_isinstance boot_b_isinstance (pa_cons (pv 6) (pa_cons (pe_bltn (v := .ty "bool") rfl T.b_bool boot_t_bool rfl) pa_nil))))))) (pss_one (ps_ret pe_bl)) pss_nil)))
      (pss_one (ps_ret (pe_cmpR (op_eqL hU) (pv 5) (pe_tup (pa_cons (pe_ix ix_tup (pv 2) pe_int (fun _ _ => rfl)) (pa_cons (pe_ix ix_tup (pv 2) pe_int (fun _ _ => rfl)) pa_nil))) (nomark _))))))))))))), ?_⟩
  simp only [tSeq_ap]
  refine tS_any (fun σ' H' => Same H H' ∧ Sc K a ns H' ∧ ∃ p n ds, RL H' p (cRows n ds) ∧ Ds6 n ds ∧ (3 ≤ n ∧ n ≤ 99) ∧ (1 ≤ ds.length ∧ ds.length ≤ 12) ∧ σ' = [some (.ref a), some (.ref p), none, none, none, none, none]) (fun D' hD _ _ _ => ?_) ?_
  · (walk_at "RD")
    exact ⟨rfl, S00, fun p n ds H' s1 S1 L D hn hl => hD _ _ ⟨s1, S1, p, n, ds, L, D, hn, hl, rfl⟩⟩
  rintro σ1 H1 ⟨s1, S1, p, n, ds, L, D, hn, hl, rfl⟩
  have hC := D.cok (by omega) hl
  simp only [tSeq_ap]
  refine tIfS_any (fun b H' => b = false ∧ Same H1 H' ∧ Sc K a ns H') (fun Q hQ => ?_) (fun H' hc => ?_) (fun H' hc => ?_)
  · (walk_at "RD")
    refine ⟨p, [Str.ofString "ring", num n], ds.map wWords, rfl, L, ⟨?_, fun x hx => cRows_good hC x hx⟩, S1.nt, fun tq H2 s2 n2 e2 => ⟨by decide, fun p1 hp1 => ⟨tq, rfl, true, ?_, hQ _ _ ⟨rfl, s2.trans (same_new hp1), (S1.same s2 n2).new hp1⟩⟩⟩⟩
    · rw [List.length_cons, List.length_map]; omega
    · rw [cross_good hC] at e2
      exact eq_pair (SqT.of (by rw [upd_ne (ne_of_none e2 hp1)]; exact e2)) (SqT.of upd_same)
  · cases hc.1
  obtain ⟨_, s2, S2⟩ := hc
  simp only [tNext_ap, tSeq_ap]
  refine tS_any (fun σ' H'' => Same H' H'' ∧ Sc K a ns H'' ∧ ∃ tp rl rows, ∃ i k : Nat, H'' tp = some (.tup [.ref rl, .int (i : Nat), .int (k : Nat)]) ∧ RL H'' rl rows ∧ ROk rows ∧ rows ≠ [] ∧ Flt rows i k ∧ σ' = [some (.ref a), some (.ref p), some (.ref tp), none, none, none, none]) (fun D' hD _ _ _ => ?_) ?_
  · (walk_at "RD")
    exact ⟨p, n, ds, rfl, S2, L.same s2, D, hn, hl, fun tp rl rows i k H'' s3 S3 e3 L3 hR hne hF => hD _ _ ⟨s3, S3, tp, rl, rows, i, k, e3, L3, hR, hne, hF, rfl⟩⟩
  rintro σ1 H3 ⟨s3, S3, tp, rl, rows, i, k, e3, L3, hR, hne, hF, rfl⟩
  simp only [tSeq_ap]
  refine tS_any (fun σ' H'' => Sc K a ns H'' ∧ ∃ tp rl rows, ∃ i k : Nat, H'' tp = some (.tup [.ref rl, .int (i : Nat), .int (k : Nat)]) ∧ RL H'' rl rows ∧ ROk rows ∧ rows ≠ [] ∧ Flt rows i k ∧ σ' = [some (.ref a), some (.ref p), some (.ref tp), none, none, none, none]) (fun D' hD _ _ _ => ?_) ?_
  · refine tIfS_by (decide (draw ns 12 3 = 1)) (fun Q hQ => ?_) (fun hc => ?_) (fun hc => ?_)
    · (walk_at "RD"; repeat (simp only [sp_draw]; walk_at "RD"))
      exact ⟨S3, by omega, by omega, by decide, hQ⟩
    · (walk_at "RD")
      exact ⟨p, n, ds, rfl, S3, L.same (s2.trans s3), D, hn, hl, fun tp rl rows i k H'' s4 S4 e3 L3 hR hne hF => hD _ _ ⟨S4, tp, rl, rows, i, k, e3, L3, hR, hne, hF, rfl⟩⟩
    · (walk_at "RD")
      exact hD _ _ ⟨S3, tp, rl, rows, i, k, e3, L3, hR, hne, hF, rfl⟩
  clear e3 L3 hR hne hF S3 s3
  rintro σ1 H3 ⟨S3, tp, rl, rows, i, k, e3, L3, hR, hne, hF, rfl⟩
  simp only [tSeq_ap]
  refine tS_any (fun σ' H'' => Sc K a ns H'' ∧ Same H3 H'' ∧ ∃ sp qs, H'' sp = some (.lst (qs.map V.ref)) ∧ RQ H'' qs rows ∧ qs.Nodup ∧ (∀ q ∈ qs, q ≠ sp ∧ H3 q = none) ∧ σ' = [some (.ref a), some (.ref p), some (.ref tp), some (.ref sp), none, none, none]) (fun D' hD _ _ _ => ?_) ?_
  · obtain ⟨qr, r1, r2, ral⟩ := L3
    have hqr : (qr.map V.ref).length ≤ 20 := by rw [List.length_map, r2]; exact hR.ln
    (walk_at "RD")
    refine ⟨_, SqT.of e3, _, atI_nat (j := 0) rfl, _, rfl, ⟨_, SqL.of r1⟩, ?_⟩
    refine CompR.list (xs := qr.map V.ref) (fun i ys H' => ∃ os : List Addr, ys = os.map V.ref ∧ RQ H' os (rows.take i) ∧ os.Nodup ∧ (∀ q ∈ os, H3 q = none) ∧ Same H3 H' ∧ Sc K a ns H') (Nat.le_trans hqr (by decide)) ⟨[], rfl, ⟨rfl, fun i q r h _ => by simp at h⟩, List.nodup_nil, fun q h => by simp at h, Same.refl _, S3⟩ ?_ ?_ ?_
    · rintro i ys H' hi ⟨os, rfl, r, _, _, sm, _⟩
      refine ⟨(SqL.of r1).same sm, ?_⟩
      rw [List.length_map, r.1, List.length_take]
      omega
    · rintro i x ys H' hx ⟨os, rfl, r, nd, fr, sm, Sm⟩ N hN
      obtain ⟨qi, hqi, rfl⟩ := map_at hx
      have hi' : i < rows.length := by rw [← r2]; exact (List.getElem?_eq_some_iff.mp hqi).1
      have hri : rows[i]? = some rows[i] := List.getElem?_eq_getElem hi'
      have hq := ral i qi _ hqi hri
      (walk_at "RD")
      refine ⟨Sub.name, _, .inl (SqL.of (sm _ _ hq)), fun p1 hp1 => ?_⟩
      rw [show os.map V.ref ++ [V.ref p1] = (os ++ [p1]).map V.ref by rw [List.map_append]; rfl]
      have hlt : os.length = i := by rw [r.1, List.length_take]; omega
      refine hN _ _ ⟨os ++ [p1], rfl, ?_, ?_, fun q hq => ?_, sm.trans (same_new hp1), Sm.new hp1⟩
      · rw [List.take_add_one, hri]
        exact (r.same (same_new hp1)).app (RQ.one upd_same)
      · refine List.nodup_append.mpr ⟨nd, by simp, fun x hx y hy e => ?_⟩
        rw [List.mem_singleton.mp hy] at e
        obtain ⟨j, hj⟩ := List.getElem?_of_mem hx
        have hjl := (List.getElem?_eq_some_iff.mp hj).1
        obtain ⟨rj, hrj⟩ : ∃ rj, (rows.take i)[j]? = some rj := ⟨_, List.getElem?_eq_getElem (by rw [← r.1]; exact hjl)⟩
        have := r.2 j x rj hj hrj
        rw [e, hp1] at this
        cases this
      · rcases List.mem_append.mp hq with z | z
        · exact fr q z
        · rw [List.mem_singleton.mp z]; exact sm.free hp1
    · rintro ys H' ⟨os, rfl, r, nd, fr, sm, Sm⟩ p1 hp1
      rw [List.take_of_length_le (by rw [List.length_map, r2]; exact Nat.le_refl _)] at r
      refine hD _ _ ⟨Sm.new hp1, sm.trans (same_new hp1), p1, os, upd_same, r.same (same_new hp1), nd, fun q hq => ⟨fun e => ?_, fr q hq⟩, rfl⟩
      obtain ⟨j, hj⟩ := List.getElem?_of_mem hq
      have hjl := (List.getElem?_eq_some_iff.mp hj).1
      obtain ⟨rj, hrj⟩ : ∃ rj, rows[j]? = some rj := ⟨_, List.getElem?_eq_getElem (by rw [← r.1]; exact hjl)⟩
      have := r.2 j q rj hj hrj
      rw [e, hp1] at this
      cases this
  rintro σ1 H4 ⟨S4, s4, sp, qs, e4, r4, nd4, f4, rfl⟩
  simp only [tSeq_ap]
  refine tS_any (fun σ' H'' => H'' = H4 ∧ σ' = [some (.ref a), some (.ref p), some (.ref tp), some (.ref sp), some (.int ((rows.length - 1 : Nat) : Int)), none, none]) (fun D' hD _ _ _ => ?_) ?_
  · have hp0 : 0 < rows.length := List.length_pos_iff.mpr hne
    (walk_at "RD")
    refine ⟨_, .inl (SqL.of e4), hD _ _ ⟨rfl, ?_⟩⟩
    rw [List.length_map, r4.1, show ((rows.length : Nat) : Int) - 1 = ((rows.length - 1 : Nat) : Int) by omega]
  rintro σ1 H5 ⟨rfl, rfl⟩
  simp only [tSeq_ap]
  refine tS_any (fun σ' H'' => Sc K a ns H'' ∧ H'' tp = some (.tup [.ref rl, .int (i : Nat), .int (k : Nat)]) ∧ ∃ rows', RL H'' sp rows' ∧ ROk rows' ∧ rows' ≠ [] ∧ Flt rows' i k ∧ σ' = [some (.ref a), some (.ref p), some (.ref tp), some (.ref sp), some (.int ((rows.length - 1 : Nat) : Int)), none, none]) (fun D' hD _ _ _ => ?_) ?_
  · have hp0 : 0 < rows.length := List.length_pos_iff.mpr hne
    have e3' := s4 _ _ e3
    refine tIfS_by (decide (draw ns 13 2 = 1) && decide (i < rows.length - 1)) (fun Q hQ => ?_) (fun hc => ?_) (fun hc => ?_)
    · (walk_at "RD"; repeat (simp only [sp_draw]; walk_at "RD"))
      refine ⟨S4, by omega, by omega, by decide, ?_⟩
      by_cases z : draw ns 13 2 = 1
      · rw [if_pos (decide_eq_true z)]
        rw [decide_eq_true z, Bool.true_and] at hQ
        refine ⟨_, SqT.of e3', _, atI_nat (j := 1) rfl, ?_⟩
        refine ⟨_, rfl, ?_⟩
        rw [show decide (((i : Nat) : Int) < ((rows.length - 1 : Nat) : Int)) = decide (i < rows.length - 1) by rw [Bool.eq_iff_iff, decide_eq_true_eq, decide_eq_true_eq]; omega]
        exact hQ
      · rw [if_neg (by rw [decide_eq_true_eq]; exact z)]
        rw [decide_eq_false z, Bool.false_and] at hQ
        exact hQ
    · rw [Bool.and_eq_true, decide_eq_true_eq, decide_eq_true_eq] at hc
      have hlast : rows.length - 1 < qs.length := by rw [r4.1]; omega
      have hql : qs[rows.length - 1]? = some qs[rows.length - 1] := List.getElem?_eq_getElem hlast
      have hrl : rows[rows.length - 1]? = some rows[rows.length - 1] := List.getElem?_eq_getElem (by omega)
      have hql2 := r4.2 _ _ _ hql hrl
      have hgood := hR.al _ (List.mem_of_getElem? hrl)
      obtain ⟨hsp, hf3⟩ := f4 _ (List.mem_of_getElem? hql)
      generalize qs[rows.length - 1] = ql at hql hql2 hsp hf3
      generalize rows[rows.length - 1] = rlast at hrl hql2 hgood
      have htq : tp ≠ ql := fun e => by rw [e, hql2] at e3'; cases e3'
      have hpos : 0 < rlast.length := List.length_pos_iff.mpr hgood.1
      (walk_at "RD")
      refine ⟨_, SqL.of e4, _, atI_nat (by rw [List.getElem?_map, hql]; rfl), _, rfl, _, hql2, 0, ?_, ?_⟩
      · rw [strsV_len]
        exact ix_in (k := 0) hpos
      · rw [strsV_set]
        exact hD _ _ ⟨S4.set hql2 (fun ob z e => by cases e), by rw [upd_ne htq]; exact e3', rows.set (rows.length - 1) (rlast.set 0 (S "x1")), ⟨qs, by rw [upd_ne (Ne.symm hsp)]; exact e4, r4.set nd4 hql _⟩, hR.set (GoodR.x1 hgood), fun z => by have := congrArg List.length z; rw [List.length_set] at this; exact hne (List.length_eq_zero_iff.mp this), hF.set hc.2, rfl⟩
    · (walk_at "RD")
      exact hD _ _ ⟨S4, e3', rows, ⟨qs, e4, r4⟩, hR, hne, hF, rfl⟩
  rintro σ1 H6 ⟨S6, e6, rows', L6, hR6, hne6, hF6, rfl⟩
  simp only [tSeq_ap]
  refine tS_any (fun σ' H'' => Same H6 H'' ∧ ∃ tq, H'' tq = some (.tup [.int (i : Nat), .int (k : Nat)]) ∧ σ' = [some (.ref a), some (.ref p), some (.ref tp), some (.ref sp), some (.int ((rows.length - 1 : Nat) : Int)), some (.ref tq), none]) (fun D' hD _ _ _ => ?_) ?_
  · (walk_at "RD")
    cases rows' with
    | nil => exact absurd rfl hne6
    | cons r0 rest =>
      refine ⟨sp, r0, rest, rfl, L6, hR6, S6.nt, fun tq H'' s7 _ e7 => hD _ _ ⟨s7, tq, ?_, rfl⟩⟩
      rw [hF6 r0 rest rfl] at e7
      exact e7
  rintro σ1 H7 ⟨s7, tq, e7, rfl⟩
  (walk_at "RD")
  refine ⟨⟨_, SqT.of e7⟩, ?_⟩
  refine for_tup (xs := [.int (i : Nat), .int (k : Nat)]) (fun j σ H'' => H'' = H7 ∧ ∃ x, σ = [some (.ref a), some (.ref p), some (.ref tp), some (.ref sp), some (.int ((rows.length - 1 : Nat) : Int)), some (.ref tq), x]) ⟨rfl, _, rfl⟩ (fun j σ H'' _ h => by obtain ⟨rfl, _⟩ := h; exact SqT.of e7) ?_ ?_
  · rintro j x σ H'' hx ⟨rfl, y, rfl⟩
    have hxi : ∃ v, x = .int v := by
      match j, hx with
      | 0, hx => cases hx; exact ⟨_, rfl⟩
      | 1, hx => cases hx; exact ⟨_, rfl⟩
      | j + 2, hx => simp at hx
    obtain ⟨v, rfl⟩ := hxi
    (walk_at "RD")
    refine tIfS_by false (fun Q hQ => ?_) (fun hc => ?_) (fun _ => ?_)
    · (walk_at "RD")
      refine ⟨_, .int _, _, rfl, ?_⟩
      (walk_at "RD")
      refine ⟨_, .int _, _, rfl, ?_⟩
      (walk_at "RD")
      exact hQ
    · cases hc
    · (walk_at "RD")
      exact ⟨_, rfl⟩
  · rintro σ H'' ⟨rfl, y, rfl⟩
    have e6' := s7 _ _ e6
    (walk_at "RD")
    refine ⟨_, SqT.of e6', _, atI_nat (j := 1) rfl, _, SqT.of e6', _, atI_nat (j := 2) rfl, by decide, fun p1 hp1 => ⟨true, eq_pair (SqT.of (by rw [upd_ne (ne_of_none e7 hp1)]; exact e7)) (SqT.of upd_same), q _⟩⟩
end
end My
def PySem.W.Fast.tw9450712885006685199 : Nat := 0
def PySem.W.Fast.tw15939250770321272899 : Nat := 0
def PySem.W.Fast.tw18210882379773424598 : Nat := 0
def PySem.W.Fast.tw7689674771490613496 : Nat := 0
def PySem.W.Fast.tw4830559479409260297 : Nat := 0
def PySem.W.Fast.tw10196276677319125264 : Nat := 0
def PySem.W.Fast.tw14054131696515126557 : Nat := 0
def PySem.W.Fast.tw5560084781391238300 : Nat := 0
def PySem.W.Fast.tw6024427849917731620 : Nat := 0
def PySem.W.Fast.tw10170028931267546313 : Nat := 0
def PySem.W.Fast.tw11573028440969660887 : Nat := 0
open PySem PySem.W PyProof.Rows
set_option maxRecDepth 100000 in
set_option maxHeartbeats 0 in
theorem PySem.Challenge.cw_lampway_k06_a_crossing_refused_holds : PySem.Challenge.rw_lampway_k06_a_crossing_refused.Holds := by
  w_on; o_law; k_head; (case hw => w_witness2)
  k_fill
  refine L2.walk_ofK (l := PySem.Challenge.rw_lampway_k06_a_crossing_refused) (n := 63) (k := 10) (x := "_law_script") (CX := L2.CX0) (sp := L2.spLaw) rfl (by decide) rfl ⟨rfl, by decide, by decide⟩ (fun w h Y => PySem.W.kIn_of Y) ?F ?S ?C
  case F =>
    intro w mg fa h KX G hmg
    have T : ∃ t, My.Txt w (L2.KOf KX) mg t := by
      dsimp only [L2.KOf]
      refine' My.txt_mk KX G ?e1_words ?e2_words ?e3_words ?e4_words ?e1_is_made_of ?e2_is_made_of ?e3_is_made_of ?e4_is_made_of ?e1_is_number ?e2_is_number ?e3_is_number ?e4_is_number ?e1_figured ?e2_figured ?e3_figured ?e4_figured ?e1_is_name ?e2_is_name ?e3_is_name ?e4_is_name ?e1_readers ?e2_readers ?e3_readers ?e4_readers ?e1_read_ring ?e2_read_ring ?e3_read_ring ?e4_read_ring ?e1_read_new_name ?e2_read_new_name ?e3_read_new_name ?e4_read_new_name ?e1_read_end ?e2_read_end ?e3_read_end ?e4_read_end ?e1_made_way ?e2_made_way ?e3_made_way ?e4_made_way ?e1_read_way ?e2_read_way ?e3_read_way ?e4_read_way ?e1_read_crossing ?e2_read_crossing ?e3_read_crossing ?e4_read_crossing ?e1__law_draw ?e2__law_draw ?e3__law_draw ?e4__law_draw ?e1__law_rows ?e2__law_rows ?e3__law_rows ?e4__law_rows ?e1__law_beyond ?e2__law_beyond ?e3__law_beyond ?e4__law_beyond ?e1__law_low ?e2__law_low ?e3__law_low ?e4__law_low ?e1__law_spoiled ?e2__law_spoiled ?e3__law_spoiled ?e4__law_spoiled ?e1__law_other ?e2__law_other ?e3__law_other ?e4__law_other ?e1__law_asked ?e2__law_asked ?e3__law_asked ?e4__law_asked ?e1_law ?e2_law ?e3_law ?e4_law ?eC_NoText ?e1_NoText_init ?e2_NoText_init ?e3_NoText_init ?e4_NoText_init ?i_NoText_init ?eC_RowReader ?e1_RowReader_init ?e2_RowReader_init ?e3_RowReader_init ?e4_RowReader_init ?i_RowReader_init ?e1_RowReader_ahead ?e2_RowReader_ahead ?e3_RowReader_ahead ?e4_RowReader_ahead ?i_RowReader_ahead ?e1_RowReader_has_more ?e2_RowReader_has_more ?e3_RowReader_has_more ?e4_RowReader_has_more ?i_RowReader_has_more ?e1_RowReader_refuse ?e2_RowReader_refuse ?e3_RowReader_refuse ?e4_RowReader_refuse ?i_RowReader_refuse ?e1_RowReader_take ?e2_RowReader_take ?e3_RowReader_take ?e4_RowReader_take ?i_RowReader_take ?e1_RowReader_one_of ?e2_RowReader_one_of ?e3_RowReader_one_of ?e4_RowReader_one_of ?i_RowReader_one_of ?e1_RowReader_figures ?e2_RowReader_figures ?e3_RowReader_figures ?e4_RowReader_figures ?i_RowReader_figures ?e1_RowReader_finish ?e2_RowReader_finish ?e3_RowReader_finish ?e4_RowReader_finish ?i_RowReader_finish ?eC_Way ?e1_Way_init ?e2_Way_init ?e3_Way_init ?e4_Way_init ?i_Way_init ?eC_CarWay ?e1_CarWay_init ?e2_CarWay_init ?e3_CarWay_init ?e4_CarWay_init ?i_CarWay_init ?eC_FootWay ?e1_FootWay_init ?e2_FootWay_init ?e3_FootWay_init ?e4_FootWay_init ?i_FootWay_init ?eC_TramWay ?e1_TramWay_init ?e2_TramWay_init ?e3_TramWay_init ?e4_TramWay_init ?i_TramWay_init ?eC_Crossing ?e1_Crossing_init ?e2_Crossing_init ?e3_Crossing_init ?e4_Crossing_init ?i_Crossing_init ?e1_Crossing_number ?e2_Crossing_number ?e3_Crossing_number ?e4_Crossing_number ?i_Crossing_number ?e1_Crossing_called ?e2_Crossing_called ?e3_Crossing_called ?e4_Crossing_called ?i_Crossing_called ?pg_RowReader ?hd_RowReader ?po_RowReader ?sa_RowReader ?mk_RowReader ?kc_RowReader ?nA_RowReader_row ?nA_RowReader_told ?nA_RowReader_place ?pg_Way ?hd_Way ?po_Way ?sa_Way ?nA_Way_kind ?nA_Way_name ?nA_Way_start ?nA_Way_end ?nA_Way_off ?nA_Way_near ?nA_Way_least ?pg_CarWay ?hd_CarWay ?po_CarWay ?sa_CarWay ?mk_CarWay ?kc_CarWay ?nA_CarWay_kind ?nA_CarWay_name ?nA_CarWay_start ?nA_CarWay_end ?nA_CarWay_off ?nA_CarWay_near ?nA_CarWay_least ?pg_FootWay ?hd_FootWay ?po_FootWay ?sa_FootWay ?mk_FootWay ?kc_FootWay ?nA_FootWay_kind ?nA_FootWay_name ?nA_FootWay_start ?nA_FootWay_end ?nA_FootWay_off ?nA_FootWay_near ?nA_FootWay_least ?pg_TramWay ?hd_TramWay ?po_TramWay ?sa_TramWay ?mk_TramWay ?kc_TramWay ?nA_TramWay_kind ?nA_TramWay_name ?nA_TramWay_start ?nA_TramWay_end ?nA_TramWay_off ?nA_TramWay_near ?nA_TramWay_least ?pg_Crossing ?hd_Crossing ?po_Crossing ?sa_Crossing ?mk_Crossing ?kc_Crossing ?nA_Crossing_places ?nA_Crossing_ways ?nA_Crossing_numbers ?eC_LampError ?br_LampError ?bf_LampError ?bg_LampError ?hd_NoText ?ov_NoText ?sa_NoText ?ga_NoText ?gt_NoText ?ei_NoText ?kc_NoText ?nA_NoText_row ?nA_NoText_word ?ex_NoText_LampError ?ex_NoText_NoText ?dC_Way_CarWay ?dC_Way_FootWay ?dC_Way_TramWay ?dC_CarWay_FootWay ?dC_CarWay_TramWay ?dC_FootWay_TramWay ?cr_Way_init ?cf_Way_init ?cg_Way_init ?g_FIGURES ?g_LEAST_PLACES ?g_LETTERS ?g_MOST_FIGURES ?g_MOST_LEAST ?g_MOST_LETTERS ?g_MOST_NEAR ?g_MOST_OFF ?g_MOST_PLACES ?g_MOST_WAYS ?b_all ?b_bool ?b_enumerate ?b_int ?b_isinstance ?b_len ?b_list ?b_range ?b_str
      (case e1_words => k_is); (case e2_words => k_is); (case e3_words => k_is); (case e4_words => k_is); (case e1_is_made_of => k_is); (case e2_is_made_of => k_is); (case e3_is_made_of => k_is); (case e4_is_made_of => k_is); (case e1_is_number => k_is); (case e2_is_number => k_is); (case e3_is_number => k_is); (case e4_is_number => k_is); (case e1_figured => k_is); (case e2_figured => k_is); (case e3_figured => k_is); (case e4_figured => k_is); (case e1_is_name => k_is); (case e2_is_name => k_is); (case e3_is_name => k_is); (case e4_is_name => k_is); (case e1_readers => k_is); (case e2_readers => k_is); (case e3_readers => k_is); (case e4_readers => k_is); (case e1_read_ring => k_is); (case e2_read_ring => k_is); (case e3_read_ring => k_is); (case e4_read_ring => k_is); (case e1_read_new_name => k_is); (case e2_read_new_name => k_is); (case e3_read_new_name => k_is); (case e4_read_new_name => k_is); (case e1_read_end => k_is); (case e2_read_end => k_is); (case e3_read_end => k_is); (case e4_read_end => k_is); (case e1_made_way => k_is); (case e2_made_way => k_is); (case e3_made_way => k_is); (case e4_made_way => k_is); (case e1_read_way => k_is); (case e2_read_way => k_is); (case e3_read_way => k_is); (case e4_read_way => k_is); (case e1_read_crossing => k_is); (case e2_read_crossing => k_is); (case e3_read_crossing => k_is); (case e4_read_crossing => k_is); (case e1__law_draw => k_is); (case e2__law_draw => k_is); (case e3__law_draw => k_is); (case e4__law_draw => k_is); (case e1__law_rows => k_is); (case e2__law_rows => k_is); (case e3__law_rows => k_is); (case e4__law_rows => k_is); (case e1__law_beyond => k_is); (case e2__law_beyond => k_is); (case e3__law_beyond => k_is); (case e4__law_beyond => k_is); (case e1__law_low => k_is); (case e2__law_low => k_is); (case e3__law_low => k_is); (case e4__law_low => k_is); (case e1__law_spoiled => k_is); (case e2__law_spoiled => k_is); (case e3__law_spoiled => k_is); (case e4__law_spoiled => k_is); (case e1__law_other => k_is); (case e2__law_other => k_is); (case e3__law_other => k_is); (case e4__law_other => k_is); (case e1__law_asked => k_is); (case e2__law_asked => k_is); (case e3__law_asked => k_is); (case e4__law_asked => k_is); (case e1_law => k_is); (case e2_law => k_is); (case e3_law => k_is); (case e4_law => k_is); (case eC_NoText => k_is); (case e1_NoText_init => k_is); (case e2_NoText_init => k_is); (case e3_NoText_init => k_is); (case e4_NoText_init => k_is); (case i_NoText_init => k_is); (case eC_RowReader => k_is); (case e1_RowReader_init => k_is); (case e2_RowReader_init => k_is); (case e3_RowReader_init => k_is); (case e4_RowReader_init => k_is); (case i_RowReader_init => k_is); (case e1_RowReader_ahead => k_is); (case e2_RowReader_ahead => k_is); (case e3_RowReader_ahead => k_is); (case e4_RowReader_ahead => k_is); (case i_RowReader_ahead => k_is); (case e1_RowReader_has_more => k_is); (case e2_RowReader_has_more => k_is); (case e3_RowReader_has_more => k_is); (case e4_RowReader_has_more => k_is); (case i_RowReader_has_more => k_is); (case e1_RowReader_refuse => k_is); (case e2_RowReader_refuse => k_is); (case e3_RowReader_refuse => k_is); (case e4_RowReader_refuse => k_is); (case i_RowReader_refuse => k_is); (case e1_RowReader_take => k_is); (case e2_RowReader_take => k_is); (case e3_RowReader_take => k_is); (case e4_RowReader_take => k_is); (case i_RowReader_take => k_is); (case e1_RowReader_one_of => k_is); (case e2_RowReader_one_of => k_is); (case e3_RowReader_one_of => k_is); (case e4_RowReader_one_of => k_is); (case i_RowReader_one_of => k_is); (case e1_RowReader_figures => k_is); (case e2_RowReader_figures => k_is); (case e3_RowReader_figures => k_is); (case e4_RowReader_figures => k_is); (case i_RowReader_figures => k_is); (case e1_RowReader_finish => k_is); (case e2_RowReader_finish => k_is); (case e3_RowReader_finish => k_is); (case e4_RowReader_finish => k_is); (case i_RowReader_finish => k_is); (case eC_Way => k_is); (case e1_Way_init => k_is); (case e2_Way_init => k_is); (case e3_Way_init => k_is); (case e4_Way_init => k_is); (case i_Way_init => k_is); (case eC_CarWay => k_is); (case e1_CarWay_init => k_is); (case e2_CarWay_init => k_is); (case e3_CarWay_init => k_is); (case e4_CarWay_init => k_is); (case i_CarWay_init => k_is); (case eC_FootWay => k_is); (case e1_FootWay_init => k_is); (case e2_FootWay_init => k_is); (case e3_FootWay_init => k_is); (case e4_FootWay_init => k_is); (case i_FootWay_init => k_is); (case eC_TramWay => k_is); (case e1_TramWay_init => k_is); (case e2_TramWay_init => k_is); (case e3_TramWay_init => k_is); (case e4_TramWay_init => k_is); (case i_TramWay_init => k_is); (case eC_Crossing => k_is); (case e1_Crossing_init => k_is); (case e2_Crossing_init => k_is); (case e3_Crossing_init => k_is); (case e4_Crossing_init => k_is); (case i_Crossing_init => k_is); (case e1_Crossing_number => k_is); (case e2_Crossing_number => k_is); (case e3_Crossing_number => k_is); (case e4_Crossing_number => k_is); (case i_Crossing_number => k_is); (case e1_Crossing_called => k_is); (case e2_Crossing_called => k_is); (case e3_Crossing_called => k_is); (case e4_Crossing_called => k_is); (case i_Crossing_called => k_is); (case pg_RowReader => k_is); (case hd_RowReader => k_is); (case po_RowReader => k_is); (case sa_RowReader => k_is); (case mk_RowReader => k_is); (case kc_RowReader => k_is); (case nA_RowReader_row => k_is); (case nA_RowReader_told => k_is); (case nA_RowReader_place => k_is); (case pg_Way => k_is); (case hd_Way => k_is); (case po_Way => k_is); (case sa_Way => k_is); (case nA_Way_kind => k_is); (case nA_Way_name => k_is); (case nA_Way_start => k_is); (case nA_Way_end => k_is); (case nA_Way_off => k_is); (case nA_Way_near => k_is); (case nA_Way_least => k_is); (case pg_CarWay => k_is); (case hd_CarWay => k_is); (case po_CarWay => k_is); (case sa_CarWay => k_is); (case mk_CarWay => k_is); (case kc_CarWay => k_is); (case nA_CarWay_kind => k_is); (case nA_CarWay_name => k_is); (case nA_CarWay_start => k_is); (case nA_CarWay_end => k_is); (case nA_CarWay_off => k_is); (case nA_CarWay_near => k_is); (case nA_CarWay_least => k_is); (case pg_FootWay => k_is); (case hd_FootWay => k_is); (case po_FootWay => k_is); (case sa_FootWay => k_is); (case mk_FootWay => k_is); (case kc_FootWay => k_is); (case nA_FootWay_kind => k_is); (case nA_FootWay_name => k_is); (case nA_FootWay_start => k_is); (case nA_FootWay_end => k_is); (case nA_FootWay_off => k_is); (case nA_FootWay_near => k_is); (case nA_FootWay_least => k_is); (case pg_TramWay => k_is); (case hd_TramWay => k_is); (case po_TramWay => k_is); (case sa_TramWay => k_is); (case mk_TramWay => k_is); (case kc_TramWay => k_is); (case nA_TramWay_kind => k_is); (case nA_TramWay_name => k_is); (case nA_TramWay_start => k_is); (case nA_TramWay_end => k_is); (case nA_TramWay_off => k_is); (case nA_TramWay_near => k_is); (case nA_TramWay_least => k_is); (case pg_Crossing => k_is); (case hd_Crossing => k_is); (case po_Crossing => k_is); (case sa_Crossing => k_is); (case mk_Crossing => k_is); (case kc_Crossing => k_is); (case nA_Crossing_places => k_is); (case nA_Crossing_ways => k_is); (case nA_Crossing_numbers => k_is); (case eC_LampError => k_is); (case br_LampError => k_is); (case bf_LampError => k_is); (case bg_LampError => k_is); (case hd_NoText => k_is); (case ov_NoText => kernel_rfl); (case sa_NoText => k_is); (case ga_NoText => k_is); (case gt_NoText => k_is); (case ei_NoText => kernel_rfl); (case kc_NoText => k_is); (case nA_NoText_row => k_is); (case nA_NoText_word => k_is); (case ex_NoText_LampError => kernel_rfl); (case ex_NoText_NoText => kernel_rfl); (case dC_Way_CarWay => decide); (case dC_Way_FootWay => decide); (case dC_Way_TramWay => decide); (case dC_CarWay_FootWay => decide); (case dC_CarWay_TramWay => decide); (case dC_FootWay_TramWay => decide); (case cr_Way_init => k_is); (case cf_Way_init => k_is); (case cg_Way_init => k_is); (case g_FIGURES => k_is); (case g_LEAST_PLACES => k_is); (case g_LETTERS => k_is); (case g_MOST_FIGURES => k_is); (case g_MOST_LEAST => k_is); (case g_MOST_LETTERS => k_is); (case g_MOST_NEAR => k_is); (case g_MOST_OFF => k_is); (case g_MOST_PLACES => k_is); (case g_MOST_WAYS => k_is); (case b_all => k_is); (case b_bool => k_is); (case b_enumerate => k_is); (case b_int => k_is); (case b_isinstance => k_is); (case b_len => k_is); (case b_list => k_is); (case b_range => k_is); (case b_str => k_is)
    obtain ⟨t, T⟩ := T
    have e0 := hmg.symm.trans T.m_law
    cases e0
    exact ⟨t.d_law, T.bl_law, fun base kb nb => My.ok_law T⟩
  case S => exact fun K H a ns hl hO hS => ⟨a, ns, rfl, L2.Sc.of_only hO hS, hl, fun _ => rfl⟩
  case C => exact fun _ _ _ _ z => z
