import PyProof.Rows.All
import Wide.All
import OpenK.AllK
import Wide.FinOn
import Lean
import PyProof.EqAt
import PyProof.EqKinds
import PyProof.TupleCall
import KE.KTryMore
import PyProof.NsDelKeeps
import PySem.Challenge.RW_lampway_k60_begins_that_do
set_option Elab.async false
set_option linter.all false
set_option maxRecDepth 100000
namespace L2
open PySem PySem.Spec PyProof.Rows
noncomputable abbrev Key:=Sum Int Str
noncomputable def zu:Key→Value→Bool
 | .inl k,v=>Value.isInt k v
 | .inr x,v=>Value.isStrOf x v
noncomputable def BI (w:World):Key→Int
 | .inl k=>hashInt k
 | .inr x=>hashStr w x
theorem bd:∀ {k:Key} {v:Value},zu k v=true→(∃ i t,k=Sum.inl i∧v=Value.int i t)∨(∃ x t,k=Sum.inr x∧v=Value.str x t)
 | .inl i,v,h=>by
  obtain ⟨t,e⟩:=Value.isInt_shape (k:=i) (v:=v) h
  exact .inl ⟨i,t,rfl,e⟩
 | .inr x,v,h=>by
  obtain ⟨t,e⟩:=Value.isStrOf_shape (x:=x) (v:=v) h
  exact .inr ⟨x,t,rfl,e⟩
theorem Pw (i:Int) (t:Tok):zu (.inl i) (.int i t)=true:=by simp [zu,Value.isInt]
theorem Vw (x:Str) (t:Tok):zu (.inr x) (.str x t)=true:=by simp [zu,Value.isStrOf]
theorem yE (a b:Int):decide ((Sum.inl a:Key)=Sum.inl b)=(a == b):=by
 by_cases e:a=b
 ·subst e;simp
 ·have h:¬ (Sum.inl a:Key)=Sum.inl b:=fun q=>e (Sum.inl.inj q)
  rw [decide_eq_false h]
  exact (beq_eq_false_iff_ne.mpr e).symm
theorem VF (a b:Str):decide ((Sum.inr a:Key)=Sum.inr b)=decide (a=b):=by
 by_cases e:a=b
 ·subst e;simp
 ·have h:¬ (Sum.inr a:Key)=Sum.inr b:=fun q=>e (Sum.inr.inj q)
  rw [decide_eq_false h,decide_eq_false e]
theorem jG (a:Int) (b:Str):decide ((Sum.inl a:Key)=Sum.inr b)=false:=decide_eq_false (fun q=>nomatch q)
theorem mG (a:Str) (b:Int):decide ((Sum.inr a:Key)=Sum.inl b)=false:=decide_eq_false (fun q=>nomatch q)
noncomputable def vd (prog:Program) (w:World):PySem.KeyKind prog w Key where
 is:=zu
 hash:=BI w
 inj:=fun v a b ha hb=>by
  rcases bd ha with ⟨i,t,rfl,rfl⟩ | ⟨x,t,rfl,rfl⟩
  ·rcases bd hb with ⟨j,u,rfl,e⟩ | ⟨y,u,rfl,e⟩
   ·injection e with e1 _;rw [e1]
   ·exact nomatch e
  ·rcases bd hb with ⟨j,u,rfl,e⟩ | ⟨y,u,rfl,e⟩
   ·exact nomatch e
   ·injection e with e1 _;rw [e1]
 byValue:=fun k v h=>by
  rcases bd h with ⟨i,t,rfl,rfl⟩ | ⟨x,t,rfl,rfl⟩ <;> rfl
 pyHash:=fun hv h=>by
  rcases bd hv with ⟨i,t,rfl,rfl⟩ | ⟨x,t,rfl,rfl⟩
  ·exact wpAny_pyHash_int h
  ·exact wpAny_pyHash_str h
 eqBool:=fun hu hv h=>by
  rcases bd hu with ⟨i,t,rfl,rfl⟩ | ⟨x,t,rfl,rfl⟩
  ·rcases bd hv with ⟨j,u,rfl,rfl⟩ | ⟨y,u,rfl,rfl⟩
   ·rw [yE] at h;exact wpAny_eqBool_int h
   ·rw [jG] at h;exact SeqAt.EqAt.int_str i t y u _ _ _ _ h
  ·rcases bd hv with ⟨j,u,rfl,rfl⟩ | ⟨y,u,rfl,rfl⟩
   ·rw [mG] at h;exact SeqAt.EqAt.str_int x t j u _ _ _ _ h
   ·rw [VF] at h;exact wpAny_eqBool_str h
 «strs»:=fun k x t v h=>by
  rcases bd h with ⟨i,u,rfl,e⟩ | ⟨y,u,rfl,e⟩
  ·exact nomatch e
  ·injection e with e1 _
   subst e1
   cases v <;> rfl
theorem Jr (prog:Program) (w:World) (i:Int) (t:Tok):(vd prog w).is (.inl i) (.int i t)=true:=Pw i t
theorem Sr (prog:Program) (w:World) (x:Str) (t:Tok):(vd prog w).is (.inr x) (.str x t)=true:=Vw x t
end L2
namespace L2
open PySem PySem.Spec PyProof.Rows
inductive V where
 | non | bl (b:Bool) | int (i:Int) | str (x:Str) | byt (b:Array UInt8) | flt (b:UInt64) | ref (a:Addr) | ty (n:String)
 deriving DecidableEq
noncomputable def Qc:V→Value→Prop
 | .non,u=>u=Value.none
 | .bl b,u=>u=Value.bool b
 | .int i,u=>∃ t,u=Value.int i t
 | .str x,u=>∃ t,u=Value.str x t
 | .byt b,u=>∃ t,u=Value.bytes b t
 | .flt b,u=>∃ t,u=Value.float b t
 | .ref a,u=>u=Value.ref a
 | .ty n,u=>u=Value.type n
noncomputable abbrev Kc:List V→List Value→Prop:=Paired Qc
theorem Kc.length {xs:List V} {us:List Value} (r:Kc xs us):xs.length=us.length:=Paired.length r
theorem Kc.get:∀ {xs:List V} {us:List Value} {i:Nat} {x:V},Kc xs us→xs[i]? = some x→∃ u,us[i]? = some u∧Qc x u
 | _,_,_,_,.nil,e=>by simp at e
 | _,_,0,_,.cons r _,e=>by simp at e;subst e;exact ⟨_,rfl,r⟩
 | _,_,i + 1,x,.cons _ t,e=>by
  obtain ⟨u,h1,h2⟩:=Kc.get (i:=i) (x:=x) t (by simpa using e)
  exact ⟨u,by simpa using h1,h2⟩
theorem Kc.set {x:V} {u:Value} (r:Qc x u):∀ {xs:List V} {us:List Value} (i:Nat),Kc xs us→Kc (xs.set i x) (us.set i u)
 | _,_,_,.nil=>.nil
 | _,_,0,.cons _ t=>.cons r t
 | _,_,i + 1,.cons q t=>.cons q (Kc.set r i t)
theorem Kc.append:∀ {xs ys:List V} {us ws:List Value},Kc xs us→Kc ys ws→Kc (xs ++ ys) (us ++ ws)
 | _,_,_,_,.nil,s=>s
 | _,_,_,_,.cons r t,s=>.cons r (Kc.append t s)
theorem Kc.take:∀ {xs:List V} {us:List Value} (n:Nat),Kc xs us→Kc (xs.take n) (us.take n)
 | _,_,0,_=>.nil
 | _,_,_ + 1,.nil=>.nil
 | _,_,n + 1,.cons r t=>.cons r (Kc.take n t)
theorem Kc.drop:∀ {xs:List V} {us:List Value} (n:Nat),Kc xs us→Kc (xs.drop n) (us.drop n)
 | _,_,0,r=>r
 | _,_,_ + 1,.nil=>.nil
 | _,_,n + 1,.cons _ t=>Kc.drop n t
theorem Kc.none_of:∀ {xs:List V} {us:List Value} {i:Nat},Kc xs us→xs[i]? = none→us[i]? = none:=fun {xs us i} r e=>by
 have h1:=r.length
 have h2:xs.length ≤ i:=List.getElem?_eq_none_iff.mp e
 exact List.getElem?_eq_none_iff.mpr (by omega)
noncomputable def On:Option V→Option Value→Prop
 | some v,some u=>Qc v u
 | none,none=>True
 | _,_=>False
noncomputable def KV {κ:Type}:List (κ × V)→List (κ × Value)→Prop:=Paired fun (p:κ × V) (q:κ × Value)=>p.1=q.1∧Qc p.2 q.2
noncomputable def kV:Key→V
 | .inl i=>.int i
 | .inr x=>.str x
inductive HO where
  | lst (xs:List V)
  | tup (xs:List V)
  | dK (kvs:List (Key × V)) | dT (kvs:List (List Key × V))
  | set (S:Int→Bool) (n:Nat)
  | ins (C dx:Addr) (fs:List (Str × V))
  | own (x:Addr)
  | xd (fs:List (Str × V))
  | met (f x:Addr)
  | rng (lo hi:Int)
  | frz (o:Obj) (u:HO)
  | tbl (ps:Array Value)
  | ext (φ:Heap→Prop)
noncomputable abbrev Hp:=Addr→Option HO
noncomputable def upd (H:Hp) (a:Addr) (o:HO):Hp:=fun b=>if b=a then some o else H b
theorem fb {H:Hp} {a:Addr} {o:HO}:upd H a o a=some o:=by unfold upd;rw [if_pos rfl]
theorem qb {H:Hp} {a b:Addr} {o:HO} (h:b ≠ a):upd H a o b=H b:=by unfold upd;rw [if_neg h]
theorem Hi {H:Hp} {a:Addr} {o u:HO}:upd (upd H a o) a u=upd H a u:=by
 funext b;unfold upd;split <;> rfl
theorem dg {H:Hp} {a b:Addr} {o u:HO} (h:H a=some o) (h':H b=some u) (d:o ≠ u):a ≠ b:=by
 intro e;subst e;rw [h] at h';exact d (Option.some.inj h')
theorem zb {H:Hp} {a b:Addr} {o:HO} (h:H a=some o) (h':H b=none):a ≠ b:=by
 intro e;subst e;rw [h] at h';cases h'
section
variable (P:Program) (w:World)
noncomputable def Rc (H:Hp) (h:Heap) (a:Addr):HO→Prop
 | .lst xs=>xs.length ≤ sizeLine∧∃ (its:List Value) (n:Nat),Kc xs its∧h.get? a=some { cls:=.type "list",data:=.seq its.toArray n }
 | .tup xs=>xs.length ≤ sizeLine∧∃ its:List Value,Kc xs its∧IsTup h a its.toArray
 | .dK kvs=>kvs.length ≤ sizeLine∧(a == sysModules)=false∧∃ vs,KV kvs vs∧h.DictOf (vd P w) a vs
 | .dT kvs=>kvs.length ≤ sizeLine∧(a == sysModules)=false∧∃ xs:List (List Key × Addr × Value),
   Paired (fun (p:List Key × V) (q:List Key × Addr × Value)=>p.1=q.1∧H q.2.1=some (.tup (p.1.map kV))∧Qc p.2 q.2.2) kvs xs ∧
   ∃ o es ep,h.get? a=some o∧o.ExactDict∧o.data=.dict es ep∧es.toList=xs.map (entryOfKey (tupleKind (vd P w)))∧(xs.map (·.1)).Nodup
 | .set S n=>h.SetOf (intKind P w) a S n
 | .ins C dx fs=>H dx=some (.own a)∧fs.length ≤ 1000∧dx ≠ a∧h.get? a=some (PySem.W.instObj C dx) ∧
   ∃ mA,h.Ns1 dx mA∧(∀ f,On (fs.lookup f) (mA f))∧PySem.Within mA (fs.map (·.1))
 | .own _=>∃ o,h.get? a=some o
 | .xd fs=>∃ mA,h.Ns1 a mA∧∀ f,On (fs.lookup f) (mA f)
 | .rng lo hi=>∃ t u v,h.get? a=some { cls:=.type "range",data:=.fields #[.int lo t,.int hi u,.int 1 v] }
 | .frz o u=>h.get? a=some o∧Rc H h a u
 | .tbl ps=>h.get? a=some { cls:=.none,data:=.fields ps }
 | .met f x=>h.get? a=some (PySem.W.methodObj (.ref f) (.ref x))
 | .ext φ=>φ h∧(∃ o,h.get? a=some o)∧∀ h1 h2:Heap,φ h1→(∀ o,h1.get? a=some o→h2.get? a=some o)→φ h2
noncomputable def HOk (H:Hp) (h:Heap):Prop:=∀ a o,H a=some o→Rc P w H h a o
end
section
variable {P:Program} {w:World} {H H':Hp} {h h':Heap} {a:Addr} {o:HO}
theorem Rc.lt (x:Rc P w H h a o):a < h.objs.size:=by
 cases o with
 | lst xs=>obtain ⟨_,_,_,_,e⟩:=x;exact Heap.lt_size e
 | tup xs=>obtain ⟨_,_,_,p⟩:=x;exact p.lt
 | dK kvs=>obtain ⟨_,_,_,_,o,_,_,e,_⟩:=x;exact Heap.lt_size e
 | dT kvs=>obtain ⟨_,_,_,_,o,_,_,e,_⟩:=x;exact Heap.lt_size e
 | set S n=>obtain ⟨o,_,_,_,e,_⟩:=x;exact Heap.lt_size e
 | ins C dx fs=>obtain ⟨_,_,_,e,_⟩:=x;exact Heap.lt_size e
 | own y=>obtain ⟨_,e⟩:=x;exact Heap.lt_size e
 | xd fs=>obtain ⟨_,⟨_,_,_,e,_⟩,_⟩:=x;exact Heap.lt_size e
 | rng lo hi=>obtain ⟨_,_,_,e⟩:=x;exact Heap.lt_size e
 | frz ob u=>obtain ⟨e,_⟩:=x;exact Heap.lt_size e
 | tbl ps=>exact Heap.lt_size (show h.get? a=some _ from x)
 | met f y=>exact Heap.lt_size (show h.get? a=some _ from x)
 | ext φ=>obtain ⟨_,⟨_,e⟩,_⟩:=x;exact Heap.lt_size e
theorem Paired.mapP {α β:Type} {F G:α→β→Prop}:∀ {l₁:List α} {l₂:List β},Paired F l₁ l₂→(∀ a b,F a b→G a b)→Paired G l₁ l₂
 | _,_,.nil,_=>.nil
 | _,_,.cons r t,f=>.cons (f _ _ r) (Paired.mapP t f)
theorem Rc.stay (x:Rc P w H h a o) (k:∀ b u,(b=a∨H b=some (.own a))→h.get? b=some u→h'.get? b=some u)
  (ho:∀ b,H b=some (.own a)→H' b=some (.own a)) (ht:∀ b xs,H b=some (.tup xs)→H' b=some (.tup xs)):Rc P w H' h' a o:=by
 induction o with
 | lst xs=>obtain ⟨z,its,n,r,e⟩:=x;exact ⟨z,its,n,r,k _ _ (.inl rfl) e⟩
 | tup xs=>obtain ⟨z,its,r,ob,e,c⟩:=x;exact ⟨z,its,r,ob,k _ _ (.inl rfl) e,c⟩
 | dK kvs=>obtain ⟨z,y,vs,r,ob,es,ep,e,c⟩:=x;exact ⟨z,y,vs,r,ob,es,ep,k _ _ (.inl rfl) e,c⟩
 | dT kvs=>
  obtain ⟨z,y,xs,r,ob,es,ep,e,c⟩:=x
  exact ⟨z,y,xs,Paired.mapP r fun p q z=>⟨z.1,ht _ _ z.2.1,z.2.2⟩,ob,es,ep,k _ _ (.inl rfl) e,c⟩
 | set S n=>obtain ⟨ob,es,ep,t,e,c⟩:=x;exact ⟨ob,es,ep,t,k _ _ (.inl rfl) e,c⟩
 | ins C dx fs=>
  obtain ⟨d,z,ne,e,mA,⟨od,es,ep,e2,c⟩,r⟩:=x
  exact ⟨ho _ d,z,ne,k _ _ (.inl rfl) e,mA,⟨od,es,ep,k _ _ (.inr d) e2,c⟩,r⟩
 | own y=>obtain ⟨ob,e⟩:=x;exact ⟨ob,k _ _ (.inl rfl) e⟩
 | xd fs=>obtain ⟨mA,⟨od,es,ep,e,c⟩,r⟩:=x;exact ⟨mA,⟨od,es,ep,k _ _ (.inl rfl) e,c⟩,r⟩
 | rng lo hi=>obtain ⟨t,u,v,e⟩:=x;exact ⟨t,u,v,k _ _ (.inl rfl) e⟩
 | frz ob u ih=>obtain ⟨e,q⟩:=x;exact ⟨k _ _ (.inl rfl) e,ih q⟩
 | tbl ps=>
  have e:h.get? a=some { cls:=.none,data:=.fields ps }:=x
  show h'.get? a=some { cls:=.none,data:=.fields ps }
  exact k a _ (.inl rfl) e
 | met f y=>
  have e:h.get? a=some (PySem.W.methodObj (.ref f) (.ref y)):=x
  show h'.get? a=some (PySem.W.methodObj (.ref f) (.ref y))
  exact k a _ (.inl rfl) e
 | ext φ=>obtain ⟨p,⟨o,e⟩,st⟩:=x;exact ⟨st _ _ p fun o q=>k _ _ (.inl rfl) q,⟨o,k _ _ (.inl rfl) e⟩,st⟩
theorem HOk.lt (x:HOk P w H h) (e:H a=some o):a < h.objs.size:=(x a o e).lt
theorem HOk.fresh (x:HOk P w H h) (e:h.objs.size ≤ a):H a=none:=by
 cases q:H a with
 | none=>rfl
 | some u=>exact absurd (Nat.lt_of_lt_of_le (x.lt q) e) (Nat.lt_irrefl _)
theorem HOk.kept (x:HOk P w H h) (k:∀ b u,h.get? b=some u→h'.get? b=some u):HOk P w H h':=fun a o e=>
 (x a o e).stay (fun b u _ q=>k b u q) (fun _ q=>q) fun _ _ q=>q
theorem HOk.laid (x:HOk P w H h) (k:∀ b u,h.get? b=some u→h'.get? b=some u) (hp:h.objs.size ≤ a) (new:Rc P w (upd H a o) h' a o):HOk P w (upd H a o) h':=fun b u e=>by
 have hn:=x.fresh hp
 by_cases hb:b=a
 ·subst hb;rw [fb] at e;cases e;exact new
 ·rw [qb hb] at e
  exact (x b u e).stay (fun c v _ q=>k c v q) (fun c q=>by rw [qb (zb q hn)];exact q) fun c xs q=>by rw [qb (zb q hn)];exact q
end
noncomputable def Rd (H:Hp) (a:Addr) (u:HO):Prop:=H a=some u∨∃ o,H a=some (.frz o u)
theorem Rd.of {H:Hp} {a:Addr} {u:HO} (h:H a=some u):Rd H a u:=.inl h
theorem Rd.ok {P:Program} {w:World} {H:Hp} {h:Heap} {a:Addr} {u:HO} (r:Rd H a u) (x:HOk P w H h):Rc P w H h a u:=by
 rcases r with r | ⟨o,r⟩
 ·exact x a u r
 ·obtain ⟨_,q⟩:=x a _ r
  exact q
noncomputable def Mut:Option HO→Prop
 | some (.lst _)=>True
 | some (.dK _)=>True
 | some (.dT _)=>True
 | some (.set _ _)=>True
 | some (.ins _ _ _)=>True
 | some (.ext _)=>True
 | _=>False
section
variable {P:Program} {w:World} {H:Hp} {h h':Heap} {x e:Addr} {o':HO}
theorem HOk.write (ok:HOk P w H h) (mu:Mut (H x)) (he:e=x∨H e=some (.own x)) (k:∀ b u,b ≠ e→h.get? b=some u→h'.get? b=some u) (heo:∃ u,h'.get? e=some u)
  (new:Rc P w (upd H x o') h' x o'):HOk P w (upd H x o') h':=fun b u q=>by
 have nown:∀ c y,H c=some (.own y)→c ≠ x:=fun c y r z=>by subst z;rw [r] at mu;exact mu
 have ntup:∀ c xs,H c=some (.tup xs)→c ≠ x:=fun c xs r z=>by subst z;rw [r] at mu;exact mu
 by_cases hb:b=x
 ·subst hb;rw [fb] at q;cases q;exact new
 ·rw [qb hb] at q
  by_cases hbe:b=e
  ·have q':H b=some (.own x):=by
    rcases he with z | z
    ·exact absurd (hbe.trans z) hb
    ·rw [hbe];exact z
   rw [q] at q';cases q'
   obtain ⟨v,hv⟩:=heo
   exact ⟨v,by rw [hbe];exact hv⟩
  ·refine (ok b u q).stay (fun c v hc r=>k c v ?_ r) (fun c r=>by rw [qb (nown c b r)];exact r) fun c xs r=>by rw [qb (ntup c xs r)];exact r
   rcases hc with rfl | hc
   ·exact hbe
   ·rintro rfl
    rcases he with z | z
    ·exact nown c b hc z
    ·rw [hc] at z;cases z;exact hb rfl
end
structure Un (fs ex:List Addr) (H H':Hp) (h h':Heap):Prop where
 keep:∀ b o,h.get? b=some o→H b=none→b ∉ fs→b ∉ ex→h'.get? b=some o
 slot:∀ b o,h.get? b=some o→H b=none→b ∈ fs→b ∉ ex→∃ sl,h'.get? b=some { o with slots:=sl }
 free:∀ b o,h.get? b=some o→H b=none→b ∉ ex→H' b=none
 there:∀ b o,h.get? b=some o→b ∉ ex→∃ o',h'.get? b=some o'
 tups:∀ b xs,H b=some (.tup xs)→H' b=some (.tup xs)
 frzs:∀ b o u,H b=some (.frz o u)→H' b=some (.frz o u)
 tbls:∀ b ps,H b=some (.tbl ps)→∃ more,H' b=some (.tbl (ps ++ more))
section
variable {fs fs' ex ex':List Addr} {H H1 H2:Hp} {h h1 h2 h':Heap} {a x e:Addr} {o:HO}
theorem Un.any (u:Un fs ex H H1 h h1) {b:Addr} {ob:Obj} (q:h.get? b=some ob) (n:H b=none) (hx:b ∉ ex):∃ sl,h1.get? b=some { ob with slots:=sl }:=by
 by_cases hb:b ∈ fs
 ·exact u.slot b ob q n hb hx
 ·exact ⟨ob.slots,u.keep b ob q n hb hx⟩
theorem Un.trans (a:Un fs ex H H1 h h1) (b:Un fs ex H1 H2 h1 h2):Un fs ex H H2 h h2 where
 keep:=fun c ob q n hc hx=>b.keep c ob (a.keep c ob q n hc hx) (a.free c ob q n hx) hc hx
 slot:=fun c ob q n hc hx=>by
  obtain ⟨sl,e1⟩:=a.slot c ob q n hc hx
  obtain ⟨sl',e2⟩:=b.slot c _ e1 (a.free c ob q n hx) hc hx
  exact ⟨sl',e2⟩
 free:=fun c ob q n hx=>by
  obtain ⟨o',e1⟩:=a.there c ob q hx
  exact b.free c o' e1 (a.free c ob q n hx) hx
 there:=fun c ob q hx=>by
  obtain ⟨o',e1⟩:=a.there c ob q hx
  exact b.there c o' e1 hx
 tups:=fun c xs q=>b.tups c xs (a.tups c xs q)
 frzs:=fun c ob xs q=>b.frzs c ob xs (a.frzs c ob xs q)
 tbls:=fun c ps q=>by
  obtain ⟨m1,e1⟩:=a.tbls c ps q
  obtain ⟨m2,e2⟩:=b.tbls c _ e1
  exact ⟨m1 ++ m2,by rw [e2,Array.append_assoc]⟩
theorem Un.kept (k:∀ b u,h.get? b=some u→h'.get? b=some u):Un fs ex H H h h':=
 ⟨fun b ob q _ _ _=>k b ob q,fun b ob q _ _ _=>⟨ob.slots,k b ob q⟩,fun _ _ _ n _=>n,fun b ob q _=>⟨ob,k b ob q⟩,fun _ _ q=>q,fun _ _ _ q=>q,fun _ ps q=>⟨#[],by rw [q];simp⟩⟩
theorem Un.refl:Un fs ex H H h h:=Un.kept fun _ _ q=>q
theorem Un.laid (k:∀ b u,h.get? b=some u→h'.get? b=some u) (hp:h.objs.size ≤ a) (hn:H a=none):Un fs ex H (upd H a o) h h' where
 keep:=fun b u q _ _ _=>k b u q
 slot:=fun b u q _ _ _=>⟨u.slots,k b u q⟩
 free:=fun b u q n _=>by rw [qb (Nat.ne_of_lt (Nat.lt_of_lt_of_le (Heap.lt_size q) hp))];exact n
 there:=fun b u q _=>⟨u,k b u q⟩
 tups:=fun b xs q=>by rw [qb (zb q hn)];exact q
 frzs:=fun b u xs q=>by rw [qb (zb q hn)];exact q
 tbls:=fun b ps q=>⟨#[],by rw [qb (zb q hn),q];simp⟩
theorem Un.write (mu:Mut (H x)) (he:e=x∨H e=some (.own x)) (k:∀ b u,b ≠ e→h.get? b=some u→h'.get? b=some u) (heo:∃ u,h'.get? e=some u):Un fs ex H (upd H x o) h h':=by
 have hx:∀ b,H b=none→b ≠ x:=fun b n z=>by subst z;rw [n] at mu;exact mu
 have hb:∀ b,H b=none→b ≠ e:=fun b n z=>by
  subst z
  rcases he with r | r
  ·exact hx b n r
  ·rw [n] at r;cases r
 have hm:∀ b u,H b=some u→¬ Mut (some u)→b ≠ x:=fun b u q nm z=>by subst z;rw [q] at mu;exact nm mu
 refine ⟨fun b u q n _ _=>k b u (hb b n) q,fun b u q n _ _=>⟨u.slots,k b u (hb b n) q⟩,fun b u q n _=>by rw [qb (hx b n)];exact n,fun b u q _=>?_,
  fun b xs q=>by rw [qb (hm b _ q fun z=>z)];exact q,fun b u xs q=>by rw [qb (hm b _ q fun z=>z)];exact q,fun b ps q=>⟨#[],by rw [qb (hm b _ q fun z=>z),q];simp⟩⟩
 by_cases hbe:b=e
 ·subst hbe;exact heo
 ·exact ⟨u,k b u hbe q⟩
theorem Un.mono (u:Un fs ex H H1 h h1) (hs:∀ b ∈ fs,b ∈ fs') (hx:∀ b ∈ ex,b ∈ ex'):Un fs' ex' H H1 h h1:=
 ⟨fun b ob q n hb he=>u.keep b ob q n (fun z=>hb (hs b z)) fun z=>he (hx b z),fun _ _ q n _ he=>u.any q n fun z=>he (hx _ z),fun b ob q n he=>u.free b ob q n fun z=>he (hx b z),fun b ob q he=>u.there b ob q fun z=>he (hx b z),u.tups,u.frzs,u.tbls⟩
end
noncomputable def trk (h:Heap) (H:Hp):List Addr:=(List.range h.objs.size).filter fun a=>(H a).isSome
noncomputable def jz (h:Heap) (H:Hp):Heap:=PySem.W.hideAll h (trk h H)
theorem yv (h:Heap) (H:Hp):(jz h H).objs.size=h.objs.size:=PySem.W.hideAll_size _ _
theorem kA {h:Heap} {H:Hp} {b:Addr} {o:Obj} (e:h.get? b=some o) (n:H b=none):(jz h H).get? b=some o:=
 PySem.W.hideAll_get _ e fun hm=>by
  have q:(H b).isSome=true:=(List.mem_filter.mp hm).2
  rw [n] at q;simp at q
theorem gD {h:Heap} {H:Hp} {b:Addr} {o:Obj} (e:(jz h H).get? b=some o):h.get? b=some o∧H b=none:=by
 have e':h.get? b=some o:=PySem.W.of_hideAll (trk h H) e
 refine ⟨e',?_⟩
 cases q:H b with
 | none=>rfl
 | some x=>
  have hm:b ∈ trk h H:=List.mem_filter.mpr ⟨List.mem_range.mpr (Heap.lt_size e'),by simp [q]⟩
  have z:(jz h H).get? b=none:=PySem.W.hideAll_none (trk h H) hm
  rw [z] at e;cases e
noncomputable def JC (g h:Heap) (L:Addr):List (Addr × Obj):=(List.range h.objs.size).filterMap fun a=>if a=L∨(g.get? a).isSome=true then none else (h.get? a).map fun o=>(a,o)
noncomputable def Oq (g h:Heap) (L d:Addr):List (Addr × Obj):=(JC g h L).filter fun p=>decide (p.1 ≠ d)
end L2
namespace L2
open PySem PySem.Spec PyProof.Rows
structure Mod (K:PySem.W.Frag) (mg:Str→Option Value) (base:Heap):Prop where
 kin:K.In base
 glob:base.Ns mainGlobals mg
 blt:∃ mb,base.Ns builtinsNs mb∧∀ x:Str,x ≠ "__name__" → mb x=bootBuiltins x
 nolimit:base.NoLimit
structure Cx where
 prog:Program
 w:World
 K:PySem.W.Frag
 mg:Str→Option Value
 base:Heap
 A:Around
 N:List Str
 s₀:Shared
 H₀:Hp
 env:Env
 outer:List Env
 stack:List Env
 ex:List Addr
 fn:Str→Bool
 calm:Bool
 pn:List (Addr × Obj)
 xe:Value→Shared→Prop
noncomputable def frs (l:List Env):List Addr:=l.filterMap (·.frame)
noncomputable abbrev Cx.fs (X:Cx):List Addr:=frs X.outer
noncomputable def Vis (sc:Scope) (x:Str):Prop:=sc.names.lookup x=some .local∨sc.names.lookup x=some .cell∨sc.names.lookup x=some .free
noncomputable def Loc (sc:Scope) (x:Str):Prop:=sc.names.lookup x=some .local∨sc.names.lookup x=some .cell
noncomputable def WI (env:Env) (h:Heap) (m:Str→Option Value) (x:Str) (u:Value):Prop:=
 (env.kindOf x=some .local∧m x=some u)∨((env.kindOf x=some .cell∨env.kindOf x=some .free)∧∃ c,env.cells.lookup x=some c∧h.IsCell c (some u))
structure Cx.Ok (X:Cx):Prop where
 mod:Mod X.K X.mg X.base
 kind:X.env.scope.kind=.function
 glob:X.env.globals=mainGlobals
 blt:X.env.builtins=builtinsNs
 above:X.s₀.heap.objs.size ≤ X.env.locals
 inj:∀ x y c,X.env.cells.lookup x=some c→X.env.cells.lookup y=some c→x=y
 has:∀ x,(X.env.kindOf x=some .cell∨X.env.kindOf x=some .free)→∃ c,X.env.cells.lookup x=some c
 cab:∀ x c,X.fn x=true→X.env.cells.lookup x=some c→X.s₀.heap.objs.size ≤ c
 hd:X.calm=true→X.A.handled=none
 frames:X.A.frames=some X.stack
 stk:X.stack=X.outer∨(X.stack=X.env :: X.outer∧X.env.frame=some X.env.locals)
 exf:∀ b ∈ X.ex,b ≠ X.env.locals∧∀ x c,X.env.cells.lookup x=some c→c ≠ b
 bs:∀ b o,X.base.get? b=some o→X.s₀.heap.get? b=some o∧X.H₀ b=none
 bsz:X.base.objs.size ≤ X.s₀.heap.objs.size
 noex:∀ b o,X.base.get? b=some o→b ∉ X.ex
 exfs:∀ b ∈ X.ex,b ∉ X.fs
 funs:X.s₀.heap.FunFrames X.base X.outer
 frf:∀ b ∈ X.fs,X.H₀ b=none
structure Inv (X:Cx) (pins:List (Addr × Obj)) (σ:List (Option V)) (H:Hp) (s:Shared):Prop where
 ok:X.Ok
 os:s.os=X.s₀.os
 bare:AllBare s.gens
 base:Un X.fs X.ex X.H₀ H X.s₀.heap s.heap
 loc:∃ m,s.heap.Ns X.env.locals m∧∀ (i:Nat) (x:Str) (v:V),X.N[i]? = some x→σ[i]? = some (some v)→Vis X.env.scope x→∃ u,Qc v u∧WI X.env s.heap m x u
 cell:∀ x c,X.env.cells.lookup x=some c→∃ v,s.heap.IsCell c v
 free:H X.env.locals=none
 freeC:∀ x c,X.env.cells.lookup x=some c→H c=none
 pin:∀ p ∈ X.pn ++ pins,s.heap.get? p.1=some p.2∧H p.1=none∧p.1 ≠ X.env.locals∧p.1 ∉ X.fs∧∀ v,p.2.data ≠ .cell v
 hok:HOk X.prog X.w H s.heap
 len:σ.length=X.N.length
section
variable {X:Cx} {pins:List (Addr × Obj)} {σ:List (Option V)} {H H':Hp} {s:Shared} {h':Heap}
theorem Cx.Ok.nofr (ok:X.Ok) {b:Addr} {o:Obj} (e:X.base.get? b=some o):b ∉ X.fs:=fun hb=>by
 have:=(ok.funs.mem hb).1
 rw [e] at this;cases this
theorem Inv.bs (I:Inv X pins σ H s):∀ b o,X.base.get? b=some o→s.heap.get? b=some o∧H b=none:=fun b o e=>
 ⟨I.base.keep b o (I.ok.bs b o e).1 (I.ok.bs b o e).2 (I.ok.nofr e) (I.ok.noex b o e),I.base.free b o (I.ok.bs b o e).1 (I.ok.bs b o e).2 (I.ok.noex b o e)⟩
theorem Inv.bk (I:Inv X pins σ H s):∀ b o,X.base.get? b=some o→s.heap.get? b=some o:=fun b o e=>(I.bs b o e).1
theorem Inv.mod (I:Inv X pins σ H s):Mod X.K X.mg X.base:=I.ok.mod
theorem Inv.kIn (I:Inv X pins σ H s):X.K.In s.heap:=I.ok.mod.kin.keeps I.bk
theorem Inv.nolimit (I:Inv X pins σ H s):s.heap.NoLimit:=I.ok.mod.nolimit.keeps I.bk
theorem Inv.fr (I:Inv X pins σ H s):∃ m,Fr X.base X.env.locals s.heap m:=
 let ⟨m,hn,_⟩:=I.loc
 ⟨m,hn,I.bk,Nat.le_trans I.ok.bsz I.ok.above⟩
theorem Inv.lt (I:Inv X pins σ H s):X.env.locals < s.heap.objs.size:=let ⟨_,hn,_⟩:=I.loc;hn.lt
theorem Inv.sz (I:Inv X pins σ H s):X.s₀.heap.objs.size ≤ s.heap.objs.size:=Nat.le_trans I.ok.above (Nat.le_of_lt I.lt)
theorem Inv.nofs (I:Inv X pins σ H s) {a:Addr} (h:s.heap.objs.size ≤ a):a ∉ X.fs:=fun hb=>by
 obtain ⟨_,o,ho,_⟩:=I.ok.funs.mem hb
 exact absurd (Nat.lt_of_lt_of_le (Heap.lt_size ho) (Nat.le_trans I.sz h)) (Nat.lt_irrefl _)
theorem Inv.cne (I:Inv X pins σ H s):∀ x c,X.env.cells.lookup x=some c→c ≠ X.env.locals:=fun x c e z=>by
 obtain ⟨v,o,ho,hd⟩:=I.cell x c e
 obtain ⟨m,⟨o',es,ep,ho',hd',_⟩,_⟩:=I.loc
 rw [z,ho'] at ho;cases ho;rw [hd'] at hd;cases hd
theorem Inv.funs (I:Inv X pins σ H s):s.heap.FunFrames X.base X.outer:=by
 have all:∀ (l:List Env),(∀ b ∈ frs l,b ∈ X.fs)→X.s₀.heap.FunFrames X.base l→s.heap.FunFrames X.base l:=by
  intro l
  induction l with
  | nil=>intro _ _;trivial
  | cons env r ih=>
   intro hs hl
   obtain ⟨hk,⟨L,o,hf,hn,ho,hd⟩,hr⟩:=hl
   have hL:L ∈ X.fs:=hs L (by unfold frs;rw [List.filterMap_cons,hf];exact List.mem_cons_self)
   obtain ⟨sl,e⟩:=I.base.slot L o ho (I.ok.frf L hL) hL fun z=>I.ok.exfs L z hL
   exact ⟨hk,⟨L,_,hf,hn,e,hd⟩,ih (fun b hb=>hs b (by unfold frs;rw [List.filterMap_cons,hf];exact List.mem_cons_of_mem _ hb)) hr⟩
 exact all X.outer (fun _ hb=>hb) I.ok.funs
theorem Inv.stack (I:Inv X pins σ H s):s.heap.FunFrames X.base X.stack:=by
 rcases I.ok.stk with e | ⟨e,hf⟩
 ·rw [e];exact I.funs
 ·rw [e]
  obtain ⟨m,hn,_⟩:=I.loc
  refine .cons (by rw [I.ok.kind];decide) hf hn ?_ I.funs
  exact Heap.get?_none_of_le (Nat.le_trans I.ok.bsz I.ok.above)
theorem Inv.stkSub (I:Inv X pins σ H s):∀ b ∈ frs X.stack,b ∈ X.env.locals :: X.fs:=fun b hb=>by
 rcases I.ok.stk with e | ⟨e,hf⟩
 ·rw [e] at hb;exact List.mem_cons_of_mem _ hb
 ·rw [e] at hb
  unfold frs at hb
  rw [List.filterMap_cons,hf] at hb
  exact hb
theorem Inv.stkFree (I:Inv X pins σ H s):∀ b ∈ frs X.stack,H b=none:=fun b hb=>by
 rcases List.mem_cons.mp (I.stkSub b hb) with e | hb
 ·rw [e];exact I.free
 ·obtain ⟨_,o,ho,_⟩:=I.ok.funs.mem hb
  exact I.base.free b o ho (I.ok.frf b hb) fun z=>I.ok.exfs b z hb
theorem Inv.step {g':Array GenState} {t':Nat} {d':Drawn} {ch:List Addr} (I:Inv X pins σ H s)
  (hch:∀ b ∈ ch,(b ∈ X.ex∨X.s₀.heap.objs.size ≤ b)∧b ≠ X.env.locals∧(∀ x c,X.env.cells.lookup x=some c→c ≠ b)∧∀ p ∈ X.pn ++ pins,p.1 ≠ b)
  (keep:∀ b o,b ≠ X.env.locals→b ∉ X.fs→b ∉ ch→s.heap.get? b=some o→H b=none→h'.get? b=some o)
  (slot:∀ b o,b ≠ X.env.locals→b ∈ X.fs→b ∉ ch→s.heap.get? b=some o→H b=none→∃ sl,h'.get? b=some { o with slots:=sl }) (free:∀ b o,b ∉ ch→s.heap.get? b=some o→H b=none→H' b=none)
  (there:∀ b o,b ∉ ch→s.heap.get? b=some o→∃ o',h'.get? b=some o')
  (tups:∀ b xs,H b=some (.tup xs)→H' b=some (.tup xs)) (frzs:∀ b o u,H b=some (.frz o u)→H' b=some (.frz o u)) (tbls:∀ b ps,H b=some (.tbl ps)→∃ more,H' b=some (.tbl (ps ++ more)))
  (ns:∀ m,s.heap.Ns X.env.locals m→h'.Ns X.env.locals m) (hok:HOk X.prog X.w H' h') (hg:AllBare g') :
  Inv X pins σ H' { s with heap:=h',gens:=g',drawn:=d',toks:=t' }:=by
 have neL:∀ b o,X.s₀.heap.get? b=some o→b ≠ X.env.locals:=fun b o e=>Nat.ne_of_lt (Nat.lt_of_lt_of_le (Heap.lt_size e) I.ok.above)
 have neC:∀ b o,X.s₀.heap.get? b=some o→b ∉ X.ex→b ∉ ch:=fun b o e hx hb=>by
  rcases (hch b hb).1 with z | z
  ·exact hx z
  ·exact absurd (Nat.lt_of_lt_of_le (Heap.lt_size e) z) (Nat.lt_irrefl _)
 have cellK:∀ x c,X.env.cells.lookup x=some c→∀ v,s.heap.IsCell c v→h'.IsCell c v:=fun x c e v ⟨o,ho,hd⟩=>by
  have nch:c ∉ ch:=fun z=>(hch c z).2.2.1 x c e rfl
  by_cases hc:c ∈ X.fs
  ·obtain ⟨sl,q⟩:=slot c o (I.cne x c e) hc nch ho (I.freeC x c e)
   exact ⟨_,q,hd⟩
  ·exact ⟨o,keep c o (I.cne x c e) hc nch ho (I.freeC x c e),hd⟩
 refine ⟨I.ok,I.os,hg,⟨fun b o e n hb hx=>?_,fun b o e n hb hx=>?_,fun b o e n hx=>?_,fun b o e hx=>?_,fun b xs e=>tups b xs (I.base.tups b xs e),fun b o xs e=>frzs b o xs (I.base.frzs b o xs e),fun b ps e=>?_⟩,?_,fun x c e=>?_,?_,fun x c e=>?_,fun p hp=>?_,hok,I.len⟩
 ·exact keep b o (neL b o e) hb (neC b o e hx) (I.base.keep b o e n hb hx) (I.base.free b o e n hx)
 ·obtain ⟨sl,e1⟩:=I.base.slot b o e n hb hx
  obtain ⟨sl',e2⟩:=slot b _ (neL b o e) hb (neC b o e hx) e1 (I.base.free b o e n hx)
  exact ⟨sl',e2⟩
 ·obtain ⟨o',e1⟩:=I.base.there b o e hx
  exact free b o' (neC b o e hx) e1 (I.base.free b o e n hx)
 ·obtain ⟨o',e1⟩:=I.base.there b o e hx
  exact there b o' (neC b o e hx) e1
 ·obtain ⟨m1,e1⟩:=I.base.tbls b ps e
  obtain ⟨m2,e2⟩:=tbls b _ e1
  exact ⟨m1 ++ m2,by rw [e2,Array.append_assoc]⟩
 ·obtain ⟨m,hn,hl⟩:=I.loc
  refine ⟨m,ns m hn,fun i x v e1 e2 e3=>?_⟩
  obtain ⟨u,r,l⟩:=hl i x v e1 e2 e3
  refine ⟨u,r,?_⟩
  rcases l with l | ⟨k,c,e,z⟩
  ·exact .inl l
  ·exact .inr ⟨k,c,e,cellK x c e _ z⟩
 ·obtain ⟨v,z⟩:=I.cell x c e
  exact ⟨v,cellK x c e v z⟩
 ·obtain ⟨m,⟨o,_,_,ho,_⟩,_⟩:=I.loc
  exact free _ o (fun z=>(hch _ z).2.1 rfl) ho I.free
 ·obtain ⟨v,o,ho,hd⟩:=I.cell x c e
  exact free c o (fun z=>(hch c z).2.2.1 x c e rfl) ho (I.freeC x c e)
 ·obtain ⟨e,n,ne,nf,d⟩:=I.pin p hp
  have nch:p.1 ∉ ch:=fun z=>(hch p.1 z).2.2.2 p hp rfl
  exact ⟨keep p.1 p.2 ne nf nch e n,free p.1 p.2 nch e n,ne,nf,d⟩
theorem Inv.un {t':Nat} (I:Inv X pins σ H s) (u:Un X.fs [] H H' s.heap h') (hok:HOk X.prog X.w H' h'):Inv X pins σ H' { s with heap:=h',toks:=t' }:=by
 obtain ⟨m,⟨o,es,ep,ho,r⟩,_⟩:=id I.loc
 obtain ⟨sl,hL⟩:=u.any ho I.free (by simp)
 exact I.step (g':=s.gens) (d':=s.drawn) (ch:=[]) (fun _ z=>nomatch z) (fun b o _ hb _ e n=>u.keep b o e n hb (by simp)) (fun b o _ hb _ e n=>u.slot b o e n hb (by simp)) (fun b o _ e n=>u.free b o e n (by simp)) (fun b o _ e=>u.there b o e (by simp)) u.tups u.frzs u.tbls (fun m' hm=>by
  obtain ⟨o',es',ep',ho',r'⟩:=hm
  rw [ho] at ho';cases ho'
  exact ⟨_,es',ep',hL,r'⟩) hok I.bare
theorem Inv.call {g':Array GenState} {t':Nat} {d':Drawn} {ch:List Addr} (I:Inv X pins σ H s) (u:Un (frs X.stack) ch H H' s.heap h') (hok:HOk X.prog X.w H' h') (hg:AllBare g')
  (hch:∀ b ∈ ch,(b ∈ X.ex∨X.s₀.heap.objs.size ≤ b)∧b ≠ X.env.locals∧(∀ x c,X.env.cells.lookup x=some c→c ≠ b)∧∀ p ∈ X.pn ++ pins,p.1 ≠ b) :
  Inv X pins σ H' { s with heap:=h',gens:=g',drawn:=d',toks:=t' }:=by
 obtain ⟨m,⟨o,es,ep,ho,r⟩,_⟩:=id I.loc
 obtain ⟨sl,hL⟩:=u.any ho I.free fun z=>(hch _ z).2.1 rfl
 exact I.step (ch:=ch) hch (fun b o hL hb hc e n=>u.keep b o e n (fun z=>(List.mem_cons.mp (I.stkSub b z)).elim hL hb) hc) (fun b o _ _ hc e n=>u.any e n hc) (fun b o hc e n=>u.free b o e n hc) (fun b o hc e=>u.there b o e hc) u.tups u.frzs u.tbls (fun m' hm=>by
  obtain ⟨o',es',ep',ho',r'⟩:=hm
  rw [ho] at ho';cases ho'
  exact ⟨_,es',ep',hL,r'⟩) hok hg
theorem Inv.turned {t':Nat} {it:Addr} (I:Inv X pins σ H s) (k:∀ b o,b ≠ it→s.heap.get? b=some o→h'.get? b=some o) (hn:H it=none) (hL:it ≠ X.env.locals)
  (h1:it ∈ X.ex∨X.s₀.heap.objs.size ≤ it) (h2:∀ x c,X.env.cells.lookup x=some c→c ≠ it) (h3:∀ p ∈ X.pn ++ pins,p.1 ≠ it):Inv X pins σ H { s with heap:=h',toks:=t' }:=by
 have nit:∀ b u,H b=some u→b ≠ it:=fun b u e z=>by rw [z,hn] at e;cases e
 refine I.step (g':=s.gens) (d':=s.drawn) (ch:=[it]) (fun b hb=>?_) (fun b o _ _ hc e _=>k b o (fun z=>hc (by simp [z])) e) (fun b o _ _ hc e _=>⟨o.slots,k b o (fun z=>hc (by simp [z])) e⟩) (fun _ _ _ _ n=>n)
  (fun b o hc e=>⟨o,k b o (fun z=>hc (by simp [z])) e⟩) (fun _ _ e=>e) (fun _ _ _ e=>e) (fun b ps e=>⟨#[],by rw [e];simp⟩) (fun m hm=>?_) (fun b u e=>?_) I.bare
 ·have e:b=it:=by simpa using hb
  subst e
  exact ⟨h1,hL,h2,h3⟩
 ·obtain ⟨o,es,ep,ho,r⟩:=hm
  exact ⟨o,es,ep,k _ o (Ne.symm hL) ho,r⟩
 ·refine (I.hok b u e).stay (fun c v hc q=>k c v ?_ q) (fun _ q=>q) fun _ _ q=>q
  rcases hc with z | z
  ·rw [z];exact nit b u e
  ·exact nit c _ z
theorem Inv.tok (I:Inv X pins σ H s) (t:Nat):Inv X pins σ H { s with toks:=t }:=I.un (h':=s.heap) (t':=t) Un.refl I.hok
theorem Inv.kept {t':Nat} (I:Inv X pins σ H s) (k:∀ b u,s.heap.get? b=some u→h'.get? b=some u):Inv X pins σ H { s with heap:=h',toks:=t' }:=I.un (Un.kept k) (I.hok.kept k)
theorem Inv.laid {a:Addr} {o:HO} {t':Nat} (I:Inv X pins σ H s) (k:∀ b u,s.heap.get? b=some u→h'.get? b=some u) (hp:s.heap.objs.size ≤ a) (new:Rc X.prog X.w (upd H a o) h' a o) :
  Inv X pins σ (upd H a o) { s with heap:=h',toks:=t' }:=I.un (Un.laid k hp (I.hok.fresh hp)) (I.hok.laid k hp new)
theorem Inv.write {x e:Addr} {o:HO} {t':Nat} (I:Inv X pins σ H s) (mu:Mut (H x)) (he:e=x∨H e=some (.own x)) (k:∀ b u,b ≠ e→s.heap.get? b=some u→h'.get? b=some u) (heo:∃ u,h'.get? e=some u)
  (new:Rc X.prog X.w (upd H x o) h' x o):Inv X pins σ (upd H x o) { s with heap:=h',toks:=t' }:=I.un (Un.write mu he k heo) (I.hok.write mu he k heo new)
theorem Inv.weak {σ':List (Option V)} (I:Inv X pins σ H s) (hl:σ'.length=σ.length) (w:∀ (i:Nat) v,σ'[i]? = some (some v)→σ[i]? = some (some v)):Inv X pins σ' H s:=
 ⟨I.ok,I.os,I.bare,I.base,let ⟨m,hn,hl'⟩:=I.loc;⟨m,hn,fun i x v e1 e2 e3=>hl' i x v e1 (w i v e2) e3⟩,I.cell,I.free,I.freeC,I.pin,I.hok,hl.trans I.len⟩
theorem Inv.pins_of {pins':List (Addr × Obj)} (I:Inv X pins σ H s) (h:∀ p ∈ pins',s.heap.get? p.1=some p.2∧H p.1=none∧p.1 ≠ X.env.locals∧p.1 ∉ X.fs∧∀ v,p.2.data ≠ .cell v):Inv X pins' σ H s:=
 ⟨I.ok,I.os,I.bare,I.base,I.loc,I.cell,I.free,I.freeC,fun p hp=>(List.mem_append.mp hp).elim (fun z=>I.pin p (List.mem_append_left _ z)) (h p),I.hok,I.len⟩
theorem ft {N:List Str} (hN:N.Nodup) {i j:Nat} {x:Str} (a:N[i]? = some x) (b:N[j]? = some x):i=j:=by
 obtain ⟨h1,e1⟩:=List.getElem?_eq_some_iff.mp a
 obtain ⟨h2,e2⟩:=List.getElem?_eq_some_iff.mp b
 exact (List.getElem_inj hN).mp (e1.trans e2.symm)
theorem gq {M:Model} {A:Around} {E:Value→Shared→Prop} {i:Nat} {x:Str} {v:V} {u:Value} {Q:Unit→Shared→Prop} (I:Inv X pins σ H s) (hN:X.N.Nodup) (hi:X.N[i]? = some x) (hx:Loc X.env.scope x) (r:Qc v u)
  (h:∀ s',Inv X pins (σ.set i (some v)) H s'→(∃ a,Heap.SameBut a s.heap s'.heap∧(a=X.env.locals∨X.env.cells.lookup x=some a))→Q () s') (hf:X.fn x=true∨X.env.scope.names.lookup x=some .local:=by first | exact .inl rfl | exact .inr rfl | assumption):wpAny M A (storeName X.env x u) Q E s:=by
 obtain ⟨m,hn,hl⟩:=id I.loc
 have hcls:(X.env.scope.kind == .class || (X.env.scope.kind == .module && X.env.locals != X.env.globals))=false:=by rw [I.ok.kind];rfl
 have hiσ:i < σ.length:=by rw [I.len];exact (List.getElem?_eq_some_iff.mp hi).1
 have cne:=I.cne
 have tracked:∀ {a:Addr} {h':Heap},(∃ o,s.heap.get? a=some o∧H a=none)→Heap.SameBut a s.heap h'→HOk X.prog X.w H h':=fun {a h'} ha hs b ob e=>by
  obtain ⟨_,_,hfree⟩:=ha
  refine (I.hok b ob e).stay (fun c w' hc q=>(hs.2 c ?_).trans q) (fun _ q=>q) fun _ _ q=>q
  rintro rfl
  rcases hc with rfl | hc
  ·rw [hfree] at e;cases e
  ·rw [hfree] at hc;cases hc
 rcases hx with hk | hk
 ·refine wpAny_storeName_local hk hn (fun h' hn' hs=>?_) hcls
  obtain ⟨oL,_,_,hoL,_⟩:=id hn
  refine h _ ⟨I.ok,I.os,I.bare,⟨fun b o e n hb hx=>?_,fun b o e n hb hx=>?_,I.base.free,fun b o e hx=>?_,I.base.tups,I.base.frzs,I.base.tbls⟩,⟨_,hn',fun j y v' e1 e2 e3=>?_⟩,fun y c e=>?_,I.free,I.freeC,fun p hp=>?_,tracked ⟨oL,hoL,I.free⟩ hs,by simpa using I.len⟩ ⟨_,hs,.inl rfl⟩
  ·exact (hs.2 b (Nat.ne_of_lt (Nat.lt_of_lt_of_le (Heap.lt_size e) I.ok.above))).trans (I.base.keep b o e n hb hx)
  ·obtain ⟨sl,e1⟩:=I.base.slot b o e n hb hx
   exact ⟨sl,(hs.2 b (Nat.ne_of_lt (Nat.lt_of_lt_of_le (Heap.lt_size e) I.ok.above))).trans e1⟩
  ·obtain ⟨o',e1⟩:=I.base.there b o e hx
   exact ⟨o',(hs.2 b (Nat.ne_of_lt (Nat.lt_of_lt_of_le (Heap.lt_size e) I.ok.above))).trans e1⟩
  ·by_cases hj:j=i
   ·subst hj
    rw [hi] at e1;cases e1
    rw [List.getElem?_set_self hiσ] at e2
    cases e2
    exact ⟨u,r,.inl ⟨hk,by simp⟩⟩
   ·rw [List.getElem?_set_ne (Ne.symm hj)] at e2
    obtain ⟨u',r',q⟩:=hl j y v' e1 e2 e3
    refine ⟨u',r',?_⟩
    rcases q with ⟨k,e⟩ | ⟨k,c,e,z⟩
    ·refine .inl ⟨k,?_⟩
     have:y ≠ x:=fun e=>hj (ft hN e1 (e ▸ hi))
     simp [this,e]
    ·exact .inr ⟨k,c,e,z.sameBut hs (cne y c e)⟩
  ·obtain ⟨w',z⟩:=I.cell y c e
   exact ⟨w',z.sameBut hs (cne y c e)⟩
  ·obtain ⟨e,n,ne,nf,d⟩:=I.pin p hp
   exact ⟨(hs.2 p.1 ne).trans e,n,ne,nf,d⟩
 ·have hfn:X.fn x=true:=by
   rcases hf with z | z
   ·exact z
   ·rw [z] at hk;cases hk
  obtain ⟨c,hc⟩:=I.ok.has x (.inl hk)
  obtain ⟨w',z⟩:=I.cell x c hc
  refine wpAny_storeName_cell I.ok.kind hk hc z (fun h' hc' hs=>?_)
  obtain ⟨oc,hoc,hocd⟩:=id z
  refine h { s with heap:=h' } ⟨I.ok,I.os,I.bare,⟨fun b o e n hb hx=>?_,fun b o e n hb hx=>?_,I.base.free,fun b o e hx=>?_,I.base.tups,I.base.frzs,I.base.tbls⟩,⟨m,hn.sameBut hs (Ne.symm (cne x c hc)),fun j y v' e1 e2 e3=>?_⟩,fun y c' e=>?_,I.free,I.freeC,fun p hp=>?_,tracked ⟨oc,hoc,I.freeC x c hc⟩ hs,by simpa using I.len⟩ ⟨c,hs,.inr hc⟩
  ·exact (hs.2 b (Nat.ne_of_lt (Nat.lt_of_lt_of_le (Heap.lt_size e) (I.ok.cab x c hfn hc)))).trans (I.base.keep b o e n hb hx)
  ·obtain ⟨sl,e1⟩:=I.base.slot b o e n hb hx
   exact ⟨sl,(hs.2 b (Nat.ne_of_lt (Nat.lt_of_lt_of_le (Heap.lt_size e) (I.ok.cab x c hfn hc)))).trans e1⟩
  ·obtain ⟨o',e1⟩:=I.base.there b o e hx
   exact ⟨o',(hs.2 b (Nat.ne_of_lt (Nat.lt_of_lt_of_le (Heap.lt_size e) (I.ok.cab x c hfn hc)))).trans e1⟩
  ·by_cases hj:j=i
   ·subst hj
    rw [hi] at e1;cases e1
    rw [List.getElem?_set_self hiσ] at e2
    cases e2
    exact ⟨u,r,.inr ⟨.inl hk,c,hc,hc'⟩⟩
   ·rw [List.getElem?_set_ne (Ne.symm hj)] at e2
    obtain ⟨u',r',q⟩:=hl j y v' e1 e2 e3
    refine ⟨u',r',?_⟩
    rcases q with q | ⟨k,c',e,z'⟩
    ·exact .inl q
    ·refine .inr ⟨k,c',e,z'.sameBut hs ?_⟩
     rintro rfl
     exact hj (ft hN e1 (I.ok.inj _ _ _ e hc ▸ hi))
  ·by_cases hcc:c'=c
   ·subst hcc;exact ⟨_,hc'⟩
   ·obtain ⟨w2,z2⟩:=I.cell y c' e
    exact ⟨w2,z2.sameBut hs hcc⟩
  ·obtain ⟨e,n,ne,nf,d⟩:=I.pin p hp
   refine ⟨(hs.2 p.1 ?_).trans e,n,ne,nf,d⟩
   intro q
   rw [q,hoc] at e
   have q':oc=p.2:=Option.some.inj e
   exact d w' (by rw [← q'];exact hocd)
theorem Zr {M:Model} {A:Around} {E:Value→Shared→Prop} {i:Nat} {x:Str} {v:V} {u:Value} {Q:Unit→Shared→Prop} (I:Inv X pins σ H s) (hN:X.N.Nodup) (hi:X.N[i]? = some x) (hx:Loc X.env.scope x) (r:Qc v u)
  (h:∀ s',Inv X pins (σ.set i (some v)) H s'→Q () s') (hf:X.fn x=true∨X.env.scope.names.lookup x=some .local:=by first | exact .inl rfl | exact .inr rfl | assumption):wpAny M A (storeName X.env x u) Q E s:=
 gq I hN hi hx r (fun s' I' _=>h s' I') hf
theorem Inv.call' {s':Shared} {ch:List Addr} (I:Inv X pins σ H s) (ho:s'.os=s.os) (u:Un (frs X.stack) ch H H' s.heap s'.heap) (hok:HOk X.prog X.w H' s'.heap) (hg:AllBare s'.gens)
  (hch:∀ b ∈ ch,(b ∈ X.ex∨X.s₀.heap.objs.size ≤ b)∧b ≠ X.env.locals∧(∀ x c,X.env.cells.lookup x=some c→c ≠ b)∧∀ p ∈ X.pn ++ pins,p.1 ≠ b):Inv X pins σ H' s':=by
 obtain ⟨h',g',d',t',o'⟩:=s'
 have e:o'=s.os:=ho
 subst e
 exact I.call (g':=g') (t':=t') (d':=d') u hok hg hch
end
noncomputable abbrev XK:=Value→Option Addr→Hp→Prop
noncomputable abbrev St:=List (Option V)
noncomputable abbrev VK:=V→Hp→Prop
noncomputable abbrev TE:=St→Hp→VK→Prop
noncomputable abbrev TT:=St→Hp→(Bool→Hp→Prop)→Prop
noncomputable abbrev TA:=St→Hp→(List V→Hp→Prop)→Prop
structure Te where
 nx:St→Hp→Prop
 rt:VK
 bk:St→Hp→Prop:=fun _ _=>False
 ct:St→Hp→Prop:=fun _ _=>False
noncomputable abbrev TS:=Te→St→Hp→Prop
noncomputable def EP (X:Cx) (pins:List (Addr × Obj)) (σ:St) (Q:VK) (u:Value) (s':Shared):Prop:=∃ v H',Inv X pins σ H' s'∧Qc v u∧Q v H'
noncomputable def TP (X:Cx) (pins:List (Addr × Obj)) (σ:St) (Q:Bool→Hp→Prop) (b:Bool) (s':Shared):Prop:=∃ H',Inv X pins σ H' s'∧Q b H'
noncomputable def AP (X:Cx) (pins:List (Addr × Obj)) (σ:St) (Q:List V→Hp→Prop) (us:List Value) (s':Shared):Prop:=∃ vs H',Inv X pins σ H' s'∧Kc vs us∧Q vs H'
noncomputable def SP (X:Cx) (pins:List (Addr × Obj)) (D:Te) (f:Flow) (s':Shared):Prop:=
 match f with
 | .next=>∃ σ' H',Inv X pins σ' H' s'∧D.nx σ' H'
 | .brk=>∃ σ' H',Inv X pins σ' H' s'∧D.bk σ' H'
 | .cont=>∃ σ' H',Inv X pins σ' H' s'∧D.ct σ' H'
 | .ret u=>∃ v σ' H',Inv X pins σ' H' s'∧Qc v u∧D.rt v H'
noncomputable def PE (X:Cx) (e:Expr) (t:TE):Prop:=
 ∀ (pins:List (Addr × Obj)) (s:Shared) (σ:St) (H:Hp) (Q:VK),Inv X pins σ H s→t σ H Q→wpAny (model X.prog X.w) X.A (eval e X.env) (EP X pins σ Q) X.xe s
noncomputable def PT (X:Cx) (e:Expr) (t:TT):Prop:=
 ∀ (pins:List (Addr × Obj)) (s:Shared) (σ:St) (H:Hp) (Q:Bool→Hp→Prop),Inv X pins σ H s→t σ H Q→wpAny (model X.prog X.w) X.A (isTrue e X.env (eval e X.env)) (TP X pins σ Q) X.xe s
noncomputable def PW (X:Cx) (e:Expr) (t:TT):Prop:=
 ∀ (whole:Sem Value) (pins:List (Addr × Obj)) (s:Shared) (σ:St) (H:Hp) (Q:Bool→Hp→Prop),Inv X pins σ H s→t σ H Q→wpAny (model X.prog X.w) X.A (isTrue e X.env whole) (TP X pins σ Q) X.xe s
theorem PW.pt {X:Cx} {e:Expr} {t:TT} (h:PW X e t):PT X e t:=h _
noncomputable def PA (X:Cx) (es:List Expr) (t:TA):Prop:=
 ∀ (pos:Pos) (pins:List (Addr × Obj)) (s:Shared) (σ:St) (H:Hp) (Q:List V→Hp→Prop),Inv X pins σ H s→t σ H Q→wpAny (model X.prog X.w) X.A (spliced (backTo pos (starEach es X.env))) (AP X pins σ Q) X.xe s
noncomputable def PS (X:Cx) (st:Stmt) (t:TS):Prop:=
 ∀ (pins:List (Addr × Obj)) (s:Shared) (σ:St) (H:Hp) (D:Te),Inv X pins σ H s→t D σ H→wpAny (model X.prog X.w) X.A (exec st X.env) (SP X pins D) X.xe s
noncomputable def PSs (X:Cx) (st:List Stmt) (t:TS):Prop:=
 ∀ (pins:List (Addr × Obj)) (s:Shared) (σ:St) (H:Hp) (D:Te),Inv X pins σ H s→t D σ H→wpAny (model X.prog X.w) X.A (execs st X.env) (SP X pins D) X.xe s
theorem thn {α:Type} {t:Sem α} {Q Q':α→Shared→Prop} {M:Model} {A:Around} {E:Value→Shared→Prop} {s:Shared} (h:wpAny M A t Q E s) (hQ:∀ a s,Q a s→Q' a s):wpAny M A t Q' E s:=wpAny_mono h hQ fun _ _ x=>x
end L2
namespace L2
open PySem PySem.Spec PyProof.Rows
section
variable {X:Cx}
noncomputable def fH (i:Nat):TE:=fun σ H Q=>∃ v,σ[i]? = some (some v)∧Q v H
noncomputable def tC (v:V):TE:=fun _ H Q=>Q v H
theorem MF {i:Nat} {x:Str} {pos:Pos} (hN:X.N[i]? = some x) (hv:Vis X.env.scope x) (hd:(x == ("__debug__" : Str))=false:=by decide) (hcd:(x == ("__classdict__" : Str))=false:=by decide):PE X (.Name x pos) (fH i):=by
 intro pins s σ H Q I h
 obtain ⟨v,e,h⟩:=h
 obtain ⟨m,hn,hl⟩:=I.loc
 obtain ⟨u,r,l⟩:=hl i x v hN e hv
 have fin:EP X pins σ Q u s:=⟨v,H,I,r,h⟩
 rcases l with ⟨hk,hm⟩ | ⟨hk,c,hc,hcell⟩
 ·exact wpAny_Name (wpAny_loadName_local I.ok.kind hk hn hm fin) hd
 ·rcases hk with hk | hk
  ·exact wpAny_Name (wpAny_loadName_cell I.ok.kind hk hc hcell fin) hd
  ·exact wpAny_Name (wpAny_loadName_free I.ok.kind hk hc hcell fin hcd) hd
theorem db {i j pos}:PE X (.Constant (.int i) j pos) (tC (.int i)):=fun _ _ _ H _ I h=>wpAny_Constant_int ⟨.int i,H,I.tok _,⟨_,rfl⟩,h⟩
theorem Xj {b j pos}:PE X (.Constant (.bool b) j pos) (tC (.bl b)):=fun _ _ _ H _ I h=>Constant_bool ⟨.bl b,H,I,rfl,h⟩
theorem dw {j pos}:PE X (.Constant .none j pos) (tC .non):=fun _ _ _ H _ I h=>Constant_none ⟨.non,H,I,rfl,h⟩
theorem pd {x j pos}:PE X (.Constant (.str x) j pos) (tC (.str x)):=fun _ _ _ H _ I h=>Calls.Constant_str ⟨.str x,H,I.tok _,⟨_,rfl⟩,h⟩
noncomputable def Gl (X:Cx) (x:Str):Prop:=X.env.kindOf x=some .globalImplicit
theorem Do {E:Value→Shared→Prop} {pins:List (Addr × Obj)} {s:Shared} {σ:St} {H:Hp} {x:Str} {u:Value} {pos:Pos} {Q:Value→Shared→Prop} (I:Inv X pins σ H s) (hg:Gl X x) (hm:X.mg x=some u) (h:Q u s)
  (hd:(x == ("__debug__" : Str))=false:=by decide):wpAny (model X.prog X.w) X.A (eval (.Name x pos) X.env) Q E s:=
 Calls.Name_function_global I.ok.kind hg (Calls.loadGlobal_global (by rw [I.ok.glob];exact I.mod.glob.keeps I.bk) hm h) hd
theorem Kl {E:Value→Shared→Prop} {pins:List (Addr × Obj)} {s:Shared} {σ:St} {H:Hp} {x:Str} {u:Value} {pos:Pos} {Q:Value→Shared→Prop} (I:Inv X pins σ H s) (hg:Gl X x) (hm:X.mg x=none) (hv:bootBuiltins x=some u) (h:Q u s)
  (hn:x ≠ "__name__" := by decide) (hd:(x == ("__debug__" : Str))=false:=by decide):wpAny (model X.prog X.w) X.A (eval (.Name x pos) X.env) Q E s:=by
 obtain ⟨mb,h1,h2⟩:=I.mod.blt
 exact Calls.Name_function_global I.ok.kind hg (Calls.loadGlobal_builtin (by rw [I.ok.glob];exact I.mod.glob.keeps I.bk) hm (by rw [I.ok.blt];exact h1.keeps I.bk) ((h2 x hn).trans hv) h) hd
theorem Sf {x:Str} {v:V} {u:Value} {pos:Pos} (hg:Gl X x) (hm:X.mg x=some u) (r:Qc v u) (hd:(x == ("__debug__" : Str))=false:=by decide):PE X (.Name x pos) (tC v):=
 fun _ _ _ H _ I h=>Do I hg hm ⟨v,H,I,r,h⟩ hd
theorem jD {x:Str} {v:V} {u:Value} {pos:Pos} (hg:Gl X x) (hm:X.mg x=none) (hv:bootBuiltins x=some u) (r:Qc v u) (hn:x ≠ "__name__" := by decide) (hd:(x == ("__debug__" : Str))=false:=by decide):PE X (.Name x pos) (tC v):=
 fun _ _ _ H _ I h=>Kl I hg hm hv ⟨v,H,I,r,h⟩ hn hd
noncomputable def t2I (ta tb:TE) (k:Int→Int→Hp→Prop):St→Hp→Prop:=fun σ H=>ta σ H fun x H1=>tb σ H1 fun y H2=>∃ i j,x=.int i∧y=.int j∧k i j H2
noncomputable def QI (ta tb:TE):TE:=fun σ H Q=>t2I ta tb (fun i j H2=>Q (.int (i + j)) H2) σ H
noncomputable def DI (ta tb:TE):TE:=fun σ H Q=>t2I ta tb (fun i j H2=>Q (.int (i - j)) H2) σ H
noncomputable def SI (ta tb:TE):TE:=fun σ H Q=>t2I ta tb (fun i j H2=>(-(2 ^ 64) < i∧i < 2 ^ 64)∧Q (.int (i * j)) H2) σ H
variable {a b:Expr} {ta tb:TE} {pos:Pos}
noncomputable def PC (X:Cx) (op:CmpOp) (a b:Expr) (t:TE):Prop:=
 ∀ (pins:List (Addr × Obj)) (s:Shared) (σ:St) (H:Hp) (Q:VK),Inv X pins σ H s→t σ H Q →
  wpAny (model X.prog X.w) X.A (eval a X.env) (fun v s₁=>wpAny (model X.prog X.w) X.A (eval b X.env) (fun u s₂=>wpAny (model X.prog X.w) X.A (compareOp op v u) (EP X pins σ Q) X.xe s₂) X.xe s₁) X.xe s
theorem Cz (b:Expr) {op:CmpOp} (h:op ≠ .In) (h2:op ≠ .NotIn):behindInMarks op b=false:=by
 have e1:(op == CmpOp.In)=false:=by cases op <;> first | rfl | exact absurd rfl h
 have e2:(op == CmpOp.NotIn)=false:=by cases op <;> first | rfl | exact absurd rfl h2
 cases b <;> simp [behindInMarks,e1,e2]
noncomputable def JI (p:Int→Int→Bool) (ta tb:TE):TE:=fun σ H Q=>t2I ta tb (fun i j H2=>Q (.bl (p i j)) H2) σ H
noncomputable def VI (ta:TE):TE:=fun σ H Q=>ta σ H fun x H1=>Q (.bl (decide (x=.non))) H1
noncomputable def UG (ta:TE):TE:=fun σ H Q=>ta σ H fun x H1=>Q (.bl (!decide (x=.non))) H1
noncomputable def tB (t:TE):TT:=fun σ H Q=>t σ H fun x H1=>∃ c,x=.bl c∧Q c H1
theorem nE {op:CmpOp} {t:TE} (h:PC X op a b t) (h1:behindInMarks op b=false:=by first | exact Cz _ (by decide) (by decide) | rfl):PT X (.Compare a [op] [b] pos) (tB t):=by
 intro pins s σ H Q I hw
 refine wpAny_isTrue_Compare1 (thn (h pins s σ H _ I hw) fun v s1 h1=>thn h1 fun u s2 h2=>thn h2 fun c s3 hZ1=>?_) h1
 obtain ⟨x,H1,I1,r1,q1⟩:=hZ1
 obtain ⟨d,rfl,q⟩:=q1
 cases r1
 exact wpAny_truthy_bool ⟨H1,I1,q⟩
theorem em {e:Expr} {t:TE} (h:PE X e t) (he:∀ whole,isTrue e X.env whole=(do let v ← whole;standAt e.pos;holding [v] (truthy v)):=by intro _;rfl):PT X e (tB t):=by
 intro pins s σ H Q I hw
 refine isTrue_plain (thn (h pins s σ H _ I hw) fun v s1 hZ1=>?_) (he _)
 obtain ⟨x,H1,I1,r1,q1⟩:=hZ1
 obtain ⟨d,rfl,q⟩:=q1
 cases r1
 exact wpAny_truthy_bool ⟨H1,I1,q⟩
variable {tA tB':TT} {Oq:List Expr}
noncomputable def sI (t u:TT):TT:=fun σ H Q=>t σ H fun c H1=>if c=true then u σ H1 Q else Q false H1
noncomputable def tOr (t u:TT):TT:=fun σ H Q=>t σ H fun c H1=>if c=true then Q true H1 else u σ H1 Q
noncomputable def aI (t:TT):TT:=fun σ H Q=>t σ H fun c H1=>Q (!c) H1
theorem Qq (ha:PT X a tA):PW X (.BoolOp .And [a] pos) tA:=by
 intro wh pins s σ H Q I h
 refine isTrue_and (thn (ha pins s σ H Q I h) fun c s1 e=>?_)
 cases c with
 | true=>exact isTrue_and_nil e
 | false=>exact e
theorem Rp (ha:PT X a tA):PW X (.BoolOp .Or [a] pos) tA:=by
 intro wh pins s σ H Q I h
 refine isTrue_or (thn (ha pins s σ H Q I h) fun c s1 e=>?_)
 cases c with
 | false=>exact isTrue_or_nil e
 | true=>exact e
theorem Ux (ha:PT X a tA) (hb:PW X (.BoolOp .And (b :: Oq) pos) tB'):PW X (.BoolOp .And (a :: b :: Oq) pos) (sI tA tB'):=by
 intro wh pins s σ H Q I h
 refine isTrue_and (thn (ha pins s σ H _ I h) fun c s1 hZ1=>?_)
 obtain ⟨H1,I1,q1⟩:=hZ1
 cases c with
 | true=>exact hb wh pins s1 σ H1 Q I1 q1
 | false=>exact ⟨H1,I1,q1⟩
theorem Ct (ha:PT X a tA) (hb:PW X (.BoolOp .Or (b :: Oq) pos) tB'):PW X (.BoolOp .Or (a :: b :: Oq) pos) (tOr tA tB'):=by
 intro wh pins s σ H Q I h
 refine isTrue_or (thn (ha pins s σ H _ I h) fun c s1 hZ1=>?_)
 obtain ⟨H1,I1,q1⟩:=hZ1
 cases c with
 | true=>exact ⟨H1,I1,q1⟩
 | false=>exact hb wh pins s1 σ H1 Q I1 q1
theorem pq (ha:PT X a tA):PT X (.UnaryOp .Not a pos) (aI tA):=by
 intro pins s σ H Q I h
 exact isTrue_not (ha pins s σ H (fun c H1=>Q (!c) H1) I h)
noncomputable def cE (ta tb:TE):TE:=fun σ H Q=>ta σ H fun x H1=>∃ c,x=.bl c∧if c=true then tb σ H1 Q else Q (.bl false) H1
noncomputable def yI (ta tb:TE):TE:=fun σ H Q=>ta σ H fun x H1=>∃ c,x=.bl c∧if c=true then Q (.bl true) H1 else tb σ H1 Q
noncomputable def zH (ta:TE):TE:=fun σ H Q=>ta σ H fun x H1=>∃ c,x=.bl c∧Q (.bl (!c)) H1
theorem js {op} {t:TE} (h:PE X a t):PE X (.BoolOp op [a] pos) t:=fun pins s σ H Q I hw=>BoolOp_one (h pins s σ H Q I hw)
theorem cB (ha:PE X a ta) (hb:PE X (.BoolOp .And (b :: Oq) pos) tb):PE X (.BoolOp .And (a :: b :: Oq) pos) (cE ta tb):=by
 intro pins s σ H Q I h
 refine BoolOp_and (thn (ha pins s σ H _ I h) fun v s1 hZ1=>?_)
 obtain ⟨x,H1,I1,r1,q1⟩:=hZ1
 obtain ⟨c,rfl,q1⟩:=q1
 cases r1
 refine wpAny_truthy_bool ?_
 cases c with
 | true=>exact hb pins s1 σ H1 Q I1 q1
 | false=>exact ⟨.bl false,H1,I1,rfl,q1⟩
theorem lF (ha:PE X a ta) (hb:PE X (.BoolOp .Or (b :: Oq) pos) tb):PE X (.BoolOp .Or (a :: b :: Oq) pos) (yI ta tb):=by
 intro pins s σ H Q I h
 refine BoolOp_or (thn (ha pins s σ H _ I h) fun v s1 hZ1=>?_)
 obtain ⟨x,H1,I1,r1,q1⟩:=hZ1
 obtain ⟨c,rfl,q1⟩:=q1
 cases r1
 refine wpAny_truthy_bool ?_
 cases c with
 | false=>exact hb pins s1 σ H1 Q I1 q1
 | true=>exact ⟨.bl true,H1,I1,rfl,q1⟩
noncomputable def tIf (t:TT) (ta tb:TE):TE:=fun σ H Q=>t σ H fun c H1=>if c=true then ta σ H1 Q else tb σ H1 Q
theorem kt {c:Expr} (hc:PT X c tA) (ha:PE X a ta) (hb:PE X b tb):PE X (.IfExp c a b pos) (tIf tA ta tb):=by
 intro pins s σ H Q I h
 refine wpAny_IfExp (thn (hc pins s σ H _ I h) fun d s1 hZ1=>?_)
 obtain ⟨H1,I1,q1⟩:=hZ1
 cases d with
 | true=>exact ha pins s1 σ H1 Q I1 q1
 | false=>exact hb pins s1 σ H1 Q I1 q1
end
end L2
namespace L2
open PySem PySem.Spec PyProof.Rows
noncomputable def SqL (K:PySem.W.Frag) (H:Hp) (a:Addr) (xs:List V):Prop:=
 Rd H a (.lst xs) ∨
  ∃ (o:Obj) (its:Array Value) (n:Nat),K.lookup a=some o∧o.cls=.type "list" ∧ o.dict=none∧o.data=.seq its n∧its.size ≤ sizeLine∧Kc xs its.toList
noncomputable def SqT (K:PySem.W.Frag) (H:Hp) (a:Addr) (xs:List V):Prop:=
 Rd H a (.tup xs) ∨
  ∃ (o:Obj) (its:Array Value) (n:Nat),K.lookup a=some o∧o.cls=.type "tuple" ∧ o.data=.seq its n∧its.size ≤ sizeLine∧Kc xs its.toList
noncomputable def RI:Value→Option V
 | .none=>some .non
 | .bool b=>some (.bl b)
 | .int i _=>some (.int i)
 | .str x _=>some (.str x)
 | .bytes b _=>some (.byt b)
 | .float b _=>some (.flt b)
 | .ref a=>some (.ref a)
 | .type n=>some (.ty n)
 | _=>none
theorem Qc.abs {x:V} {u:Value} (r:Qc x u):RI u=some x:=by
 cases x with
 | non=>cases r;rfl
 | bl _=>cases r;rfl
 | int _=>obtain ⟨t,rfl⟩:=r;rfl
 | str _=>obtain ⟨t,rfl⟩:=r;rfl
 | byt _=>obtain ⟨t,rfl⟩:=r;rfl
 | flt _=>obtain ⟨t,rfl⟩:=r;rfl
 | ref _=>cases r;rfl
 | ty _=>cases r;rfl
theorem Qc.inj {x y:V} {u:Value} (r:Qc x u) (q:Qc y u):x=y:=Option.some.inj (r.abs.symm.trans q.abs)
theorem Kc.inj:∀ {xs ys:List V} {us:List Value},Kc xs us→Kc ys us→xs=ys
 | _,_,_,.nil,.nil=>rfl
 | _,_,_,.cons r t,.cons r' t'=>by rw [r.inj r',Kc.inj t t']
section
variable {X:Cx} {pins:List (Addr × Obj)} {σ:St} {H:Hp} {s:Shared} {a:Addr} {xs ys:List V}
theorem SqL.of {K:PySem.W.Frag} (h:H a=some (.lst xs)):SqL K H a xs:=.inl (.inl h)
theorem SqT.of {K:PySem.W.Frag} (h:H a=some (.tup xs)):SqT K H a xs:=.inl (.inl h)
theorem Inv.list (I:Inv X pins σ H s) (h:SqL X.K H a xs):∃ its:List Value,Kc xs its∧PlainL s.heap a its.toArray∧xs.length ≤ sizeLine:=by
 rcases h with h | ⟨o,its,n,hk,hc,hd,hs,hz,r⟩
 ·obtain ⟨z,its,n,r,e⟩:=h.ok I.hok
  exact ⟨its,r,⟨_,n,e,rfl,rfl,rfl⟩,z⟩
 ·refine ⟨its.toList,r,⟨o,n,I.kIn a o hk,hc,hd,by simpa using hs⟩,?_⟩
  have e:=r.length
  simp only [Array.length_toList] at e
  omega
theorem Inv.tuple (I:Inv X pins σ H s) (h:SqT X.K H a xs):∃ its:List Value,Kc xs its∧IsTup s.heap a its.toArray∧xs.length ≤ sizeLine:=by
 rcases h with h | ⟨o,its,n,hk,hc,hs,hz,r⟩
 ·obtain ⟨z,its,r,p⟩:=h.ok I.hok
  exact ⟨its,r,p,z⟩
 ·refine ⟨its.toList,r,⟨o,I.kIn a o hk,hc,n,by simpa using hs⟩,?_⟩
  have e:=r.length
  simp only [Array.length_toList] at e
  omega
theorem Inv.list_inj (I:Inv X pins σ H s) (h:SqL X.K H a xs) (h':SqL X.K H a ys):xs=ys:=by
 obtain ⟨its,r,⟨o,n,e,_,_,d⟩,_⟩:=I.list h
 obtain ⟨its',r',⟨o',n',e',_,_,d'⟩,_⟩:=I.list h'
 rw [e] at e';cases e'
 rw [d] at d'
 injection d' with d1 _
 have:its=its':=by simpa using congrArg Array.toList d1
 subst this
 exact r.inj r'
theorem Inv.tuple_inj (I:Inv X pins σ H s) (h:SqT X.K H a xs) (h':SqT X.K H a ys):xs=ys:=by
 obtain ⟨its,r,⟨o,e,_,n,d⟩,_⟩:=I.tuple h
 obtain ⟨its',r',⟨o',e',_,n',d'⟩,_⟩:=I.tuple h'
 rw [e] at e';cases e'
 rw [d] at d'
 injection d' with d1 _
 have:its=its':=by simpa using congrArg Array.toList d1
 subst this
 exact r.inj r'
end
noncomputable abbrev Cx.wish (X:Cx) (E:Value→Shared→Prop):Cx:={ X with xe:=E }
noncomputable abbrev Cx.nox (X:Cx):Cx:=X.wish fun _ _=>False
theorem Cx.Ok.wish {X:Cx} (ok:X.Ok) (E:Value→Shared→Prop):(X.wish E).Ok:=
 ⟨ok.mod,ok.kind,ok.glob,ok.blt,ok.above,ok.inj,ok.has,ok.cab,ok.hd,ok.frames,ok.stk,ok.exf,ok.bs,ok.bsz,ok.noex,ok.exfs,ok.funs,ok.frf⟩
theorem Cx.Ok.unwish {X:Cx} {E:Value→Shared→Prop} (ok:(X.wish E).Ok):X.Ok:=
 ⟨ok.mod,ok.kind,ok.glob,ok.blt,ok.above,ok.inj,ok.has,ok.cab,ok.hd,ok.frames,ok.stk,ok.exf,ok.bs,ok.bsz,ok.noex,ok.exfs,ok.funs,ok.frf⟩
section
variable {X:Cx} {pins:List (Addr × Obj)} {σ:St} {H:Hp} {s:Shared} {E:Value→Shared→Prop}
theorem Inv.wish (I:Inv X pins σ H s) (E:Value→Shared→Prop):Inv (X.wish E) pins σ H s:=⟨I.ok.wish E,I.os,I.bare,I.base,I.loc,I.cell,I.free,I.freeC,I.pin,I.hok,I.len⟩
theorem Inv.unwish (I:Inv (X.wish E) pins σ H s):Inv X pins σ H s:=⟨I.ok.unwish,I.os,I.bare,I.base,I.loc,I.cell,I.free,I.freeC,I.pin,I.hok,I.len⟩
theorem SP.unwish {D:Te} {f:Flow} {s':Shared} (h:SP (X.wish E) pins D f s'):SP X pins D f s':=by
 cases f with
 | next=>obtain ⟨σ',H',I,q⟩:=h;exact ⟨σ',H',I.unwish,q⟩
 | brk=>obtain ⟨σ',H',I,q⟩:=h;exact ⟨σ',H',I.unwish,q⟩
 | cont=>obtain ⟨σ',H',I,q⟩:=h;exact ⟨σ',H',I.unwish,q⟩
 | ret u=>obtain ⟨v,σ',H',I,r,q⟩:=h;exact ⟨v,σ',H',I.unwish,r,q⟩
theorem PE.nox {e:Expr} {t:TE} (h:PE X.nox e t):PE X e t:=fun pins s σ H Q I hw=>
 wpAny_mono (h pins s σ H Q (I.wish _) hw) (fun _ _ ⟨v,H',I',r,q⟩=>⟨v,H',I'.unwish,r,q⟩) fun _ _ z=>False.elim z
theorem PT.nox {e:Expr} {t:TT} (h:PT X.nox e t):PT X e t:=fun pins s σ H Q I hw=>
 wpAny_mono (h pins s σ H Q (I.wish _) hw) (fun _ _ ⟨H',I',q⟩=>⟨H',I'.unwish,q⟩) fun _ _ z=>False.elim z
theorem PSs.nox {st:List Stmt} {t:TS} (h:PSs X.nox st t):PSs X st t:=fun pins s σ H D I hw=>
 wpAny_mono (h pins s σ H D (I.wish _) hw) (fun _ _ q=>q.unwish) fun _ _ z=>False.elim z
end
section
variable {X:Cx} {st:Stmt} {Oq:List Stmt} {t u:TS} {e:Expr} {te:TE} {pos:Pos}
noncomputable def eE:TS:=fun D σ H=>D.nx σ H
noncomputable def QH (t u:TS):TS:=fun D σ H=>t { D with nx:=u D } σ H
theorem Nb:PSs X [] eE:=fun _ _ σ H _ I h=>wpAny_execs_nil ⟨σ,H,I,h⟩
theorem cb (h1:PS X st t) (h2:PSs X Oq u):PSs X (st :: Oq) (QH t u):=by
 intro pins s σ H D I h
 refine wpAny_execs_cons (thn (h1 pins s σ H { D with nx:=u D } I h) fun f s1 q=>?_)
 cases f with
 | next=>
  obtain ⟨σ',H',I',q⟩:=q
  exact h2 pins s1 σ' H' D I' q
 | ret v=>exact q
 | brk=>exact q
 | cont=>exact q
theorem ib (h1:PS X st t):PSs X [st] t:=by
 intro pins s σ H D I h
 refine wpAny_execs_cons (thn (h1 pins s σ H D I h) fun f s1 q=>?_)
 cases f with
 | next=>exact wpAny_execs_nil q
 | ret v=>exact q
 | brk=>exact q
 | cont=>exact q
noncomputable def rG:TS:=fun D σ H=>D.bk σ H
noncomputable def aH:TS:=fun D σ H=>D.ct σ H
theorem Inv.quiet {pins:List (Addr × Obj)} {σ:St} {H:Hp} {s:Shared} (I:Inv X pins σ H s):interactive X.env=false:=by simp [interactive,I.ok.kind]
noncomputable def pF (te:TE):TS:=fun D σ H=>te σ H fun _ H1=>D.nx σ H1
theorem Hd (he:PE X e te) (hs:swapsWith e none pos.line X.env=pure false:=by rfl):PS X (.Expr e pos) (pF te):=by
 intro pins s σ H D I h
 exact wpAny_Expr_any (thn (he pins s σ H _ I h) fun v s1 ⟨x,H1,I1,r1,q1⟩=>⟨σ,H1,I1,q1⟩) I.quiet hs
noncomputable def pH (te:TE):TS:=fun D σ H=>te σ H D.rt
theorem Eb (he:PE X e te):PS X (.Return (some e) pos) (pH te):=by
 intro pins s σ H D I h
 exact wpAny_Return_some (thn (he pins s σ H _ I h) fun v s1 ⟨x,H1,I1,r1,q1⟩=>⟨x,σ,H1,I1,r1,q1⟩)
noncomputable def DH:TS:=fun D _ H=>D.rt .non H
noncomputable def qH (c:TT) (t u:TS):TS:=fun D σ H=>c σ H fun b H1=>if b=true then t D σ H1 else u D σ H1
theorem Dd {c:Expr} {a b:List Stmt} {tc:TT} (hc:PT X c tc) (ha:PSs X a t) (hb:PSs X b u):PS X (.If c a b pos) (qH tc t u):=by
 intro pins s σ H D I h
 refine wpAny_If (thn (hc pins s σ H _ I h) fun d s1 hZ1=>?_)
 obtain ⟨H1,I1,q1⟩:=hZ1
 cases d with
 | true=>exact ha pins s1 σ H1 D I1 q1
 | false=>exact hb pins s1 σ H1 D I1 q1
noncomputable def EA:TS:=fun _ _ _=>False
theorem Oh:PS X st EA:=fun _ _ _ _ _ _ h=>h.elim
end
noncomputable abbrev TG:=V→St→Hp→(St→Hp→Prop)→Prop
noncomputable abbrev TGs:=List V→St→Hp→(St→Hp→Prop)→Prop
noncomputable def PG (X:Cx) (target:Expr) (t:TG):Prop:=
 ∀ (pins:List (Addr × Obj)) (s:Shared) (σ:St) (H:Hp) (v:V) (u:Value) (Q:St→Hp→Prop),Inv X pins σ H s→Qc v u→t v σ H Q →
  wpAny (model X.prog X.w) X.A (assign target X.env u) (fun _ s'=>∃ σ' H',Inv X pins σ' H' s'∧Q σ' H') X.xe s
noncomputable def PGs (X:Cx) (ts:List Expr) (t:TGs):Prop:=
 ∀ (pins:List (Addr × Obj)) (s:Shared) (σ:St) (H:Hp) (vs:List V) (us:List Value) (Q:St→Hp→Prop),Inv X pins σ H s→Kc vs us→t vs σ H Q →
  wpAny (model X.prog X.w) X.A (assignInOrder ((assignEach ts X.env).map (·.2)) us) (fun _ s'=>∃ σ' H',Inv X pins σ' H' s'∧Q σ' H') X.xe s
noncomputable abbrev aE:=V→V→V→Hp→(Hp→Prop)→Prop
noncomputable def xI (X:Cx) (t:aE):Prop:=
 ∀ (pins:List (Addr × Obj)) (s:Shared) (σ:St) (H:Hp) (o i v:V) (ov iv u:Value) (Q:Hp→Prop),Inv X pins σ H s→Qc o ov→Qc i iv→Qc v u→t o i v H Q →
  wpAny (model X.prog X.w) X.A (setItem ov iv u) (fun _ s'=>∃ H',Inv X pins σ H' s'∧Q H') X.xe s
noncomputable abbrev TIp:=V→V→Hp→VK→Prop
section
variable {X:Cx} {pos:Pos}
noncomputable def vp (i:Nat):TG:=fun v σ H Q=>Q (σ.set i (some v)) H
theorem Ib {i:Nat} {x:Str} (hN:X.N.Nodup) (hi:X.N[i]? = some x) (hx:Loc X.env.scope x) (hf:X.fn x=true∨X.env.scope.names.lookup x=some .local:=by first | exact .inl rfl | exact .inr rfl | assumption):PG X (.Name x pos) (vp i):=by
 intro pins s σ H v u Q I r h
 exact wpAny_assign_Name (Zr I hN hi hx r (fun s' I'=>⟨_,H,I',h⟩) hf)
noncomputable def OG:TGs:=fun vs σ H Q=>vs=[]∧Q σ H
noncomputable def du (t:TG) (u:TGs):TGs:=fun vs σ H Q=>∃ v r,vs=v :: r∧t v σ H fun σ' H'=>u r σ' H' Q
theorem bh:PGs X [] OG:=by
 intro pins s σ H vs us Q I r h
 obtain ⟨e,h⟩:=h
 subst e
 cases r
 exact assignInOrder_nil ⟨σ,H,I,h⟩
theorem Tc {e:Expr} {es:List Expr} {t:TG} {u:TGs} (h1:PG X e t) (h2:PGs X es u)
  (hs:(assignEach (e :: es) X.env).map (·.2)=assign e X.env :: (assignEach es X.env).map (·.2):=by rfl):PGs X (e :: es) (du t u):=by
 intro pins s σ H vs us Q I r h
 obtain ⟨v,vr,e1,h⟩:=h
 subst e1
 cases r with
 | cons r rr=>
  rw [hs]
  refine assignInOrder_cons (thn (h1 pins s σ H _ _ _ I r h) fun _ s1 hZ1=>?_)
  obtain ⟨σ1,H1,I1,q1⟩:=hZ1
  exact h2 pins s1 σ1 H1 _ _ Q I1 rr q1
noncomputable def IE (K:PySem.W.Frag) (n:Nat) (t:TGs):TG:=fun v σ H Q=>∃ a xs,v=.ref a∧SqT K H a xs∧xs.length=n∧t xs σ H Q
theorem YF {es:List Expr} {k:Nat} {t:TGs} {n:Nat} (hc:X.calm=true) (h:PGs X es t)
  (hn:(assignEach es X.env).length=n:=by rfl) (hst:(assignEach es X.env).findIdx? (·.1)=none:=by rfl):PG X (.Tuple es k pos) (IE X.K n t):=by
 intro pins s σ H v u Q I r hw
 obtain ⟨a,xs,e1,hq,hl,hw⟩:=hw
 subst e1
 cases r
 obtain ⟨its,rv,ht,hz⟩:=I.tuple hq
 refine assign_Tuple_tuple (I.ok.hd hc) ht (by simp [hn,← hl,rv.length]) hst fun h' hx=>?_
 have I1:Inv X pins σ H { s with heap:=h' }:=I.kept (t':=s.toks) fun b o e=>hx b o (Nat.ne_of_lt (Heap.lt_size e)) e
 exact h pins _ σ H xs _ Q I1 (by simpa using rv) hw
noncomputable def XH (to ti:TE) (t:aE):TG:=fun v σ H Q=>to σ H fun o H1=>ti σ H1 fun i H2=>t o i v H2 fun H3=>Q σ H3
theorem eB {o i:Expr} {to ti:TE} {t:aE} (ho:PE X o to) (hi:PE X i ti) (hs:xI X t)
  (ha:∀ v,assign (.Subscript o i pos) X.env v=(do
   let ov ← holding [v] (eval o X.env)
   let iv ← holding [v,ov] (eval i X.env)
   standAt pos
   holding [v,ov,iv] (setItem ov iv v)
   release [v,ov,iv] []):=by intro _;rfl):PG X (.Subscript o i pos) (XH to ti t):=by
 intro pins s σ H v u Q I r h
 rw [ha]
 refine wpAny_bind (wpAny_holding (thn (ho pins s σ H _ I h) fun ov s1 hZ1=>?_))
 obtain ⟨x,H1,I1,r1,q1⟩:=hZ1
 refine wpAny_bind (wpAny_holding (thn (hi pins s1 σ H1 _ I1 q1) fun iv s2 hZ1=>?_))
 obtain ⟨y,H2,I2,r2,q2⟩:=hZ1
 refine wpAny_bind (wpAny_standAt (wpAny_bind (wpAny_holding (thn (hs pins s2 σ H2 x y v ov iv u _ I2 r1 r2 r q2) fun _ s3 hZ1=>?_))))
 obtain ⟨H3,I3,q3⟩:=hZ1
 exact wpAny_release ⟨σ,H3,I3,q3⟩
noncomputable def LG (te:TE) (g:TG):TS:=fun D σ H=>te σ H fun x H1=>g x σ H1 D.nx
theorem Hx {tg e:Expr} {te:TE} {g:TG} (he:PE X e te) (hg:PG X tg g) (hs:swapsWithSole [tg] e pos.line X.env=pure false:=by rfl) (hw:swappedStores [tg] e X.env=pure none:=by rfl)
  (h1:(assignEach [tg] X.env).map (·.2)=[assign tg X.env]:=by rfl):PS X (.Assign [tg] e pos) (LG te g):=by
 intro pins s σ H D I h
 refine wpAny_Assign_stores (thn (he pins s σ H _ I h) fun v s1 hZ1=>?_) hs hw
 obtain ⟨x,H1,I1,r1,q1⟩:=hZ1
 rw [h1]
 exact thn (hg pins s1 σ H1 x v _ I1 r1 q1) fun _ s2 q=>q
theorem Bb {i:Nat} {x:Str} {e:Expr} {te:TE} {pos':Pos} (hN:X.N.Nodup) (hi:X.N[i]? = some x) (hx:Loc X.env.scope x) (he:PE X e te) (hs:swapsWith e (some (.Name x pos')) pos.line X.env=pure false:=by rfl) (hf:X.fn x=true∨X.env.scope.names.lookup x=some .local:=by first | exact .inl rfl | exact .inr rfl | assumption) :
  PS X (.Assign [.Name x pos'] e pos) (LG te (vp i)):=by
 intro pins s σ H D I h
 refine wpAny_Assign_Name (thn (he pins s σ H _ I h) fun v s1 hZ1=>?_) hs
 obtain ⟨y,H1,I1,r1,q1⟩:=hZ1
 exact Zr I1 hN hi hx r1 (fun s2 I2=>⟨_,H1,I2,q1⟩) hf
noncomputable def XI (i j:Nat) (ta:TA):TS:=fun D σ H=>ta σ H fun vs H1=>∃ v w,vs=[v,w]∧D.nx ((σ.set i (some v)).set j (some w)) H1
noncomputable def II (i:Nat) (te:TE) (ti:TIp):TS:=fun D σ H=>∃ x,σ[i]? = some (some x)∧te σ H fun y H1=>ti x y H1 fun z H2=>D.nx (σ.set i (some z)) H2
noncomputable def AH (to ti te:TE) (tget:V→V→Hp→VK→Prop) (tip:TIp) (tset:aE):TS:=fun D σ H=>to σ H fun o H1=>ti σ H1 fun i H2=>tget o i H2 fun x H3=>te σ H3 fun y H4=>tip x y H4 fun z H5=>tset o i z H5 fun H6=>D.nx σ H6
end
section
variable {X:Cx} {pos:Pos}
end
structure It where
 go:Nat→Hp→Prop
 yld:Nat→Hp→V→Hp→Prop
 stop:Nat→Hp→Prop
noncomputable def pp (X:Cx) (pins:List (Addr × Obj)) (H:Hp) (b:Addr):Prop:=
 H b=none∧b ≠ X.env.locals∧b ∉ X.fs∧(b ∈ X.ex∨X.s₀.heap.objs.size ≤ b)∧(∀ x c,X.env.cells.lookup x=some c→c ≠ b)∧∀ p ∈ X.pn ++ pins,p.1 ≠ b
theorem Inv.fpOk {X:Cx} {pins:List (Addr × Obj)} {σ:St} {H H':Hp} {s:Shared} {b:Addr} (I:Inv X pins σ H s) (hb:s.heap.objs.size ≤ b) (hn:H' b=none):pp X pins H' b:=by
 refine ⟨hn,Nat.ne_of_gt (Nat.lt_of_lt_of_le I.lt hb),I.nofs hb,.inr (Nat.le_trans I.sz hb),fun x c e z=>?_,fun p hp z=>?_⟩
 ·obtain ⟨v,q⟩:=I.cell x c e
  exact absurd (Nat.lt_of_lt_of_le q.lt (by rw [z];exact hb)) (Nat.lt_irrefl _)
 ·exact absurd (Nat.lt_of_lt_of_le (Heap.lt_size (I.pin p hp).1) (by rw [z];exact hb)) (Nat.lt_irrefl _)
structure Sz (P:Program) (w:World) (K:PySem.W.Frag) (tg:Expr) (J:It) (fp:List Addr) (it:Addr) (tn:Nat→Heap→Prop):Prop where
 mem:it ∈ fp
 obj:∀ i h,tn i h→∀ b ∈ fp,∃ o,h.get? b=some o∧∀ v,o.data ≠ .cell v
 keep:∀ i h h',tn i h→(∀ b ∈ fp,∀ o,h.get? b=some o→h'.get? b=some o)→tn i h'
 item:∀ (X:Cx),X.prog=P→X.w=w→X.K=K→X.calm=true→∀ (i:Nat) (pins:List (Addr × Obj)) (s:Shared) (σ:St) (H:Hp) (E:Value→Shared→Prop),Inv X pins σ H s→(∀ b ∈ fp,pp X pins H b)→tn i s.heap→J.go i H →
  wpAny (model P w) X.A (pyNext (.ref it)) (fun r s1=>∃ u,r=some u ∧
   wpAny (model P w) X.A (letOwnedTupleGo tg (.ref it) u) (fun _ s2=>∃ x H',Inv X pins σ H' s2∧Qc x u∧J.yld i H x H'∧tn (i + 1) s2.heap∧∀ b ∈ fp,H' b=none) E s1) E s
 done:∀ (X:Cx),X.prog=P→X.w=w→X.K=K→X.calm=true→∀ (i:Nat) (pins:List (Addr × Obj)) (s:Shared) (σ:St) (H:Hp) (E:Value→Shared→Prop),Inv X pins σ H s→(∀ b ∈ fp,pp X pins H b)→tn i s.heap→J.stop i H →
  wpAny (model P w) X.A (pyNext (.ref it)) (fun r s1=>r=none∧Inv X pins σ H s1) E s
 self:∀ (A:Around) (i:Nat) (s:Shared) (Q:Value→Shared→Prop) (E:Value→Shared→Prop),tn i s.heap→Q (.ref it) s→wpAny (model P w) A (pyIter (.ref it)) Q E s
noncomputable abbrev TI:=St→Hp→(It→Hp→Prop)→Prop
noncomputable def PIE (X:Cx) (pins:List (Addr × Obj)) (σ:St) (tg:Expr) (R:It→Hp→Prop) (itv:Value) (s2:Shared):Prop:=
 ∃ (it:Addr) (fp:List Addr) (tn:Nat→Heap→Prop) (J:It) (H':Hp),itv=.ref it∧Inv X pins σ H' s2∧Sz X.prog X.w X.K tg J fp it tn∧tn 0 s2.heap∧(∀ b ∈ fp,pp X pins H' b)∧R J H'
noncomputable def PI (X:Cx) (tg iter:Expr) (wi:TI):Prop:=
 ∀ (pins:List (Addr × Obj)) (s:Shared) (σ:St) (H:Hp) (R:It→Hp→Prop),Inv X pins σ H s→wi σ H R →
  wpAny (model X.prog X.w) X.A (eval iter X.env) (fun v s1=>wpAny (model X.prog X.w) X.A (pyIter v) (PIE X pins σ tg R) X.xe s1) X.xe s
theorem sv {M:Model} {A:Around} {E:Value→Shared→Prop} {s:Shared} {tg:Expr} {it:Addr} {u:Value} {o:Obj} {n:String} {vs:Array Value} {Q:Unit→Shared→Prop} (ho:s.heap.get? it=some o) (hc:o.cls=.type n) (hd:o.data=.fields vs)
    (hn:["enumerate","zip","dict_itemiterator","dict_reverseitemiterator","odict_iterator","itertools.zip_longest","itertools.pairwise"].contains n=false) (hQ:Q () s):wpAny M A (letOwnedTupleGo tg (.ref it) u) Q E s:=by
  unfold letOwnedTupleGo
  cases tg <;> first
    | exact wpAny_pure hQ
    | (cases u <;> first
        | exact wpAny_pure hQ
        | (refine wpAny_bind (wpAny_load ho ?_)
           rw [hc,hd]
           show wpAny M A (if (["enumerate","zip","dict_itemiterator","dict_reverseitemiterator","odict_iterator","itertools.zip_longest","itertools.pairwise"].contains n && vs[0]? == some (rawInt _))=true then _ else _) Q E s
           rw [if_neg (by intro h;rw [hn,Bool.false_and] at h;cases h)]
           exact wpAny_pure hQ))
noncomputable def Itl (K:PySem.W.Frag) (a:Addr):It:=
 ⟨fun i H=>∃ xs x,SqL K H a xs∧xs[i]? = some x,fun i H x H'=>H'=H∧∀ xs,SqL K H a xs→xs[i]? = some x,fun i H=>∃ xs,SqL K H a xs∧xs.length ≤ i⟩
noncomputable def Itt (K:PySem.W.Frag) (a:Addr):It:=
 ⟨fun i H=>∃ xs x,SqT K H a xs∧xs[i]? = some x,fun i H x H'=>H'=H∧∀ xs,SqT K H a xs→xs[i]? = some x,fun i H=>∃ xs,SqT K H a xs∧xs.length ≤ i⟩
noncomputable def Itr (lo:Int) (n:Nat):It:=⟨fun i _=>i < n,fun i H x H'=>H'=H∧x=.int (lo + i),fun i _=>n ≤ i⟩
theorem xw {P:Program} {w:World} {K:PySem.W.Frag} {tg:Expr} (a it:Addr):Sz P w K tg (Itl K a) [it] it (fun i h=>h.IsListIter it a i) where
 mem:=by simp
 obj:=fun i h st b hb=>by
  have e:b=it:=by simpa using hb
  subst e
  obtain ⟨o,e,c,d⟩:=st
  exact ⟨o,e,fun v z=>by rw [d] at z;cases z⟩
 keep:=fun i h h' st k=>st.at fun o e=>k it (by simp) o e
 item:=by
  intro X hP hw hK hc i pins s σ H E I hf st hg
  subst hP hw hK
  obtain ⟨xs,x,hq,hx⟩:=hg
  obtain ⟨its,rv,p,hz⟩:=I.list hq
  obtain ⟨u,hu,ru⟩:=rv.get hx
  obtain ⟨f0,f1,f2,f3,f4,f5⟩:=hf it (by simp)
  refine wpAny_pyNext_list_item st p.isList (x:=u) (by simpa using hu) fun h' st' sb=>?_
  have I1:Inv X pins σ H { s with heap:=h' }:=I.turned (t':=s.toks) (fun b o hb e=>(sb.2 b hb).trans e) f0 f1 f3 f4 f5
  obtain ⟨o,e,c,d⟩:=id st'
  exact ⟨u,rfl,sv (s:={ s with heap:=h' }) e c d (by decide) ⟨x,H,I1,ru,⟨rfl,fun ys hy=>by rw [I.list_inj hy hq];exact hx⟩,st',fun b hb=>(hf b hb).1⟩⟩
 done:=by
  intro X hP hw hK hc i pins s σ H E I hf st hg
  subst hP hw hK
  obtain ⟨xs,hq,hx⟩:=hg
  obtain ⟨its,rv,p,hz⟩:=I.list hq
  obtain ⟨f0,f1,f2,f3,f4,f5⟩:=hf it (by simp)
  have hl:=rv.length
  exact wpAny_pyNext_list_end (I.ok.hd hc) st p.isList (by simp;omega) fun h' eb=>⟨rfl,I.turned (t':=s.toks) (fun b o hb e=>eb b o hb e) f0 f1 f3 f4 f5⟩
 self:=fun _ _ _ _ _ st h=>wpAny_pyIter_listiter st h
theorem uu {P:Program} {w:World} {K:PySem.W.Frag} {tg:Expr} (a it:Addr):Sz P w K tg (Itt K a) [it] it (fun i h=>h.IsTupleIter it a i) where
 mem:=by simp
 obj:=fun i h st b hb=>by
  have e:b=it:=by simpa using hb
  subst e
  obtain ⟨o,e,c,d⟩:=st
  exact ⟨o,e,fun v z=>by rw [d] at z;cases z⟩
 keep:=fun i h h' st k=>st.at fun o e=>k it (by simp) o e
 item:=by
  intro X hP hw hK hc i pins s σ H E I hf st hg
  subst hP hw hK
  obtain ⟨xs,x,hq,hx⟩:=hg
  obtain ⟨its,rv,p,hz⟩:=I.tuple hq
  obtain ⟨u,hu,ru⟩:=rv.get hx
  obtain ⟨f0,f1,f2,f3,f4,f5⟩:=hf it (by simp)
  refine wpAny_pyNext_tuple_item st (show s.heap.IsTuple a its.toArray from p) (x:=u) (by simpa using hu) fun h' st' sb=>?_
  have I1:Inv X pins σ H { s with heap:=h' }:=I.turned (t':=s.toks) (fun b o hb e=>(sb.2 b hb).trans e) f0 f1 f3 f4 f5
  obtain ⟨o,e,c,d⟩:=id st'
  exact ⟨u,rfl,sv (s:={ s with heap:=h' }) e c d (by decide) ⟨x,H,I1,ru,⟨rfl,fun ys hy=>by rw [I.tuple_inj hy hq];exact hx⟩,st',fun b hb=>(hf b hb).1⟩⟩
 done:=by
  intro X hP hw hK hc i pins s σ H E I hf st hg
  subst hP hw hK
  obtain ⟨xs,hq,hx⟩:=hg
  obtain ⟨its,rv,p,hz⟩:=I.tuple hq
  obtain ⟨f0,f1,f2,f3,f4,f5⟩:=hf it (by simp)
  have hl:=rv.length
  exact wpAny_pyNext_tuple_end (I.ok.hd hc) st (show s.heap.IsTuple a its.toArray from p) (by simp;omega) fun h' eb=>⟨rfl,I.turned (t':=s.toks) (fun b o hb e=>eb b o hb e) f0 f1 f3 f4 f5⟩
 self:=fun _ _ _ _ _ st h=>wpAny_pyIter_tupleiter st h
theorem zt {P:Program} {w:World} {K:PySem.W.Frag} {tg:Expr} (it:Addr) (lo:Int) (n:Nat):Sz P w K tg (Itr lo n) [it] it (fun i h=>IsRangeIter h it (lo + (i:Nat) * 1) ((n:Int) - (i:Nat)) 1) where
 mem:=by simp
 obj:=fun i h st b hb=>by
  have e:b=it:=by simpa using hb
  subst e
  exact ⟨_,st,fun v z=>by
   have z':Data.fields _=Data.cell v:=z
   cases z'⟩
 keep:=fun i h h' st k=>k it (by simp) _ st
 item:=by
  intro X hP hw hK hc i pins s σ H E I hf st hg
  subst hP hw hK
  obtain ⟨f0,f1,f2,f3,f4,f5⟩:=hf it (by simp)
  have W:=Walks.range (prog:=X.prog) (w:=X.w) (I.ok.hd hc) it lo 1 n
  refine W.item i s _ _ hg st fun v h' tk hv st' kk=>?_
  obtain ⟨t,rfl⟩:=hv
  have I1:Inv X pins σ H { s with heap:=h',toks:=tk }:=I.turned (fun b o hb e=>kk b o (by simpa using hb) e) f0 f1 f3 f4 f5
  refine ⟨_,rfl,sv (s:={ s with heap:=h',toks:=tk }) (n := "range_iterator") st' rfl rfl (by decide) ⟨.int (lo + i),H,I1,⟨t,?_⟩,⟨rfl,rfl⟩,st',fun b hb=>(hf b hb).1⟩⟩
  rw [Int.mul_one]
 done:=by
  intro X hP hw hK hc i pins s σ H E I hf st hg
  subst hP hw hK
  obtain ⟨f0,f1,f2,f3,f4,f5⟩:=hf it (by simp)
  exact wpAny_pyNext_range_end (I.ok.hd hc) st (by have:n ≤ i:=hg;omega) fun h' eb=>⟨rfl,I.turned (t':=s.toks) (fun b o hb e=>eb b o hb e) f0 f1 f3 f4 f5⟩
 self:=fun _ _ _ _ _ st h=>wpAny_pyIter_rangeiter st h
end L2
namespace L2
open PySem PySem.Spec PyProof.Rows
section
variable {X:Cx} {tg:Expr}
noncomputable def rE (K:PySem.W.Frag) (tl:TE):TI:=fun σ H R=>tl σ H fun x H1=>∃ a,x=.ref a∧(∃ xs,SqL K H1 a xs)∧R (Itl K a) H1
noncomputable def vI (K:PySem.W.Frag) (tl:TE):TI:=fun σ H R=>tl σ H fun x H1=>∃ a,x=.ref a∧(∃ xs,SqT K H1 a xs)∧R (Itt K a) H1
theorem ff {l:Expr} {tl:TE} (hl:PE X l tl):PI X tg l (rE X.K tl):=by
 intro pins s σ H R I h
 refine thn (hl pins s σ H _ I h) fun v s1 hZ1=>?_
 obtain ⟨x,H1,I1,r1,q1⟩:=hZ1
 obtain ⟨a,e,⟨xs,hq⟩,q⟩:=q1
 subst e
 cases r1
 obtain ⟨its,rv,p,hz⟩:=I1.list hq
 refine wpAny_pyIter_list p.isList ?_
 refine ⟨s1.heap.objs.size,[s1.heap.objs.size],_,_,H1,rfl,I1.kept (t':=s1.toks) fun b o e=>Heap.get?_push_of_some _ e,xw a _,⟨_,Heap.get?_push_size _ rfl,rfl,rfl⟩,fun b hb=>?_,q⟩
 have e:b=s1.heap.objs.size:=by simpa using hb
 subst e
 exact I1.fpOk (Nat.le_refl _) (I1.hok.fresh (Nat.le_refl _))
theorem qF {l:Expr} {tl:TE} (hl:PE X l tl):PI X tg l (vI X.K tl):=by
 intro pins s σ H R I h
 refine thn (hl pins s σ H _ I h) fun v s1 hZ1=>?_
 obtain ⟨x,H1,I1,r1,q1⟩:=hZ1
 obtain ⟨a,e,⟨xs,hq⟩,q⟩:=q1
 subst e
 cases r1
 obtain ⟨its,rv,p,hz⟩:=I1.tuple hq
 refine wpAny_pyIter_tuple (show s1.heap.IsTuple a its.toArray from p) ?_
 refine ⟨s1.heap.objs.size,[s1.heap.objs.size],_,_,H1,rfl,I1.kept (t':=s1.toks) fun b o e=>Heap.get?_push_of_some _ e,uu a _,⟨_,Heap.get?_push_size _ rfl,rfl,rfl⟩,fun b hb=>?_,q⟩
 have e:b=s1.heap.objs.size:=by simpa using hb
 subst e
 exact I1.fpOk (Nat.le_refl _) (I1.hok.fresh (Nat.le_refl _))
theorem Ws {pins:List (Addr × Obj)} {σ:St} {H:Hp} {s:Shared} {R:It→Hp→Prop} {E:Value→Shared→Prop} {lo hi:Int} {t u v:Tok} {tk:Nat} (I:Inv X pins σ H s) (h1:-(2 ^ 62) ≤ lo) (h2:lo < 2 ^ 62) (h3:-(2 ^ 62) ≤ hi) (h4:hi < 2 ^ 62)
  (q:R (Itr lo (hi - lo).toNat) H):wpAny (model X.prog X.w) X.A (pyIter (.ref s.heap.objs.size)) (PIE X pins σ tg R) E { s with heap:=s.heap.push { cls:=.type "range",data:=.fields #[.int lo t,.int hi u,.int 1 v] },toks:=tk }:=by
 refine wpAny_pyIter_range (IsRange.new ..) (small_one h1 h2 h3 h4) ?_
 have I1:Inv X pins σ H { s with heap:=s.heap.push { cls:=.type "range",data:=.fields #[.int lo t,.int hi u,.int 1 v] },toks:=tk }:=I.kept fun b o e=>Heap.get?_push_of_some _ e
 refine ⟨(s.heap.push { cls:=.type "range",data:=.fields #[.int lo t,.int hi u,.int 1 v] }).objs.size,[(s.heap.push { cls:=.type "range",data:=.fields #[.int lo t,.int hi u,.int 1 v] }).objs.size],_,_,H,rfl,
  I1.kept (t':=tk) fun b o e=>Heap.get?_push_of_some _ e,zt _ lo (hi - lo).toNat,?_,fun b hb=>?_,q⟩
 ·have e1:lo + ((0:Nat):Int) * 1=lo:=by simp
  have e2:(((hi - lo).toNat:Nat):Int) - ((0:Nat):Int)=Builtin.Range.rangeSize lo hi 1:=by rw [rangeSize_one];split <;> omega
  show IsRangeIter _ _ (lo + ((0:Nat):Int) * 1) ((((hi - lo).toNat:Nat):Int) - ((0:Nat):Int)) 1
  rw [e1,e2]
  exact Heap.get?_push_size _ rfl
 ·have e:b=(s.heap.push { cls:=.type "range",data:=.fields #[.int lo t,.int hi u,.int 1 v] }).objs.size:=by simpa using hb
  subst e
  exact I1.fpOk (Nat.le_refl _) (I1.hok.fresh (Nat.le_refl _))
noncomputable def kF (ta:TA):TI:=fun σ H R=>ta σ H fun vs H1=>∃ j:Int,vs=[.int j]∧-(2 ^ 62) ≤ j∧j < 2 ^ 62∧R (Itr 0 j.toNat) H1
noncomputable def fF (ta:TA):TI:=fun σ H R=>ta σ H fun vs H1=>∃ i j:Int,vs=[.int i,.int j]∧(-(2 ^ 62) ≤ i∧i < 2 ^ 62∧-(2 ^ 62) ≤ j∧j < 2 ^ 62)∧R (Itr i (j - i).toNat) H1
theorem ye {a:Expr} {ta:TA} {p pos:Pos} (hg:Gl X "range") (hm:X.mg "range"=none) (ha:PA X [a] ta) (hs:starEach [a] X.env=[(false,eval a X.env)]:=by rfl):PI X tg (.Call (.Name "range" p) [a] [] pos) (kF ta):=by
 intro pins s σ H R I h
 refine Call_ (Kl I hg hm boot_range (PyProof.Rows.callWith_type1 (thn (ha pos pins s σ H _ I h) fun us s1 hZ1=>?_) hs rfl))
 obtain ⟨vs,H1,I1,r1,q1⟩:=hZ1
 obtain ⟨j,e,q1,q2,q⟩:=q1
 subst e
 cases r1 with
 | cons r rr=>
  cases rr
  obtain ⟨t,rfl⟩:=r
  exact call_range_1 (Ws I1 (by omega) (by omega) q1 q2 (by simpa using q))
theorem gw {a b:Expr} {ta:TA} {p pos:Pos} (hg:Gl X "range") (hm:X.mg "range"=none) (ha:PA X [a,b] ta) (hs:starEach [a,b] X.env=[(false,eval a X.env),(false,eval b X.env)]:=by rfl) (hs2:starEach [b] X.env=[(false,eval b X.env)]:=by rfl) :
  PI X tg (.Call (.Name "range" p) [a,b] [] pos) (fF ta):=by
 intro pins s σ H R I h
 refine Call_ (Kl I hg hm boot_range (PyProof.Rows.callWith_type1 (thn (ha pos pins s σ H _ I h) fun us s1 hZ1=>?_) (by rw [hs,hs2]) (by rw [hs2];rfl)))
 obtain ⟨vs,H1,I1,r1,q1⟩:=hZ1
 obtain ⟨i,j,e,⟨q1,q2,q3,q4⟩,q⟩:=q1
 subst e
 cases r1 with
 | cons r rr=>
  cases rr with
  | cons r' rr=>
   cases rr
   obtain ⟨t,rfl⟩:=r
   obtain ⟨t',rfl⟩:=r'
   exact call_range_2 (Ws I1 q1 q2 q3 q4 q)
noncomputable def jI (wi:TI) (g:TG) (tb:TS):TS:=fun D σ H=>wi σ H fun J H1=>∃ W:Nat→Nat→St→Hp→Prop,(∃ m,W 0 m σ H1)∧∀ i m σ H,W i m σ H →
 (J.stop i H∧D.nx σ H)∨(J.go i H∧∃ N:St→Hp→Prop,(∀ σ' H',N σ' H'→∃ m',m' < m∧W (i + 1) m' σ' H')∧∀ x H',J.yld i H x H'→g x σ H' fun σ2 H2=>tb { D with nx:=N,ct:=N,bk:=D.nx } σ2 H2)
noncomputable def jq (fp:List Addr) (h:Heap):List (Addr × Obj):=fp.filterMap fun b=>(h.get? b).map fun o=>(b,o)
theorem Sh {fp:List Addr} {h:Heap} {b:Addr} {o:Obj} (hb:b ∈ fp) (e:h.get? b=some o):(b,o) ∈ jq fp h:=List.mem_filterMap.mpr ⟨b,hb,by rw [e];rfl⟩
theorem Wu {fp:List Addr} {h:Heap} {p:Addr × Obj} (hp:p ∈ jq fp h):p.1 ∈ fp∧h.get? p.1=some p.2:=by
 obtain ⟨b,hb,e⟩:=List.mem_filterMap.mp hp
 cases q:h.get? b with
 | none=>rw [q] at e;cases e
 | some o=>
  rw [q] at e
  have e':(b,o)=p:=Option.some.inj e
  subst e'
  exact ⟨hb,q⟩
theorem Inv.pinned {pins:List (Addr × Obj)} {σ:St} {H:Hp} {s:Shared} {fp:List Addr} (I:Inv X pins σ H s) (hf:∀ b ∈ fp,pp X pins H b) (ho:∀ b ∈ fp,∃ o,s.heap.get? b=some o∧∀ v,o.data ≠ .cell v):Inv X (pins ++ jq fp s.heap) σ H s:=
 I.pins_of fun p hp=>(List.mem_append.mp hp).elim (fun z=>I.pin p (List.mem_append_right _ z)) fun z=>by
  obtain ⟨hb,e⟩:=Wu z
  obtain ⟨f0,f1,f2,_⟩:=hf p.1 hb
  obtain ⟨o,e',d⟩:=ho p.1 hb
  rw [e] at e';cases e'
  exact ⟨e,f0,f1,f2,d⟩
theorem Inv.unpinned {pins pl:List (Addr × Obj)} {σ:St} {H:Hp} {s:Shared} (I:Inv X (pins ++ pl) σ H s):Inv X pins σ H s:=I.pins_of fun p hp=>I.pin p (List.mem_append_right _ (List.mem_append_left _ hp))
theorem sf {iter:Expr} {body:List Stmt} {wi:TI} {g:TG} {tb:TS} {pos:Pos} (hp:PassesOwn (model X.prog X.w) X.A X.env X.xe) (hc:X.calm=true) (hi:PI X tg iter wi) (hg:PG X tg g) (hb:PSs X body tb)
  (hs:∀ x,foldedSetIterable iter X.env x=pure x:=by intro _;rfl):PS X (.For tg iter body [] pos) (jI wi g tb):=by
 intro pins s σ H D I h
 refine wpAny_For (thn (hi pins s σ H _ I h) fun v s1 h1=>thn h1 fun itv s2 h2=>?_) hs
 obtain ⟨it,fp,tn,J,H2,e,I2,T,st2,f2,W,⟨m0,w0⟩,turn⟩:=h2
 subst e
 -- what stays true of the iterator's objects through the loop
 have stat:∀ {H':Hp},(∀ b ∈ fp,H' b=none)→∀ b ∈ fp,pp X pins H' b:=fun hn b hb=>⟨hn b hb,(f2 b hb).2⟩
 refine codeAny_forLoop_any (fun n s'=>∃ i σ' H',Inv X pins σ' H' s'∧tn i s'.heap∧(∀ b ∈ fp,H' b=none)∧W i n σ' H') ?_ m0 ⟨0,σ,H2,I2,st2,fun b hb=>(f2 b hb).1,w0⟩
 rintro n s3 ⟨i,σ3,H3,I3,st3,fr3,w3⟩
 rcases turn i n σ3 H3 w3 with ⟨stop,qn⟩ | ⟨go,N,hN,step⟩
 ·refine wpAny_passesOwn hp (thn (T.done X rfl rfl rfl hc i pins s3 σ3 H3 X.xe I3 (stat fr3) st3 stop) fun r s4 hZ1=>?_)
  obtain ⟨hr,I4⟩:=hZ1
  subst hr
  exact wpAny_execs_nil ⟨σ3,H3,I4,qn⟩
 ·refine wpAny_passesOwn hp (thn (T.item X rfl rfl rfl hc i pins s3 σ3 H3 X.xe I3 (stat fr3) st3 go) fun r s4 hZ1=>?_)
  obtain ⟨u,hr,h4⟩:=hZ1
  subst hr
  refine wpAny_passesOwn hp (thn h4 fun _ s5 hZ1=>?_)
  obtain ⟨x,H5,I5,r5,y5,st5,fr5⟩:=hZ1
  have I5':=I5.pinned (stat fr5) (T.obj _ _ st5)
  refine wpAny_passesOwn hp (thn (hg _ s5 σ3 H5 x u _ I5' r5 (step x H5 y5)) fun _ s6 hZ1=>?_)
  obtain ⟨σ6,H6,I6,q6⟩:=hZ1
  refine wpAny_passesOwn hp (thn (hb _ s6 σ6 H6 _ I6 q6) fun f s7 q7=>?_)
  have again:∀ {σ7:St} {H7:Hp},Inv X (pins ++ jq fp s5.heap) σ7 H7 s7→N σ7 H7→∃ m,m < n∧∃ i σ' H',Inv X pins σ' H' s7∧tn i s7.heap∧(∀ b ∈ fp,H' b=none)∧W i m σ' H':=fun {σ7 H7} I7 n7=>by
   obtain ⟨m',hm,w7⟩:=hN σ7 H7 n7
   refine ⟨m',hm,i + 1,σ7,H7,I7.unpinned,T.keep _ _ _ st5 fun b hb o e=>(I7.pin (b,o) (List.mem_append_right _ (List.mem_append_right _ (Sh hb e)))).1,fun b hb=>?_,w7⟩
   obtain ⟨o,e,d⟩:=T.obj _ _ st5 b hb
   exact (I7.pin (b,o) (List.mem_append_right _ (List.mem_append_right _ (Sh hb e)))).2.1
  cases f with
  | next=>obtain ⟨σ7,H7,I7,n7⟩:=q7;exact again I7 n7
  | cont=>obtain ⟨σ7,H7,I7,n7⟩:=q7;exact again I7 n7
  | brk=>obtain ⟨σ7,H7,I7,q7⟩:=q7;exact ⟨σ7,H7,I7.unpinned,q7⟩
  | ret v=>obtain ⟨x7,σ7,H7,I7,r7,q7⟩:=q7;exact ⟨x7,σ7,H7,I7.unpinned,r7,q7⟩
end
theorem Ry {K:PySem.W.Frag} {a:Addr} {xs:List V} {g:TG} {tb:TS} {D:Te} {σ:St} {H:Hp} (Pv:Nat→St→Hp→Prop) (h0:Pv 0 σ H) (hl:∀ i σ H,i ≤ xs.length→Pv i σ H→SqL K H a xs)
  (hs:∀ i x σ H,xs[i]? = some x→Pv i σ H→g x σ H fun σ2 H2=>tb { D with nx:=Pv (i + 1),ct:=Pv (i + 1),bk:=D.nx } σ2 H2) (hd:∀ σ H,Pv xs.length σ H→D.nx σ H) :
  ∃ W:Nat→Nat→St→Hp→Prop,(∃ m,W 0 m σ H)∧∀ i m σ H,W i m σ H →
   ((Itl K a).stop i H∧D.nx σ H)∨((Itl K a).go i H∧∃ N:St→Hp→Prop,(∀ σ' H',N σ' H'→∃ m',m' < m∧W (i + 1) m' σ' H')∧∀ x H',(Itl K a).yld i H x H'→g x σ H' fun σ2 H2=>tb { D with nx:=N,ct:=N,bk:=D.nx } σ2 H2):=by
 refine ⟨fun i m σ H=>m=xs.length - i∧i ≤ xs.length∧Pv i σ H,⟨xs.length,by simp,Nat.zero_le _,h0⟩,?_⟩
 rintro i m σ H ⟨rfl,hi,p⟩
 have q:=hl i σ H hi p
 by_cases hlt:i < xs.length
 ·refine .inr ⟨⟨xs,xs[i],q,by simp [hlt]⟩,Pv (i + 1),fun σ' H' p'=>⟨xs.length - (i + 1),by omega,rfl,hlt,p'⟩,fun x H' y=>?_⟩
  obtain ⟨e,y⟩:=y
  subst e
  exact hs i x σ _ (y xs q) p
 ·have e:i=xs.length:=by omega
  subst e
  exact .inl ⟨⟨xs,q,Nat.le_refl _⟩,hd σ H p⟩
theorem Iw {lo:Int} {n:Nat} {g:TG} {tb:TS} {D:Te} {σ:St} {H:Hp} (Pv:Nat→St→Hp→Prop) (h0:Pv 0 σ H)
  (hs:∀ i σ H,i < n→Pv i σ H→g (.int (lo + i)) σ H fun σ2 H2=>tb { D with nx:=Pv (i + 1),ct:=Pv (i + 1),bk:=D.nx } σ2 H2) (hd:∀ σ H,Pv n σ H→D.nx σ H) :
  ∃ W:Nat→Nat→St→Hp→Prop,(∃ m,W 0 m σ H)∧∀ i m σ H,W i m σ H →
   ((Itr lo n).stop i H∧D.nx σ H)∨((Itr lo n).go i H∧∃ N:St→Hp→Prop,(∀ σ' H',N σ' H'→∃ m',m' < m∧W (i + 1) m' σ' H')∧∀ x H',(Itr lo n).yld i H x H'→g x σ H' fun σ2 H2=>tb { D with nx:=N,ct:=N,bk:=D.nx } σ2 H2):=by
 refine ⟨fun i m σ H=>m=n - i∧i ≤ n∧Pv i σ H,⟨n,by simp,Nat.zero_le _,h0⟩,?_⟩
 rintro i m σ H ⟨rfl,hi,p⟩
 by_cases hlt:i < n
 ·refine .inr ⟨hlt,Pv (i + 1),fun σ' H' p'=>⟨n - (i + 1),by omega,rfl,hlt,p'⟩,fun x H' y=>?_⟩
  obtain ⟨e,y⟩:=y
  subst e y
  exact hs i σ _ hlt p
 ·have e:i=n:=by omega
  subst e
  exact .inl ⟨Nat.le_refl _,hd σ H p⟩
end L2
namespace L2
open PySem PySem.Spec PyProof.Rows
noncomputable abbrev R2:=V→V→Hp→VK→Prop
noncomputable def OpR (X:Cx) (f:Value→Value→Sem Value) (r:R2):Prop:=
 ∀ (pins:List (Addr × Obj)) (s:Shared) (σ:St) (H:Hp) (x y:V) (v u:Value) (Q:VK),Inv X pins σ H s→Qc x v→Qc y u→r x y H Q →
  wpAny (model X.prog X.w) X.A (f v u) (EP X pins σ Q) X.xe s
noncomputable def Th (X:Cx) (f:Value) (r:List V→Hp→VK→Prop):Prop:=
 ∀ (pins:List (Addr × Obj)) (s:Shared) (σ:St) (H:Hp) (xs:List V) (us:List Value) (Q:VK),Inv X pins σ H s→Kc xs us→r xs H Q →
  wpAny (model X.prog X.w) X.A (call f us) (EP X pins σ Q) X.xe s
noncomputable def EI (X:Cx) (r:V→Hp→(Bool→Hp→Prop)→Prop):Prop:=
 ∀ (pins:List (Addr × Obj)) (s:Shared) (σ:St) (H:Hp) (x:V) (v:Value) (Q:Bool→Hp→Prop),Inv X pins σ H s→Qc x v→r x H Q →
  wpAny (model X.prog X.w) X.A (truthy v) (TP X pins σ Q) X.xe s
noncomputable def tOp (r:R2) (ta tb:TE):TE:=fun σ H Q=>ta σ H fun x H1=>tb σ H1 fun y H2=>r x y H2 Q
noncomputable def tUn (r:V→Hp→VK→Prop) (ta:TE):TE:=fun σ H Q=>ta σ H fun x H1=>r x H1 Q
noncomputable def rI (C:Int→Int→Prop) (g:Int→Int→V):R2:=fun x y H Q=>∃ i j,x=.int i∧y=.int j∧C i j∧Q (g i j) H
noncomputable def rI0 (g:Int→Int→V):R2:=fun x y H Q=>∃ i j,x=.int i∧y=.int j∧Q (g i j) H
noncomputable def rU (g:Int→V):V→Hp→VK→Prop:=fun x H Q=>∃ i,x=.int i∧Q (g i) H
section
variable {X:Cx} {a b c:Expr} {ta tb tc:TE} {pos:Pos}
theorem GH (ha:PE X a ta) (hb:PE X b tb) {pins:List (Addr × Obj)} {s:Shared} {σ:St} {H:Hp} {R:V→V→Hp→Prop} (I:Inv X pins σ H s)
  (h:ta σ H fun x H1=>tb σ H1 fun y H2=>R x y H2) {Q:Value→Shared→Prop} {f:Value→Value→Sem Value}
  (hf:∀ v u s2 x y H2,Inv X pins σ H2 s2→Qc x v→Qc y u→R x y H2→wpAny (model X.prog X.w) X.A (f v u) Q X.xe s2) :
  wpAny (model X.prog X.w) X.A (eval a X.env) (fun v s₁=>wpAny (model X.prog X.w) X.A (eval b X.env) (fun u s₂=>wpAny (model X.prog X.w) X.A (f v u) Q X.xe s₂) X.xe s₁) X.xe s:=by
 refine thn (ha pins s σ H _ I h) fun v s1 hZ1=>?_
 obtain ⟨x,H1,I1,r1,q1⟩:=hZ1
 refine thn (hb pins s1 σ H1 _ I1 q1) fun u s2 hZ1=>?_
 obtain ⟨y,H2,I2,r2,q2⟩:=hZ1
 exact hf v u s2 x y H2 I2 r1 r2 q2
theorem Db {op:Operator} {r:R2} (ho:OpR X (binaryOp op) r) (ha:PE X a ta) (hb:PE X b tb):PE X (.BinOp a op b pos) (tOp r ta tb):=by
 intro pins s σ H Q I h
 exact wpAny_BinOp (GH ha hb I h fun v u s2 x y H2 I2 rx ry q=>ho pins s2 σ H2 x y v u Q I2 rx ry q)
theorem opI {f:Value→Value→Sem Value} {C:Int→Int→Prop} {g:Int→Int→Int}
  (rule:∀ (i j:Int) (t u:Tok) (s:Shared) (Q:Value→Shared→Prop) (E:Value→Shared→Prop),C i j→Q (.int (g i j) s.toks) { s with toks:=s.toks + 1 }→wpAny (model X.prog X.w) X.A (f (.int i t) (.int j u)) Q E s) :
  OpR X f (rI C fun i j=>.int (g i j)):=by
 intro pins s σ H x y v u Q I rx ry h
 obtain ⟨i,j,rfl,rfl,hc,q⟩:=h
 obtain ⟨t,rfl⟩:=rx
 obtain ⟨t',rfl⟩:=ry
 exact rule i j t t' s _ _ hc ⟨.int (g i j),H,I.tok _,⟨_,rfl⟩,q⟩
theorem tI {f:Value→Value→Sem Value} {g:Int→Int→Int}
  (rule:∀ (i j:Int) (t u:Tok) (s:Shared) (Q:Value→Shared→Prop) (E:Value→Shared→Prop),Q (.int (g i j) s.toks) { s with toks:=s.toks + 1 }→wpAny (model X.prog X.w) X.A (f (.int i t) (.int j u)) Q E s) :
  OpR X f (rI0 fun i j=>.int (g i j)):=by
 intro pins s σ H x y v u Q I rx ry h
 obtain ⟨i,j,rfl,rfl,q⟩:=h
 obtain ⟨t,rfl⟩:=rx
 obtain ⟨t',rfl⟩:=ry
 exact rule i j t t' s _ _ ⟨.int (g i j),H,I.tok _,⟨_,rfl⟩,q⟩
theorem kI {f:Value→Value→Sem Value} {g:Int→Int→Bool}
  (rule:∀ (i j:Int) (t u:Tok) (s:Shared) (Q:Value→Shared→Prop) (E:Value→Shared→Prop),Q (.bool (g i j)) s→wpAny (model X.prog X.w) X.A (f (.int i t) (.int j u)) Q E s) :
  OpR X f (rI0 fun i j=>.bl (g i j)):=by
 intro pins s σ H x y v u Q I rx ry h
 obtain ⟨i,j,rfl,rfl,q⟩:=h
 obtain ⟨t,rfl⟩:=rx
 obtain ⟨t',rfl⟩:=ry
 exact rule i j t t' s _ _ ⟨.bl (g i j),H,I,rfl,q⟩
noncomputable def VB (i j:Int):Prop:=(-(2 ^ 64) < i∧i < 2 ^ 64)∨(-(2 ^ 64) < j∧j < 2 ^ 64)
theorem VB.ok {i j:Int} (h:VB i j):IntMulOk i j:=by
 rcases h with ⟨h1,h2⟩ | ⟨h1,h2⟩
 ·exact .of_left (intBits_le_64 h1 h2)
 ·exact .of_right (intBits_le_64 h1 h2)
theorem Rb:OpR X (binaryOp .Add) (rI0 fun i j=>.int (i + j)):=tI fun _ _ _ _ _ _ _ q=>add_int q
theorem uf:OpR X (binaryOp .Sub) (rI0 fun i j=>.int (i - j)):=tI fun _ _ _ _ _ _ _ q=>sub_int q
theorem pf:OpR X (binaryOp .Mult) (rI VB fun i j=>.int (i * j)):=opI fun _ _ _ _ _ _ _ hc q=>mul_int q hc.ok
theorem ve:OpR X (binaryOp .Mod) (rI (fun _ j=>0 < j) fun i j=>.int (i % j)):=opI fun i j _ _ _ _ _ hc q=>by
 have h1:(0:Int) < j:=hc
 exact mod_int' (by omega) (by rw [Int.fmod_eq_emod_of_nonneg i (by omega)];exact q)
end
noncomputable def RE:V→V→Bool
 | .non,.non=>true | .non,.int _=>true | .int _,.non=>true | .non,.bl _=>true | .bl _,.non=>true | .non,.str _=>true | .str _,.non=>true
 | .int _,.int _=>true | .bl _,.bl _=>true | .str _,.str _=>true | .byt _,.byt _=>true
 | .int _,.str _=>true | .str _,.int _=>true | .bl _,.str _=>true | .str _,.bl _=>true
 | _,_=>false
noncomputable def rEq:R2:=fun x y H Q=>RE x y=true∧Q (.bl (decide (x=y))) H
noncomputable def rNe:R2:=fun x y H Q=>RE x y=true∧Q (.bl (!decide (x=y))) H
theorem Cw {i j:Int}:decide (V.int i=V.int j)=(i == j):=by
 rw [Bool.eq_iff_iff]
 simp
theorem DA {i j:Bool}:decide (V.bl i=V.bl j)=(i == j):=by
 rw [Bool.eq_iff_iff]
 simp
theorem Av {i j:Str}:decide (V.str i=V.str j)=(i == j):=by
 rw [Bool.eq_iff_iff]
 simp
theorem Cv {i j:Array UInt8}:decide (V.byt i=V.byt j)=(i.toList == j.toList):=by
 rw [Bool.eq_iff_iff]
 cases i
 cases j
 simp
section
variable {X:Cx} {a b c:Expr} {ta tb tc:TE} {pos:Pos}
theorem Hc {pins:List (Addr × Obj)} {σ:St} {H:Hp} {s:Shared} {Q:VK} {k k':Bool} (I:Inv X pins σ H s) (q:Q (.bl k) H) (e:k=k'):EP X pins σ Q (.bool k') s:=by
 subst e
 exact ⟨.bl k,H,I,rfl,q⟩
theorem Tf:OpR X (compareOp .Eq) rEq:=by
 intro pins s σ H x y v u Q I rx ry h
 obtain ⟨hs,q⟩:=h
 cases x with
 | non=>
  cases rx
  cases y with
  | non=>cases ry;exact PySem.EqNone.eq_none_none (Hc I q (by simp))
  | bl j=>cases ry;exact PySem.EqNone.eq_none_bool (Hc I q (by simp))
  | int j=>obtain ⟨t',rfl⟩:=ry;exact PySem.EqNone.eq_none_int (Hc I q (by simp))
  | str j=>obtain ⟨t',rfl⟩:=ry;exact PySem.EqNone.eq_none_str (Hc I q (by simp))
  | _=>exact absurd (show false=true from hs) Bool.false_ne_true
 | bl i=>
  cases rx
  cases y with
  | non=>cases ry;exact PySem.EqNone.eq_bool_none (Hc I q (by simp))
  | bl j=>cases ry;exact eq_bool (Hc I q DA)
  | str j=>obtain ⟨t',rfl⟩:=ry;exact PySem.EqMixed.eq_bool_str (Hc I q (by simp))
  | _=>exact absurd (show false=true from hs) Bool.false_ne_true
 | int i=>
  obtain ⟨t,rfl⟩:=rx
  cases y with
  | non=>cases ry;exact PySem.EqNone.eq_int_none (Hc I q (by simp))
  | int j=>obtain ⟨t',rfl⟩:=ry;exact eq_int (Hc I q Cw)
  | str j=>obtain ⟨t',rfl⟩:=ry;exact PySem.EqMixed.eq_int_str (Hc I q (by simp))
  | _=>exact absurd (show false=true from hs) Bool.false_ne_true
 | str i=>
  obtain ⟨t,rfl⟩:=rx
  cases y with
  | non=>cases ry;exact PySem.EqNone.eq_str_none (Hc I q (by simp))
  | bl j=>cases ry;exact PySem.EqMixed.eq_str_bool (Hc I q (by simp))
  | int j=>obtain ⟨t',rfl⟩:=ry;exact PySem.EqMixed.eq_str_int (Hc I q (by simp))
  | str j=>obtain ⟨t',rfl⟩:=ry;exact eq_str (Hc I q Av)
  | _=>exact absurd (show false=true from hs) Bool.false_ne_true
 | byt i=>
  obtain ⟨t,rfl⟩:=rx
  cases y with
  | byt j=>obtain ⟨t',rfl⟩:=ry;exact PySem.W.eq_bytes (Hc I q Cv)
  | _=>exact absurd (show false=true from hs) Bool.false_ne_true
 | _=>cases y <;> exact absurd (show false=true from hs) Bool.false_ne_true
theorem Lp:OpR X (compareOp .NotEq) rNe:=by
 intro pins s σ H x y v u Q I rx ry h
 obtain ⟨hs,q⟩:=h
 cases x with
 | non=>
  cases rx
  cases y with
  | non=>cases ry;exact PySem.EqNone.ne_none_none (Hc I q (by simp))
  | bl j=>cases ry;exact PySem.EqNone.ne_none_bool (Hc I q (by simp))
  | int j=>obtain ⟨t',rfl⟩:=ry;exact PySem.EqNone.ne_none_int (Hc I q (by simp))
  | str j=>obtain ⟨t',rfl⟩:=ry;exact PySem.EqNone.ne_none_str (Hc I q (by simp))
  | _=>exact absurd (show false=true from hs) Bool.false_ne_true
 | bl i=>
  cases rx
  cases y with
  | non=>cases ry;exact PySem.EqNone.ne_bool_none (Hc I q (by simp))
  | bl j=>cases ry;exact ne_bool (Hc I q (congrArg not DA))
  | str j=>obtain ⟨t',rfl⟩:=ry;exact PySem.EqMixed.ne_bool_str (Hc I q (by simp))
  | _=>exact absurd (show false=true from hs) Bool.false_ne_true
 | int i=>
  obtain ⟨t,rfl⟩:=rx
  cases y with
  | non=>cases ry;exact PySem.EqNone.ne_int_none (Hc I q (by simp))
  | int j=>obtain ⟨t',rfl⟩:=ry;exact ne_int (Hc I q (congrArg not Cw))
  | str j=>obtain ⟨t',rfl⟩:=ry;exact PySem.EqMixed.ne_int_str (Hc I q (by simp))
  | _=>exact absurd (show false=true from hs) Bool.false_ne_true
 | str i=>
  obtain ⟨t,rfl⟩:=rx
  cases y with
  | non=>cases ry;exact PySem.EqNone.ne_str_none (Hc I q (by simp))
  | bl j=>cases ry;exact PySem.EqMixed.ne_str_bool (Hc I q (by simp))
  | int j=>obtain ⟨t',rfl⟩:=ry;exact PySem.EqMixed.ne_str_int (Hc I q (by simp))
  | str j=>obtain ⟨t',rfl⟩:=ry;exact ne_str (Hc I q (congrArg not Av))
  | _=>exact absurd (show false=true from hs) Bool.false_ne_true
 | byt i=>
  obtain ⟨t,rfl⟩:=rx
  cases y with
  | byt j=>obtain ⟨t',rfl⟩:=ry;exact PySem.W.ne_bytes (Hc I q (congrArg not Cv))
  | _=>exact absurd (show false=true from hs) Bool.false_ne_true
 | _=>cases y <;> exact absurd (show false=true from hs) Bool.false_ne_true
theorem Lq:OpR X (compareOp .Lt) (rI0 fun i j=>.bl (decide (i < j))):=kI fun _ _ _ _ _ _ _ q=>lt_int q
theorem wv:OpR X (compareOp .Gt) (rI0 fun i j=>.bl (decide (j < i))):=kI fun _ _ _ _ _ _ _ q=>gt_int q
theorem Tw:OpR X (compareOp .In) (fun x y H Q=>∃ i j,x=.str i∧y=.str j∧Q (.bl (!(Builtin.Str.occurrences j i 0 j.length 1).isEmpty)) H):=by
 intro pins s σ H x y v u Q I rx ry h
 obtain ⟨i,j,rfl,rfl,q⟩:=h
 obtain ⟨t,rfl⟩:=rx
 obtain ⟨t',rfl⟩:=ry
 exact in_str (Hc I q rfl)
theorem ZC:OpR X (compareOp .IsNot) (fun x y H Q=>y=.non∧Q (.bl (!decide (x=.non))) H):=by
 intro pins s σ H x y v u Q I rx ry h
 obtain ⟨rfl,q⟩:=h
 cases ry
 refine isnot_none_gen (Hc I q ?_)
 cases x <;> first
  | (cases rx;rfl)
  | (obtain ⟨t,rfl⟩:=rx;rfl)
theorem OpR.or {f:Value→Value→Sem Value} {r r':R2} (h:OpR X f r) (h':OpR X f r'):OpR X f (fun x y H Q=>r x y H Q∨r' x y H Q):=by
 intro pins s σ H x y v u Q I rx ry q
 rcases q with q | q
 ·exact h pins s σ H x y v u Q I rx ry q
 ·exact h' pins s σ H x y v u Q I rx ry q
theorem Ob (b:Expr) {op:CmpOp} (h:op ≠ .In:=by decide) (h2:op ≠ .NotIn:=by decide):behindInMarks op b=false:=by
 have e1:(op == CmpOp.In)=false:=by cases op <;> first | rfl | exact absurd rfl h
 have e2:(op == CmpOp.NotIn)=false:=by cases op <;> first | rfl | exact absurd rfl h2
 cases b <;> simp [behindInMarks,e1,e2]
theorem Nd {op:CmpOp} {r:R2} (ho:OpR X (compareOp op) r) (ha:PE X a ta) (hb:PE X b tb) (hm:behindInMarks op b=false):PE X (.Compare a [op] [b] pos) (tOp r ta tb):=by
 intro pins s σ H Q I h
 exact wpAny_Compare1 (GH ha hb I h fun v u s2 x y H2 I2 rx ry q=>ho pins s2 σ H2 x y v u Q I2 rx ry q) hm
noncomputable def WE (t:TE):TT:=fun σ H Q=>t σ H fun x H'=>∃ k,x=.bl k∧Q k H'
theorem Jb {op:CmpOp} {r:R2} (ho:OpR X (compareOp op) r) (ha:PE X a ta) (hb:PE X b tb) (hm:behindInMarks op b=false):PT X (.Compare a [op] [b] pos) (WE (tOp r ta tb)):=by
 intro pins s σ H Q I h
 refine wpAny_isTrue_Compare1 (thn (ha pins s σ H _ I h) fun v s1 ⟨x,H1,I1,r1,q1⟩=>thn (hb pins s1 σ H1 _ I1 q1) fun u s2 ⟨y,H2,I2,r2,q2⟩=>
  thn (ho pins s2 σ H2 x y v u _ I2 r1 r2 q2) fun c s3 ⟨z,H3,I3,r3,k,e,q3⟩=>?_) hm
 subst e
 cases r3
 exact wpAny_truthy_bool ⟨H3,I3,q3⟩
noncomputable def wE (r r':R2) (ta tb tc:TE):TE:=fun σ H Q=>ta σ H fun x H1=>tb σ H1 fun y H2=>r x y H2 fun z H3=>∃ k,z=.bl k ∧
 (if k=true then tc σ H3 fun w' H4=>r' y w' H4 Q else Q (.bl false) H3)
noncomputable def UH (K:PySem.W.Frag) (x:V) (H:Hp) (k:Bool):Prop:=
 match x with
 | .non=>k=false
 | .bl b=>k=b
 | .int i=>k=(i != 0)
 | .str y=>y.length ≤ sizeLine∧k=((y.length:Int) != 0)
 | .byt y=>y.size ≤ sizeLine∧k=((y.size:Int) != 0)
 | .ref p=>(∃ xs,SqL K H p xs∧k = !xs.isEmpty)∨(∃ xs,SqT K H p xs∧k = !xs.isEmpty)∨∃ kvs,H p=some (.dK kvs)∧k = !kvs.isEmpty
 | _=>False
theorem Ut {κ:Type} {kvs:List (κ × V)} {vs:List (κ × Value)} (r:KV kvs vs):(!vs.isEmpty) = !kvs.isEmpty:=by
 cases r <;> rfl
theorem Kn {xs:List V} {its:List Value} (r:Kc xs its):(!its.toArray.isEmpty) = !xs.isEmpty:=by
 cases r <;> simp
theorem Dl:(sizeLine:Nat) < 2 ^ 63:=by rw [sizeLine_eq];decide
theorem sF:EI X (fun x H Q=>∃ k,UH X.K x H k∧Q k H):=by
 intro pins s σ H x v Q I rx h
 obtain ⟨k,e,q⟩:=h
 have hl:=Dl
 have hs:sizeLine=16777216:=sizeLine_eq
 cases x with
 | non=>
  cases rx
  have e':k=false:=e
  subst e'
  exact truthy_none ⟨H,I,q⟩
 | bl b=>
  cases rx
  have e':k=b:=e
  subst e'
  exact wpAny_truthy_bool ⟨H,I,q⟩
 | int i=>
  obtain ⟨t,rfl⟩:=rx
  have e':k=(i != 0):=e
  subst e'
  exact PySem.P.truthy_int ⟨H,I,q⟩
 | str y=>
  obtain ⟨t,rfl⟩:=rx
  obtain ⟨hy,e'⟩:y.length ≤ sizeLine∧k=((y.length:Int) != 0):=e
  subst e'
  exact PySem.P.truthy_str (by omega) ⟨H,I.tok _,q⟩
 | byt y=>
  obtain ⟨t,rfl⟩:=rx
  obtain ⟨hy,e'⟩:y.size ≤ sizeLine∧k=((y.size:Int) != 0):=e
  subst e'
  exact PySem.W.truthy_bytes (by omega) ⟨H,I.tok _,q⟩
 | ref p=>
  cases rx
  have e':(∃ xs,SqL X.K H p xs∧k = !xs.isEmpty)∨(∃ xs,SqT X.K H p xs∧k = !xs.isEmpty)∨∃ kvs,H p=some (.dK kvs)∧k = !kvs.isEmpty:=e
  rcases e' with ⟨xs,hx,e'⟩ | ⟨xs,hx,e'⟩ | ⟨kvs,hx,e'⟩
  ·subst e'
   obtain ⟨its,r,pl,hz⟩:=I.list hx
   have hlen:=r.length
   exact wpAny_truthy_list pl.isList (by simp only [List.size_toArray];omega) ⟨H,I.tok _,by rw [Kn r];exact q⟩
  ·subst e'
   obtain ⟨its,r,pl,hz⟩:=I.tuple hx
   have hlen:=r.length
   exact truthy_tuple pl (by simp only [List.size_toArray];omega) ⟨H,I.tok _,by rw [Kn r];exact q⟩
  ·subst e'
   obtain ⟨hz,hS,vs,r,m⟩:kvs.length ≤ sizeLine∧(p == sysModules)=false∧∃ vs,KV kvs vs∧s.heap.DictOf (vd X.prog X.w) p vs:=I.hok p _ hx
   have hlen:kvs.length=vs.length:=Paired.length r
   exact wpAny_truthy_dict hS m (by omega) ⟨H,I.tok _,by rw [Ut r];exact q⟩
 | _=>exact (show False from e).elim
theorem Vz (ha:PE X a ta) (he:∀ whole,isTrue a X.env whole=(do let v ← whole;standAt a.pos;holding [v] (truthy v))) :
  PT X a (fun σ H Q=>ta σ H fun x H'=>∃ k,UH X.K x H' k∧Q k H'):=by
 intro pins s σ H Q I h
 exact isTrue_plain (thn (ha pins s σ H _ I h) fun v s1 ⟨x,H1,I1,r1,q1⟩=>sF pins s1 σ H1 x v Q I1 r1 q1) (he _)
theorem uk:OpR X (binaryOp .Add) (fun x y H Q=>∃ i j,x=.str i∧y=.str j∧i.length + j.length ≤ sizeLine∧Q (.str (i ++ j)) H):=by
 intro pins s σ H x y v u Q I rx ry h
 obtain ⟨i,j,rfl,rfl,hz,q⟩:=h
 obtain ⟨t,rfl⟩:=rx
 obtain ⟨t',rfl⟩:=ry
 exact add_str (fun t' tk=>⟨.str (i ++ j),H,I.tok _,⟨_,rfl⟩,q⟩) hz
theorem qo {x:V} {us:List Value} (r:Kc [x] us):∃ u,us=[u]∧Qc x u:=by
 cases r with
 | cons r1 r2=>cases r2;exact ⟨_,rfl,r1⟩
theorem oB {x y:V} {us:List Value} (r:Kc [x,y] us):∃ u w',us=[u,w']∧Qc x u∧Qc y w':=by
 cases r with
 | cons r1 r2=>
  cases r2 with
  | cons r3 r4=>cases r4;exact ⟨_,_,rfl,r1,r3⟩
theorem Oi (hc:X.calm=true):Th X (.builtin "max") (fun xs H Q=>∃ i j,xs=[.int i,.int j]∧Q (.int (if j > i then j else i)) H):=by
 intro pins s σ H xs us Q I r h
 obtain ⟨i,j,rfl,q⟩:=h
 obtain ⟨u,w',rfl,⟨t,rfl⟩,⟨t',rfl⟩⟩:=oB r
 refine max_two_ints (I.ok.hd hc) fun h' tk k=>⟨_,H,I.kept k,?_,q⟩
 by_cases hj:j > i
 ·rw [if_pos hj,if_pos hj];exact ⟨_,rfl⟩
 ·rw [if_neg hj,if_neg hj];exact ⟨_,rfl⟩
theorem Xv (hc:X.calm=true):Th X (.builtin "min") (fun xs H Q=>∃ i j,xs=[.int i,.int j]∧Q (.int (if j < i then j else i)) H):=by
 intro pins s σ H xs us Q I r h
 obtain ⟨i,j,rfl,q⟩:=h
 obtain ⟨u,w',rfl,⟨t,rfl⟩,⟨t',rfl⟩⟩:=oB r
 refine min_two_ints (I.ok.hd hc) fun h' tk k=>⟨_,H,I.kept k,?_,q⟩
 by_cases hj:j < i
 ·rw [if_pos hj,if_pos hj];exact ⟨_,rfl⟩
 ·rw [if_neg hj,if_neg hj];exact ⟨_,rfl⟩
theorem yh:Th X (.type "str") (fun xs H Q=>∃ i,xs=[.int i]∧i.natAbs.log2 < 1920∧Q (.str (toString i)) H):=by
 intro pins s σ H xs us Q I r h
 obtain ⟨i,rfl,hz,q⟩:=h
 obtain ⟨u,rfl,t,rfl⟩:=qo r
 exact PySem.P.str_of_int hz ⟨.str _,H,I.tok _,⟨_,rfl⟩,q⟩
end
end L2
namespace L2
open PySem PySem.Spec PyProof.Rows
structure uC (h:Heap) (x dx C:Addr) (mA:Str→Option Value):Prop where
 obj:h.get? x=some (PySem.W.instObj C dx)
 ns:h.Ns1 dx mA
 ne:dx ≠ x
theorem Fv {h:Heap} {dx:Addr} {mA:Str→Option Value} (n:h.Ns1 dx mA):∃ od,h.get? dx=some od∧∀ name,PySem.W.lookIn name od=some (mA name):=by
 obtain ⟨o,es,ep,ho,hd,hk,_,hm⟩:=n
 refine ⟨o,ho,fun name=>?_⟩
 have e:=hm name
 unfold nsFind findBy at e
 rw [← Array.find?_toList] at e
 unfold PySem.W.lookIn
 rw [hd]
 dsimp only
 split
 ·rename_i y q
  rw [q] at e
  exact congrArg some e
 ·rename_i q
  rw [q] at e
  have a:es.toList.any (·.refKey)=false:=by
   rw [List.any_eq_false]
   intro y hy
   obtain ⟨z,t,hkey⟩:=hk y (Array.mem_toList_iff.mp hy)
   simp [DictEntry.refKey,hkey]
  have a':¬ es.toList.any (·.refKey)=true:=by rw [a];exact Bool.false_ne_true
  rw [if_neg a']
  exact congrArg some e
theorem uC.look {h:Heap} {x dx C:Addr} {mA:Str→Option Value} (I:uC h x dx C mA):∃ od,PySem.W.InstAt h x (PySem.W.instObj C dx) C (some od)∧∀ name,PySem.W.lookIn name od=some (mA name):=
 let ⟨od,ho,hl⟩:=Fv I.ns
 ⟨od,⟨I.obj,rfl,rfl,ho⟩,hl⟩
section
variable {prog:Program} {w:World} {A:Around} {E:Value→Shared→Prop} {s:Shared} {K:PySem.W.Frag} {x dx C f:Addr} {mA:Str→Option Value} {name:Str} {v:Value}
theorem LC {expr:Bool} {Q:Value→Shared→Prop} (X:K.In s.heap) (I:uC s.heap x dx C mA) (hg:PySem.W.plainGet K C name=true) (hh:PySem.W.hasDictIn K C=true)
  (ha:PySem.W.findIn K (.ref C) name=some none) (hv:mA name=some v) (hv':PySem.W.handedIn v=true) (h:Q v { s with toks:=s.toks + 1 }) :
  wpAny (model prog w) A (getAttr (.ref x) name expr) Q E s:=by
 obtain ⟨od,J,hl⟩:=I.look
 exact PySem.W.get_value X J (PySem.W.plainGet_of hg).1 (PySem.W.findObj_own hh ha rfl (by rw [hl,hv])) hv' h
theorem Xy {pl:Sem Bool} {Q:Value × List Value→Shared→Prop} (X:K.In s.heap) (I:uC s.heap x dx C mA) (hg:PySem.W.plainGet K C name=true)
  (hf:PySem.W.findIn K (.ref C) name=some (some (.ref f))) (ht:PySem.W.isFn K (.ref f)=true) (hv:mA name=none) (h:Q (.ref f,[.ref x]) s) :
  wpAny (model prog w) A (getMethod (.ref x) name pl) Q E s:=by
 obtain ⟨od,J,hl⟩:=I.look
 exact PySem.W.method_fn X J (PySem.W.plainGet_of hg).1 (PySem.W.plainGet_of hg).2 hf (beq_iff_eq.mp ht) (by show (PySem.W.lookIn name od).map (·.isSome)=some false;rw [hl,hv];rfl) h
theorem YC {ns:List Str} {Q:Unit→Shared→Prop} (X:K.In s.heap) (I:uC s.heap x dx C mA)
  (hs:PySem.W.findIn K (.ref C) "__setattr__"=some (some (.builtin "object.__setattr__"))) (hp:PySem.W.plainOver K C=true) (ht:PySem.W.takerIn K C name=some none) (hh:PySem.W.hasDictIn K C=true)
  (hw:PySem.Within mA ns) (hsz:ns.length ≤ sizeLine)
  (h:∀ h',uC h' x dx C (fun y=>if y=name then some v else mA y)→Heap.SameBut dx s.heap h'→Q () { s with heap:=h',toks:=s.toks + 2 }) :
  wpAny (model prog w) A (setAttr (.ref x) name v) Q E s:=by
 obtain ⟨od,J,hl⟩:=I.look
 refine PySem.W.set_plain X J hs (PySem.W.osa_open (s:={ s with toks:=s.toks + 1 }) (r:=none) X J hp ht fun b=>?_)
 obtain ⟨cd,hc,hd'⟩:=PySem.W.any_some hh
 have hx:s.heap.get? x=some ⟨.ref C,some dx,.plain,#[]⟩:=I.obj
 refine wpAny_bind (wpAny_pure (wpAny_bind (wpAny_bind (wpAny_loadPart hx (wpAny_bind (PySem.W.Looks.here (s:={ s with toks:=s.toks + 1 }) (PySem.W.looks_clsIn X hc) ?_))))))
 rw [hd']
 refine wpAny_pure (a:=some dx) (wpAny_bind (wpAny_pure (wpAny_bind ?_)))
 refine wpAny_nsSet1 (s:={ s with toks:=s.toks + 1 }) I.ns fun h' hn2 hs2=>?_
 obtain ⟨oD,esD,epD,hoD,hdD,hcD⟩:=hn2.count (PySem.Within.cons name v hw)
 refine wpAny_bind (wpAny_lookBehind hoD (by rw [hdD];exact pastItsLine_dict (Nat.le_trans hcD (by rw [List.length_cons];omega))) ?_)
 exact wpAny_pure (h _ ⟨(hs2.2 _ (Ne.symm I.ne)).trans I.obj,hn2,I.ne⟩ hs2)
theorem Pz {R:Result→Shared→Prop} {vs:List Value} {kw:List (Str × Value)} (X:K.In s.heap) (hm:PySem.W.makesIn K C=true)
  (hi:PySem.W.findIn K (.ref C) "__init__"=some (some (.ref f))) (hf:PySem.W.typeIn K (.ref f)=some (.type "function"))
  (h:codeAny (model prog w) (A.under (.builtin "type.__call__" ⟨.ref C :: vs,kw⟩)) (.call (.ref f) ⟨.ref (s.heap.objs.size + 1) :: vs,kw⟩) (PySem.W.InitBack (s.heap.objs.size + 1) R)
   { s with heap:=(s.heap.push PySem.W.emptyDict).push (PySem.W.instObj C s.heap.objs.size) }) :
  codeAny (model prog w) A (.call (.ref C) ⟨vs,kw⟩) R s:=by
 obtain ⟨hh,g,d,t,os⟩:=s
 exact PySem.W.make_core (PySem.W.makes_of X hm) (PySem.W.looks_findIn X hi) (fun self=>PySem.W.bind_fn X self hf) (.inl rfl) h
end
noncomputable def eg (f:Str) (v:V):List (Str × V)→List (Str × V)
 | []=>[(f,v)]
 | (g,x) :: r=>if g=f then (g,v) :: r else (g,x) :: eg f v r
theorem ym (f g:Str) (v:V):∀ fs:List (Str × V),(eg f v fs).lookup g=if g=f then some v else fs.lookup g
 | []=>by
  show List.lookup g [(f,v)]=_
  by_cases h:g=f
  ·have hb:(g == f)=true:=beq_iff_eq.mpr h
   simp only [List.lookup,hb,if_pos h]
  ·have hb:(g == f)=false:=beq_eq_false_iff_ne.mpr h
   simp only [List.lookup,hb,if_neg h]
 | (k,x) :: r=>by
  have ih:=ym f g v r
  rw [show eg f v ((k,x) :: r)=(if k=f then (k,v) :: r else (k,x) :: eg f v r) from rfl]
  by_cases hk:k=f
  ·rw [if_pos hk]
   by_cases h:g=k
   ·have hb:(g == k)=true:=beq_iff_eq.mpr h
    simp only [List.lookup,hb,if_pos (h.trans hk)]
   ·have hb:(g == k)=false:=beq_eq_false_iff_ne.mpr h
    simp only [List.lookup,hb,if_neg (fun e:g=f=>h (e.trans hk.symm))]
  ·rw [if_neg hk]
   by_cases h:g=k
   ·have hb:(g == k)=true:=beq_iff_eq.mpr h
    simp only [List.lookup,hb,if_neg (fun e:g=f=>hk (h.symm.trans e))]
   ·have hb:(g == k)=false:=beq_eq_false_iff_ne.mpr h
    simp only [List.lookup,hb]
    exact ih
theorem Ql (f:Str) (v:V):∀ fs:List (Str × V),f ∈ (eg f v fs).map (·.1)∧∀ g,g ∈ fs.map (·.1)→g ∈ (eg f v fs).map (·.1)
 | []=>⟨by simp [eg],fun g h=>by simp at h⟩
 | (k,x) :: r=>by
  obtain ⟨i1,i2⟩:=Ql f v r
  rw [show eg f v ((k,x) :: r)=(if k=f then (k,v) :: r else (k,x) :: eg f v r) from rfl]
  by_cases hk:k=f
  ·rw [if_pos hk]
   subst hk
   exact ⟨by simp,fun g h=>by simpa using h⟩
  ·rw [if_neg hk]
   refine ⟨?_,fun g h=>?_⟩
   ·rw [List.map_cons]
    exact List.mem_cons_of_mem _ i1
   ·rw [List.map_cons] at h ⊢
    rcases List.mem_cons.mp h with e | e
    ·exact List.mem_cons.mpr (.inl e)
    ·exact List.mem_cons_of_mem _ (i2 g e)
theorem Di (f:Str) (v:V):∀ fs:List (Str × V),(eg f v fs).length ≤ fs.length + 1
 | []=>by simp [eg]
 | (k,x) :: r=>by
  have ih:=Di f v r
  rw [show eg f v ((k,x) :: r)=(if k=f then (k,v) :: r else (k,x) :: eg f v r) from rfl]
  by_cases hk:k=f
  ·rw [if_pos hk,List.length_cons,List.length_cons];omega
  ·rw [if_neg hk,List.length_cons,List.length_cons];omega
theorem On.some_of {v:V} {o:Option Value} (r:On (some v) o):∃ u,o=some u∧Qc v u:=by
 cases o with
 | none=>exact (show False from r).elim
 | some u=>exact ⟨u,rfl,r⟩
theorem On.none_of {o:Option Value} (r:On none o):o=none:=by
 cases o with
 | none=>rfl
 | some u=>exact (show False from r).elim
theorem Rw {v:V} {u:Value} (r:Qc v u):PySem.W.handedIn u=true:=by
 cases v with
 | non=>cases (show u=Value.none from r);rfl
 | bl b=>cases (show u=Value.bool b from r);rfl
 | int i=>obtain ⟨t,e⟩:=(show ∃ t,u=Value.int i t from r);cases e;rfl
 | str x=>obtain ⟨t,e⟩:=(show ∃ t,u=Value.str x t from r);cases e;rfl
 | byt b=>obtain ⟨t,e⟩:=(show ∃ t,u=Value.bytes b t from r);cases e;rfl
 | flt b=>obtain ⟨t,e⟩:=(show ∃ t,u=Value.float b t from r);cases e;rfl
 | ref a=>cases (show u=Value.ref a from r);rfl
 | ty n=>cases (show u=Value.type n from r);rfl
section
variable {P:Program} {w:World} {H H':Hp} {h h':Heap} {a C dx:Addr} {fs fs':List (Str × V)}
theorem Jo (hok:HOk P w H h) (e:H a=some (.ins C dx fs)):∃ mA,uC h a dx C mA∧(∀ f,On (fs.lookup f) (mA f))∧PySem.Within mA (fs.map (·.1))∧fs.length ≤ 1000∧H dx=some (.own a):=by
 obtain ⟨d,z,ne,ob,mA,n,r,q⟩:=(show Rc P w H h a (.ins C dx fs) from hok a _ e)
 exact ⟨mA,⟨ob,n,ne⟩,r,q,z,d⟩
end
structure Cls (K:PySem.W.Frag) (C:Addr):Prop where
 pg:PySem.W.plainGet K C Str.empty=true
 hd:PySem.W.hasDictIn K C=true
 po:PySem.W.plainOver K C=true
 sa:PySem.W.findIn K (.ref C) "__setattr__"=some (some (.builtin "object.__setattr__"))
theorem Cls.get {K:PySem.W.Frag} {C:Addr} (c:Cls K C) (f:Str):PySem.W.plainGet K C f=true:=c.pg
noncomputable def Fb (K:PySem.W.Frag) (C:Addr) (f:Str):Prop:=PySem.W.findIn K (.ref C) f=some none
theorem Fb.taker {K:PySem.W.Frag} {C:Addr} {f:Str} (n:Fb K C f):PySem.W.takerIn K C f=some none:=by
 unfold PySem.W.takerIn
 rw [show PySem.W.findIn K (.ref C) f=some none from n]
 rfl
structure Con (K:PySem.W.Frag) (C:Addr) (f:Str) (v:V) (u:Value):Prop where
 at_:PySem.W.findIn K (.ref C) f=some (some u)
 rel:Qc v u
 get:PySem.W.specialIn K u "__get__"=some none
 cp:PySem.W.copiedNames.contains f=false
structure Fo (K:PySem.W.Frag) (C:Addr) (m:Str) (f:Addr):Prop where
 at_:PySem.W.findIn K (.ref C) m=some (some (.ref f))
 fn:PySem.W.isFn K (.ref f)=true
 kp:PySem.W.keepIn K (.ref f)=true
section
variable {X:Cx} {pins:List (Addr × Obj)} {σ:St} {H:Hp} {s:Shared} {a C dx:Addr} {fs:List (Str × V)} {f:Str} {v:V} {A:Around} {E:Value→Shared→Prop}
theorem Ln {b:Bool} {Q:Value→Shared→Prop} (I:Inv X pins σ H s) (e:H a=some (.ins C dx fs)) (c:Cls X.K C) (n:Fb X.K C f) (l:fs.lookup f=some v)
  (h:∀ u s',Inv X pins σ H s'→Qc v u→Q u s'):wpAny (model X.prog X.w) A (getAttr (.ref a) f b) Q E s:=by
 obtain ⟨mA,O,r,_,_,_⟩:=Jo I.hok e
 obtain ⟨u,hu,ru⟩:=On.some_of (v:=v) (o:=mA f) (by rw [← l];exact r f)
 exact LC I.kIn O (c.get f) c.hd n hu (Rw ru) (h u _ (I.tok _) ru)
theorem Vj {m:Str} {g:Addr} {pl:Sem Bool} {Q:Value × List Value→Shared→Prop} (I:Inv X pins σ H s) (e:H a=some (.ins C dx fs)) (c:Cls X.K C) (k:Fo X.K C m g) (l:fs.lookup m=none)
  (h:Q (.ref g,[.ref a]) s):wpAny (model X.prog X.w) A (getMethod (.ref a) m pl) Q E s:=by
 obtain ⟨mA,O,r,_,_,_⟩:=Jo I.hok e
 have hn:mA m=none:=On.none_of (by rw [← l];exact r m)
 exact Xy I.kIn O (c.get m) k.at_ k.fn hn h
theorem An {y:V} {u:Value} {Q:Unit→Shared→Prop} (I:Inv X pins σ H s) (e:H a=some (.ins C dx fs)) (c:Cls X.K C) (n:Fb X.K C f) (hl:fs.length < 1000) (ry:Qc y u)
  (h:∀ s',Inv X pins σ (upd H a (.ins C dx (eg f y fs))) s'→Q () s'):wpAny (model X.prog X.w) A (setAttr (.ref a) f u) Q E s:=by
 obtain ⟨mA,O,r,wi,_,ho⟩:=Jo I.hok e
 have hz:(fs.map (·.1)).length ≤ sizeLine:=by rw [List.length_map,sizeLine_eq];omega
 refine YC I.kIn O c.sa c.po n.taker c.hd wi hz fun h' O' sb=>h _ ?_
 have hd:∃ o,h'.get? dx=some o:=let ⟨o,_,_,e',_⟩:=O'.ns;⟨o,e'⟩
 refine I.write (x:=a) (e:=dx) (by rw [e];exact True.intro) (.inr ho) (fun b q hb z=>(sb.2 b hb).trans z) hd ?_
 refine ⟨by rw [qb O.ne];exact ho,?_,O.ne,O'.obj,_,O'.ns,fun g=>?_,fun g hg=>?_⟩
 ·have:=Di f y fs;omega
 ·show On ((eg f y fs).lookup g) (if g=f then some u else mA g)
  rw [ym]
  by_cases q:g=f
  ·rw [if_pos q,if_pos q];exact ry
  ·rw [if_neg q,if_neg q];exact r g
 ·by_cases q:g=f
  ·rw [q];exact (Ql f y fs).1
  ·refine (Ql f y fs).2 g (wi g fun z=>hg ?_)
   show (if g=f then some u else mA g)=none
   rw [if_neg q];exact z
theorem Inv.made (I:Inv X pins σ H s):Inv X pins σ (upd (upd H s.heap.objs.size (.own (s.heap.objs.size + 1))) (s.heap.objs.size + 1) (.ins C s.heap.objs.size []))
  { s with heap:=(s.heap.push PySem.W.emptyDict).push (PySem.W.instObj C s.heap.objs.size) }:=by
 have e1:(s.heap.push PySem.W.emptyDict).get? s.heap.objs.size=some PySem.W.emptyDict:=Heap.get?_push_size s.heap rfl
 have e2:((s.heap.push PySem.W.emptyDict).push (PySem.W.instObj C s.heap.objs.size)).get? (s.heap.objs.size + 1)=some (PySem.W.instObj C s.heap.objs.size):=by
  have:=Heap.get?_push_size (s.heap.push PySem.W.emptyDict) (o:=PySem.W.instObj C s.heap.objs.size) rfl
  rwa [Heap.size_push] at this
 have e3:(s.heap.push PySem.W.emptyDict).Ns s.heap.objs.size (fun _=>none):=⟨PySem.W.emptyDict,#[],_,e1,rfl,(fun e he=>absurd he (by simp)),fun _=>rfl⟩
 have I1:=I.laid (a:=s.heap.objs.size) (o:=.own (s.heap.objs.size + 1)) (h':=s.heap.push PySem.W.emptyDict) (t':=s.toks) (fun b u q=>Heap.get?_push_of_some _ q) (Nat.le_refl _) ⟨_,e1⟩
 refine I1.laid (a:=s.heap.objs.size + 1) (o:=.ins C s.heap.objs.size []) (t':=s.toks) (fun b u q=>Heap.get?_push_of_some _ q) (Nat.le_of_eq (Heap.size_push _ _)) ?_
 have ne:s.heap.objs.size ≠ s.heap.objs.size + 1:=Nat.ne_of_lt (Nat.lt_succ_self _)
 refine ⟨by rw [qb ne,fb],Nat.zero_le _,ne,e2,fun _=>none,(Heap.Ns1.of_empty e3).at fun o q=>Heap.get?_push_of_some _ q,fun _=>True.intro,fun y hy=>absurd rfl hy⟩
theorem GC {prog:Program} {w:World} {env:Env} {e:Expr} {f:Str} {pos:Pos} {s:Shared} {Q:Value→Shared→Prop} (hb:attributeBase e f env (eval e env)=eval e env)
  (h:wpAny (model prog w) A (eval e env) (fun o s₁=>wpAny (model prog w) A (getAttr o f true) Q E s₁) E s):wpAny (model prog w) A (eval (.Attribute e f pos) env) Q E s:=
 Attribute_any_ h (by rw [arm_eval_Attribute,hb])
end
noncomputable def wH (K:PySem.W.Frag) (ta:TE) (f:Str):TE:=fun σ H Q=>ta σ H fun x H1=>∃ a C dx fs v,x=.ref a∧H1 a=some (.ins C dx fs)∧Cls K C∧Fb K C f∧fs.lookup f=some v∧Q v H1
noncomputable def AI (K:PySem.W.Frag) (ta:TE) (f:Str):TE:=fun σ H Q=>ta σ H fun x H1=>∃ a C dx fs v u,x=.ref a∧H1 a=some (.ins C dx fs)∧Cls K C∧Con K C f v u∧fs.lookup f=none∧Q v H1
noncomputable def TH (K:PySem.W.Frag) (ta tv:TE) (f:Str):TS:=fun D σ H=>tv σ H fun y H1=>ta σ H1 fun x H2=>∃ a C dx fs,x=.ref a∧H2 a=some (.ins C dx fs)∧Cls K C∧Fb K C f∧fs.length < 1000 ∧
 D.nx σ (upd H2 a (.ins C dx (eg f y fs)))
noncomputable def iI (X:Cx) (op:Operator) (rd:V→V→Hp→VK→Prop):Prop:=
 ∀ (pins:List (Addr × Obj)) (s:Shared) (σ:St) (H:Hp) (x y:V) (u v:Value) (Q:VK),Inv X pins σ H s→Qc x u→Qc y v→rd x y H Q→wpAny (model X.prog X.w) X.A (inplaceOp op u v) (EP X pins σ Q) X.xe s
noncomputable def zv (K:PySem.W.Frag) (ta tv:TE) (rd:V→V→Hp→VK→Prop) (f:Str):TS:=fun D σ H=>ta σ H fun x H1=>∃ a C dx fs v,x=.ref a∧H1 a=some (.ins C dx fs)∧Cls K C∧Fb K C f∧fs.lookup f=some v ∧
 tv σ H1 fun y H2=>rd v y H2 fun z H3=>∃ dx' fs',H3 a=some (.ins C dx' fs')∧fs'.length < 1000∧D.nx σ (upd H3 a (.ins C dx' (eg f z fs')))
section
variable {X:Cx} {o e value:Expr} {f:Str} {pos pos' tpos:Pos} {ta tv:TE}
theorem Ac (he:PE X e ta) (hb:attributeBase e f X.env (eval e X.env)=eval e X.env):PE X (.Attribute e f pos) (wH X.K ta f):=by
 intro pins s σ H Q I h
 refine GC hb (thn (he pins s σ H _ I h) fun u s1 hZ1=>?_)
 obtain ⟨x,H1,I1,rx,a,C,dx,fs,v,ex,ea,c,n,l,q⟩:=hZ1
 subst ex
 obtain rfl:u=Value.ref a:=rx
 exact Ln I1 ea c n l fun u' s2 I2 ru=>⟨v,H1,I2,ru,q⟩
theorem De (ha:PE X o ta) (hv:PE X value tv) (hs:swapsWith value (some (.Attribute o f pos')) pos.line X.env=pure false):PS X (.Assign [.Attribute o f pos'] value pos) (TH X.K ta tv f):=by
 intro pins s σ H D I h
 refine plainObj_wpAny_Assign_Attribute (thn (hv pins s σ H _ I h) fun u s1 ⟨y,H1,I1,ry,q⟩=>thn (ha pins s1 σ H1 _ I1 q) fun ov s2 hZ1=>?_) hs
 obtain ⟨x,H2,I2,rx,a,C,dx,fs,ex,ea,c,n,l,q2⟩:=hZ1
 subst ex
 obtain rfl:ov=Value.ref a:=rx
 exact An I2 ea c n l ry fun s3 I3=>⟨σ,_,I3,q2⟩
theorem Uw {op:Operator} {rd:V→V→Hp→VK→Prop} (ha:PE X o ta) (hv:PE X value tv) (hop:iI X op rd):PS X (.AugAssign (.Attribute o f tpos) op value pos) (zv X.K ta tv rd f):=by
 intro pins s σ H D I h
 refine wpAny_AugAssign_AttributeAny (thn (ha pins s σ H _ I h) fun ov s1 hZ1=>?_)
 obtain ⟨x,H1,I1,rx,a,C,dx,fs,v,ex,ea,c,n,l,q⟩:=hZ1
 subst ex
 obtain rfl:ov=Value.ref a:=rx
 refine Ln I1 ea c n l fun u s2 I2 ru=>thn (hv pins s2 σ H1 _ I2 q) fun w3 s3 ⟨y,H2,I3,ry,q3⟩=>thn (hop pins s3 σ H2 v y u w3 _ I3 ru ry q3) fun w4 s4 hZ1=>?_
 obtain ⟨z,H3,I4,rz,dx',fs',ea',l',q4⟩:=hZ1
 exact An I4 ea' c n l' rz fun s5 I5=>⟨σ,_,I5,q4⟩
noncomputable def gI:V→V→Hp→VK→Prop:=fun x y H Q=>∃ i j,x=.int i∧y=.int j∧Q (.int (i + j)) H
noncomputable def NI:V→V→Hp→VK→Prop:=fun x y H Q=>∃ i j,x=.int i∧y=.int j∧Q (.int (i - j)) H
theorem iF:iI X .Add gI:=by
 rintro pins s σ H x y u v Q I rx ry ⟨i,j,rfl,rfl,q⟩
 obtain ⟨t,rfl⟩:=(show ∃ t,u=Value.int i t from rx)
 obtain ⟨t',rfl⟩:=(show ∃ t',v=Value.int j t' from ry)
 exact PyProof.Rows.iadd_int ⟨.int (i + j),H,I.tok _,⟨_,rfl⟩,q⟩
end
section
variable {X:Cx} {pins:List (Addr × Obj)} {σ:St} {H:Hp} {s:Shared} {A:Around} {E:Value→Shared→Prop} {Q:Value→Shared→Prop} {c:Value} {b:Bool}
inductive bt (K:PySem.W.Frag) (H:Hp):V→Value→Prop where
 | non:bt K H .non (.type "NoneType")
 | bl (x:Bool):bt K H (.bl x) (.type "bool")
 | int (i:Int):bt K H (.int i) (.type "int")
 | str (x:Str):bt K H (.str x) (.type "str")
 | flt (x:UInt64):bt K H (.flt x) (.type "float")
 | lst {a:Addr} {xs:List V} (e:H a=some (.lst xs)):bt K H (.ref a) (.type "list")
 | frz {a:Addr} {o:Obj} {xs:List V} (e:H a=some (.frz o (.lst xs))):bt K H (.ref a) (.type "list")
 | tup {a:Addr} {xs:List V} (e:H a=some (.tup xs)):bt K H (.ref a) (.type "tuple")
 | dK {a:Addr} {kvs:List (Key × V)} (e:H a=some (.dK kvs)):bt K H (.ref a) (.type "dict")
 | dT {a:Addr} {kvs:List (List Key × V)} (e:H a=some (.dT kvs)):bt K H (.ref a) (.type "dict")
 | ins {a C dx:Addr} {fs:List (Str × V)} (e:H a=some (.ins C dx fs)) (cl:Cls K C) (ha:PySem.W.findIn K (.ref C) "__class__"=some (some (.builtin "object.__class__")))
   (hn:PySem.W.specialIn K (.builtin "object.__class__") "__get__"=some (some (.builtin "getset_descriptor.__get__"))) (htk:PySem.W.takesIn K (.builtin "object.__class__")=some true)
   (hm:PySem.W.mroIn K C (.type "object")=some true):bt K H (.ref a) (.ref C)
theorem Qw {x:V} {u t:Value} (I:Inv X pins σ H s) (rx:Qc x u) (ty:bt X.K H x t) (e:PySem.W.kitOne X.K t c=some b) (h:∀ tk,Q (.bool b) { s with toks:=tk }) :
  wpAny (model X.prog X.w) A (call (.builtin "isinstance") [u,c]) Q E s:=by
 cases ty with
 | non=>cases (show u=Value.none from rx);exact PySem.W.kia_one PySem.W.kitx_none I.kIn True.intro e (fun z=>nomatch z) h
 | bl y=>cases (show u=Value.bool y from rx);exact PySem.W.kia_one PySem.W.kitx_bool I.kIn True.intro e (fun z=>nomatch z) h
 | int i=>obtain ⟨t,q⟩:=(show ∃ t,u=Value.int i t from rx);cases q;exact PySem.W.kia_one PySem.W.kitx_int I.kIn True.intro e (fun z=>nomatch z) h
 | str y=>obtain ⟨t,q⟩:=(show ∃ t,u=Value.str y t from rx);cases q;exact PySem.W.kia_one PySem.W.kitx_str I.kIn True.intro e (fun z=>nomatch z) h
 | flt y=>obtain ⟨t,q⟩:=(show ∃ t,u=Value.float y t from rx);cases q;exact PySem.W.kia_one PySem.W.kitx_float I.kIn True.intro e (fun z=>nomatch z) h
 | @lst a xs ea=>
  cases (show u=Value.ref a from rx)
  obtain ⟨_,_,n,_,h1⟩:=(show Rc X.prog X.w H s.heap a (.lst xs) from I.hok a _ ea)
  exact PySem.W.kia_one PySem.W.kitx_list I.kIn ⟨_,h1,rfl⟩ e (fun z=>nomatch z) h
 | @frz a ob xs ea=>
  cases (show u=Value.ref a from rx)
  obtain ⟨_,_,_,n,_,h1⟩:=(show Rc X.prog X.w H s.heap a (.frz ob (.lst xs)) from I.hok a _ ea)
  exact PySem.W.kia_one PySem.W.kitx_list I.kIn ⟨_,h1,rfl⟩ e (fun z=>nomatch z) h
 | @tup a xs ea=>
  cases (show u=Value.ref a from rx)
  obtain ⟨_,_,_,p⟩:=(show Rc X.prog X.w H s.heap a (.tup xs) from I.hok a _ ea)
  obtain ⟨o,h1,h2,_⟩:=p
  exact PySem.W.kia_one PySem.W.kitx_tuple I.kIn ⟨o,h1,h2⟩ e (fun z=>nomatch z) h
 | @dK a kvs ea=>
  cases (show u=Value.ref a from rx)
  obtain ⟨_,_,vs,_,p⟩:=(show Rc X.prog X.w H s.heap a (.dK kvs) from I.hok a _ ea)
  obtain ⟨o,es,ep,h1,h2,_⟩:=p
  exact PySem.W.kia_one PySem.W.kitx_dict I.kIn ⟨o,h1,h2.1⟩ e (fun z=>nomatch z) h
 | @dT a kvs ea=>
  cases (show u=Value.ref a from rx)
  obtain ⟨_,_,xs,_,o,es,ep,h1,h2,_⟩:=(show Rc X.prog X.w H s.heap a (.dT kvs) from I.hok a _ ea)
  exact PySem.W.kia_one PySem.W.kitx_dict I.kIn ⟨o,h1,h2.1⟩ e (fun z=>nomatch z) h
 | @ins a C dx fs ea cl ha hn htk hm=>
  cases (show u=Value.ref a from rx)
  obtain ⟨mA,O,_⟩:=Jo I.hok ea
  obtain ⟨od,J,_⟩:=O.look
  exact PySem.W.kia_one (PySem.W.kitx_own (cl.get _) cl.hd ha hn htk hm) I.kIn J e (fun z=>nomatch z) h
end
end L2
namespace L2
open PySem PySem.Spec PyProof.Rows
structure Fh (k:Nat) (A:Around):Prop where
 hd:A.handled=none
 dp:A.depth + 3 * k + 5 < recursionLimit
 un:A.units + 16 * k + 200 < cLine
theorem Fh.mono {j k:Nat} {A:Around} (r:Fh k A) (h:j ≤ k):Fh j A:=⟨r.hd,by have:=r.dp;omega,by have:=r.un;omega⟩
theorem Fh.deeper {k:Nat} {A:Around} (r:Fh (k + 1) A) (env:Env):Fh k (A.deeper env):=
 ⟨r.hd,by have:=r.dp;show A.depth + 1 + 3 * k + 5 < _;omega,by have:=r.un;show A.units + 3 + 16 * k + 200 < _;omega⟩
theorem Fh.in1 {k:Nat} {A:Around} (r:Fh (k + 1) A):Fh k A.in1:=
 ⟨r.hd,by have:=r.dp;show A.depth + 3 * k + 5 < _;omega,by have:=r.un;show A.units + 1 + 16 * k + 200 < _;omega⟩
theorem Wt {A:Around} {C:Addr} {us:List Value} {kw:List (Str × Value)}:(A.under (.builtin "type.__call__" ⟨.ref C :: us,kw⟩)).depth=A.depth + 1:=by
 first | rfl | simp [Around.under,Code.weight,Code.isCreation,Code.isGuard,Code.isCaller,Code.frames,Code.isFrame,guardIds]
theorem lu {A:Around} {C:Addr} {us:List Value} {kw:List (Str × Value)}:(A.under (.builtin "type.__call__" ⟨.ref C :: us,kw⟩)).units=A.units + 1:=by
 first | rfl | simp [Around.under,Code.cUnits,Code.frames,Code.isFrame]
theorem Fh.make {k:Nat} {A:Around} (r:Fh (k + 1) A) (C:Addr) (us:List Value) (kw:List (Str × Value)):Fh k (A.under (.builtin "type.__call__" ⟨.ref C :: us,kw⟩)):=
 ⟨r.hd,by have:=r.dp;rw [Wt];omega,by have:=r.un;rw [lu];omega⟩
theorem Fh.depth {k:Nat} {A:Around} (r:Fh k A):A.depth < recursionLimit:=by have:=r.dp;omega
theorem Fh.units {k:Nat} {A:Around} (r:Fh k A):A.units + 64 < cLine:=by have:=r.un;omega
noncomputable def FG:TA:=fun _ H Q=>Q [] H
noncomputable def WF (ta:TE) (tr:TA):TA:=fun σ H Q=>ta σ H fun x H1=>tr σ H1 fun xs H2=>Q (x :: xs) H2
section
variable {X:Cx} {e:Expr} {es:List Expr} {te:TE} {t:TA} {pos:Pos}
theorem gb:PA X [] FG:=fun _ _ _ _ H Q I h=>Calls.spliced_nil ⟨[],H,I,.nil,h⟩
theorem ab (ha:PE X e te) (hr:PA X es t) (hs:starEach (e :: es) X.env=(false,eval e X.env) :: starEach es X.env:=by rfl):PA X (e :: es) (WF te t):=by
 intro pos pins s σ H Q I h
 rw [hs]
 show wpAny _ _ (spliced ((false,eval e X.env) :: backTo pos (starEach es X.env))) _ _ s
 refine Calls.spliced_cons (thn (ha pins s σ H _ I h) fun u s1 hZ1=>?_)
 obtain ⟨x,H1,I1,r1,q1⟩:=hZ1
 exact thn (hr pos pins s1 σ H1 _ I1 q1) fun us s2 ⟨xs,H2,I2,r2,q2⟩=>⟨x :: xs,H2,I2,.cons r1 r2,q2⟩
noncomputable def WH (t:TA):TE:=fun σ H Q=>t σ H fun xs H1=>xs.length ≤ sizeLine∧∀ p,H1 p=none→Q (.ref p) (upd H1 p (.tup xs))
noncomputable def lI (t:TA):TE:=fun σ H Q=>t σ H fun xs H1=>xs.length ≤ sizeLine∧∀ p,H1 p=none→Q (.ref p) (upd H1 p (.lst xs))
theorem Wl {x1} (h:PA X es t):PE X (.Tuple es x1 pos) (WH t):=by
 intro pins s σ H Q I hq
 refine wpAny_Tuple_spliced (thn (h pos pins s σ H _ I hq) fun us s1 ⟨xs,H1,I1,r,z,q⟩=>⟨by rw [← r.length];exact z,?_⟩)
 have hf:H1 s1.heap.objs.size=none:=I1.hok.fresh (Nat.le_refl _)
 refine ⟨.ref s1.heap.objs.size,upd H1 s1.heap.objs.size (.tup xs),I1.laid (t':=s1.toks) (fun b u e=>Heap.get?_push_of_some _ e) (Nat.le_refl _) ?_,rfl,q _ hf⟩
 exact ⟨z,us,r,⟨_,Heap.get?_push_size _ rfl,rfl,_,rfl⟩⟩
theorem Df (h:PA X es t):PE X (.List es pos) (lI t):=by
 intro pins s σ H Q I hq
 refine wpAny_List_spliced (thn (h pos pins s σ H _ I hq) fun us s1 ⟨xs,H1,I1,r,z,q⟩=>⟨by rw [← r.length];exact z,?_⟩)
 have hf:H1 s1.heap.objs.size=none:=I1.hok.fresh (Nat.le_refl _)
 refine ⟨.ref s1.heap.objs.size,upd H1 s1.heap.objs.size (.lst xs),I1.laid (t':=s1.toks) (fun b u e=>Heap.get?_push_of_some _ e) (Nat.le_refl _) ?_,rfl,q _ hf⟩
 exact ⟨z,us,0,r,Heap.get?_push_size _ rfl⟩
end
noncomputable abbrev Sp:=List V→Hp→VK→XK→Prop
noncomputable abbrev CXT:=List Env→Hp→Shared→XK→Value→Shared→Prop
structure jx (P:Program) (w:World) (K:PySem.W.Frag) (mg:Str→Option Value) (base:Heap) (A:Around) (outer:List Env) (s:Shared) (H:Hp):Prop where
 frames:A.frames=some outer
 mod:Mod K mg base
 bs:∀ b o,base.get? b=some o→s.heap.get? b=some o∧H b=none
 bsz:base.objs.size ≤ s.heap.objs.size
 funs:s.heap.FunFrames base outer
 frf:∀ b ∈ frs outer,H b=none
 hok:HOk P w H s.heap
 bare:AllBare s.gens
noncomputable def CE (outer:List Env) (P:Program) (w:World) (H:Hp) (s:Shared) (Q:VK) (u:Value) (s':Shared):Prop:=
 ∃ v H',s'.os=s.os∧AllBare s'.gens∧Un (frs outer) [] H H' s.heap s'.heap∧HOk P w H' s'.heap∧Qc v u∧Q v H'
noncomputable def CR (CX:CXT) (outer:List Env) (P:Program) (w:World) (H:Hp) (s:Shared) (Q:VK) (E:XK) (r:Result) (s':Shared):Prop:=
 match r with
 | .ok (.ret u)=>CE outer P w H s Q u s'
 | .ok _=>False
 | .error e=>CX outer H s E e s'
structure Lb (P:Program) (w:World) (K:PySem.W.Frag) (mg:Str→Option Value) (base:Heap) (CX:CXT) (k:Nat) (f:Addr) (fd:FuncData) (ps:List Str) (sp:Sp):Prop where
 len:∀ vs H Q E,sp vs H Q E→vs.length=ps.length
 run:∀ (A:Around) (outer:List Env) (s:Shared) (H:Hp) (args:Args) (us:List Value) (vs:List V) (Q:VK) (E:XK),Fh k A→jx P w K mg base A outer s H→BindsTo s fd args (ps.zip us)→Kc vs us→sp vs H Q E →
  codeAny (model P w) A (.call (.ref f) args) (CR CX outer P w H s Q E) s
theorem Lb.mono {P:Program} {w:World} {K:PySem.W.Frag} {mg:Str→Option Value} {base:Heap} {CX:CXT} {j k:Nat} {f:Addr} {fd:FuncData} {ps:List Str} {sp:Sp} (F:Lb P w K mg base CX j f fd ps sp) (h:j ≤ k) :
  Lb P w K mg base CX k f fd ps sp:=⟨F.len,fun A outer s H args us vs Q E hr=>F.run A outer s H args us vs Q E (hr.mono h)⟩
theorem Lb.imp {P:Program} {w:World} {K:PySem.W.Frag} {mg:Str→Option Value} {base:Heap} {CX:CXT} {k:Nat} {f:Addr} {fd:FuncData} {ps:List Str} {sp sp':Sp} (F:Lb P w K mg base CX k f fd ps sp)
  (h:∀ vs H Q E,sp' vs H Q E→sp vs H Q E):Lb P w K mg base CX k f fd ps sp':=
 ⟨fun vs H Q E q=>F.len vs H Q E (h _ _ _ _ q),fun A outer s H args us vs Q E hr he hb hv hs=>F.run A outer s H args us vs Q E hr he hb hv (h _ _ _ _ hs)⟩
theorem jx.make {P:Program} {w:World} {K:PySem.W.Frag} {mg:Str→Option Value} {base:Heap} {A:Around} {outer:List Env} {s:Shared} {H:Hp} (e:jx P w K mg base A outer s H) (C:Addr) (us:List Value) (kw:List (Str × Value)) :
  jx P w K mg base (A.under (.builtin "type.__call__" ⟨.ref C :: us,kw⟩)) outer s H:=⟨by first | exact e.frames | (simpa [Around.under,Code.envs,Code.isFrame,pushEnvs] using e.frames),e.mod,e.bs,e.bsz,e.funs,e.frf,e.hok,e.bare⟩
theorem jx.in1 {P:Program} {w:World} {K:PySem.W.Frag} {mg:Str→Option Value} {base:Heap} {A:Around} {outer:List Env} {s:Shared} {H:Hp} (e:jx P w K mg base A outer s H) :
  jx P w K mg base A.in1 outer s H:=⟨e.frames,e.mod,e.bs,e.bsz,e.funs,e.frf,e.hok,e.bare⟩
section
variable {X:Cx} {pins:List (Addr × Obj)} {σ:St} {H:Hp} {s s':Shared}
theorem Inv.env0 (I:Inv X pins σ H s):jx X.prog X.w X.K X.mg X.base X.A X.stack s H:=
 ⟨I.ok.frames,I.ok.mod,I.bs,Nat.le_trans I.ok.bsz I.sz,I.stack,I.stkFree,I.hok,I.bare⟩
theorem Inv.after {Q:VK} {u:Value} (I:Inv X pins σ H s) (h:CE X.stack X.prog X.w H s Q u s'):EP X pins σ Q u s':=by
 obtain ⟨v,H',os,bare,un,hok,r,q⟩:=h
 obtain ⟨hh,g,d,t,os'⟩:=s'
 obtain rfl:os'=s.os:=os
 exact ⟨v,H',I.call (h':=hh) (g':=g) (d':=d) (t':=t) (ch:=[]) un hok bare (fun b z=>absurd z (by simp)),r,q⟩
end
noncomputable def iD (sp:Sp) (dvs:List V) (E:XK) (t:TA):TE:=fun σ H Q=>t σ H fun vs H1=>sp (vs ++ dvs) H1 Q E
noncomputable def YB (C:Addr) (m:Str) (sp:Sp) (dvs:List V) (E:XK) (ta:TE) (t:TA):TE:=fun σ H Q=>ta σ H fun x H1=>∃ a dx fs,x=.ref a∧H1 a=some (.ins C dx fs)∧fs.lookup m=none ∧
 t σ H1 fun vs H2=>sp (x :: (vs ++ dvs)) H2 Q E
noncomputable def bF (C:Addr) (sp:Sp) (dvs:List V) (E:XK) (t:TA):TE:=fun σ H Q=>t σ H fun vs H1=>∀ x dx,H1 x=none→H1 dx=none→dx ≠ x →
 sp (.ref x :: (vs ++ dvs)) (upd (upd H1 dx (.own x)) x (.ins C dx [])) (fun v H2=>v=.non∧Q (.ref x) H2) E
noncomputable def bc (K:PySem.W.Frag) (fd:FuncData) (ps:List Str) (ds:List Value):Prop:=
 ∀ (s:Shared) (us:List Value),K.In s.heap→(us ++ ds).length=ps.length→BindsTo s fd ⟨us,[]⟩ (ps.zip (us ++ ds))
theorem bc.all {K:PySem.W.Frag} {fd:FuncData} {ps:List Str} (h:∀ us:List Value,us.length=ps.length→bindArgs fd ⟨us,[]⟩=pure (ps.zip us)):bc K fd ps []:=fun s us _ hl=>by
 rw [List.append_nil] at hl ⊢
 exact .of_eq (h us hl)
noncomputable def Cj (CX:CXT) (X:Cx) (E:XK):Prop:=∀ (pins:List (Addr × Obj)) (σ:St) (H:Hp) (s:Shared) (e:Value) (s':Shared),Inv X pins σ H s→CX X.stack H s E e s'→X.xe e s'
section
variable {X:Cx} {CX:CXT} {k:Nat} {f C:Addr} {fd:FuncData} {ps:List Str} {sp:Sp} {dvs:List V} {ds:List Value} {E:XK} {x m:Str} {p pos apos:Pos} {e o:Expr} {es:List Expr} {ta:TE} {t:TA}
theorem rq {pins:List (Addr × Obj)} {σ:St} {H:Hp} {s:Shared} {Q:VK} {us:List Value} {vs:List V} (F:Lb X.prog X.w X.K X.mg X.base CX k f fd ps sp) (hr:Fh k X.A) (hb:bc X.K fd ps ds) (hd:Kc dvs ds) (hx:Cj CX X E)
  (I:Inv X pins σ H s) (r:Kc vs us) (h:sp (vs ++ dvs) H Q E):wpAny (model X.prog X.w) X.A (call (.ref f) us) (EP X pins σ Q) X.xe s:=by
 have r2:Kc (vs ++ dvs) (us ++ ds):=r.append hd
 have hl:(us ++ ds).length=ps.length:=by rw [← r2.length];exact F.len _ _ _ _ h
 refine wpAny_call (codeAny_mono (F.run X.A X.stack s H ⟨us,[]⟩ (us ++ ds) (vs ++ dvs) Q E hr I.env0 (hb s us I.kIn hl) r2 h) fun r s' hq=>?_)
 cases r with
 | error e=>exact hx pins σ H s e s' I hq
 | ok fl=>
  cases fl with
  | ret u=>exact I.after hq
  | next=>exact False.elim hq
  | brk=>exact False.elim hq
  | cont=>exact False.elim hq
theorem vb (F:Lb X.prog X.w X.K X.mg X.base CX k f fd ps sp) (hr:Fh k X.A) (hg:Gl X x) (hm:X.mg x=some (.ref f)) (hk:PySem.W.keepIn X.K (.ref f)=true) (hb:bc X.K fd ps ds) (hd:Kc dvs ds) (hx:Cj CX X E)
  (ha:PA X (e :: es) t) (hdb:(x == ("__debug__" : Str))=false:=by decide) (he:starEach (e :: es) X.env=(false,eval e X.env) :: starEach es X.env:=by rfl) (hpl:(backTo pos (starEach es X.env)).any (·.1)=false:=by rfl) :
  PE X (.Call (.Name x p) (e :: es) [] pos) (iD sp dvs E t):=by
 intro pins s σ H Q I h
 refine wpAny_Call_Name_kw (Do I hg hm ?_ hdb)
 refine PySem.W.callWith_K (h₀:=X.base) I.ok.mod.kin hk (thn (ha pos pins s σ H _ I h) fun us s1 ⟨vs,H1,I1,r,q⟩=>⟨I1.kIn,?_⟩) he hpl
 exact rq F hr hb hd hx I1 r q
theorem zd {pl:Sem Bool} (he:PE X o ta) (c:Cls X.K C) (hm:Fo X.K C m f) (F:Lb X.prog X.w X.K X.mg X.base CX k f fd ps sp) (hr:Fh k X.A) (hb:bc X.K fd ps ds) (hd:Kc dvs ds) (hx:Cj CX X E) (ha:PA X (e :: es) t)
  (hst:starEach (e :: es) X.env=(false,eval e X.env) :: starEach es X.env:=by rfl) (hpl:(backTo pos (starEach es X.env)).any (·.1)=false:=by rfl)
  (ht:eval (.Call (.Attribute o m apos) (e :: es) [] pos) X.env=(do
   let ov ← eval o X.env
   standAt apos.atName
   let (f,first) ← holding [ov] (getMethod ov m pl)
   callWith pos f first (backTo pos (starEach (e :: es) X.env)) (backToKw pos (keywordEach [] X.env))):=by rfl) :
  PE X (.Call (.Attribute o m apos) (e :: es) [] pos) (YB C m sp dvs E ta t):=by
 intro pins s σ H Q I h
 refine PySem.W.methodCall_KW (pl:=pl) (thn (he pins s σ H _ I h) fun u s1 hZ1=>?_) ht
 obtain ⟨x,H1,I1,rx,a,dx,fs,ex,ea,l,q⟩:=hZ1
 subst ex
 obtain rfl:u=Value.ref a:=rx
 refine Vj I1 ea c hm l ?_
 refine PySem.W.callWith_K (first:=[.ref a]) (h₀:=X.base) I.ok.mod.kin hm.kp (thn (ha pos pins s1 σ H1 _ I1 q) fun us s2 ⟨vs,H2,I2,r,q2⟩=>⟨I2.kIn,?_⟩) hst hpl
 exact rq (us:=.ref a :: us) (vs:=.ref a :: vs) F hr hb hd hx I2 (.cons rfl r) q2
theorem Kg {pl:Sem Bool} (he:PE X o ta) (c:Cls X.K C) (hm:Fo X.K C m f) (F:Lb X.prog X.w X.K X.mg X.base CX k f fd ps sp) (hr:Fh k X.A) (hb:bc X.K fd ps ds) (hd:Kc dvs ds) (hx:Cj CX X E)
  (ht:eval (.Call (.Attribute o m apos) [] [] pos) X.env=(do
   let ov ← eval o X.env
   standAt apos.atName
   let (f,first) ← holding [ov] (getMethod ov m pl)
   callWith pos f first (backTo pos (starEach [] X.env)) (backToKw pos (keywordEach [] X.env))):=by rfl) :
  PE X (.Call (.Attribute o m apos) [] [] pos) (YB C m sp dvs E ta FG):=by
 intro pins s σ H Q I h
 refine PySem.W.methodCall_KW (pl:=pl) (thn (he pins s σ H _ I h) fun u s1 hZ1=>?_) ht
 obtain ⟨x,H1,I1,rx,a,dx,fs,ex,ea,l,q⟩:=hZ1
 subst ex
 obtain rfl:u=Value.ref a:=rx
 refine Vj I1 ea c hm l ?_
 exact PySem.W.callWith_K0 (first:=[.ref a]) I1.kIn hm.kp (rq (us:=[.ref a]) (vs:=[.ref a]) F hr hb hd hx I1 (.cons rfl .nil) q)
structure Mk (K:PySem.W.Frag) (C f:Addr):Prop where
 makes:PySem.W.makesIn K C=true
 init:PySem.W.findIn K (.ref C) "__init__"=some (some (.ref f))
 fn:PySem.W.isFn K (.ref f)=true
 kp:PySem.W.keepIn K (.ref C)=true
theorem ez {pins:List (Addr × Obj)} {σ:St} {H:Hp} {s:Shared} {Q:VK} {us:List Value} {vs:List V} (M:Mk X.K C f) (F:Lb X.prog X.w X.K X.mg X.base CX k f fd ps sp) (hr:Fh (k + 1) X.A) (hb:bc X.K fd ps ds) (hd:Kc dvs ds)
  (hx:Cj CX X E) (I:Inv X pins σ H s) (r:Kc vs us)
  (h:∀ x dx,H x=none→H dx=none→dx ≠ x→sp (.ref x :: (vs ++ dvs)) (upd (upd H dx (.own x)) x (.ins C dx [])) (fun v H2=>v=.non∧Q (.ref x) H2) E) :
  wpAny (model X.prog X.w) X.A (call (.ref C) us) (EP X pins σ Q) X.xe s:=by
 have hq:=h (s.heap.objs.size + 1) s.heap.objs.size (I.hok.fresh (Nat.le_succ _)) (I.hok.fresh (Nat.le_refl _)) (Nat.ne_of_lt (Nat.lt_succ_self _))
 have I2:=Inv.made (C:=C) I
 have r2:Kc (V.ref (s.heap.objs.size + 1) :: (vs ++ dvs)) (Value.ref (s.heap.objs.size + 1) :: (us ++ ds)):=.cons rfl (r.append hd)
 have hl:(Value.ref (s.heap.objs.size + 1) :: us ++ ds).length=ps.length:=by
  have e:=r2.length
  rw [F.len _ _ _ _ hq] at e
  exact e.symm
 refine wpAny_call (Pz (f:=f) I.kIn M.makes M.init (beq_iff_eq.mp M.fn) (codeAny_mono (F.run _ X.stack _ _ ⟨Value.ref (s.heap.objs.size + 1) :: us,[]⟩ (Value.ref (s.heap.objs.size + 1) :: (us ++ ds)) _ _ E (hr.make C us [])
  (I2.env0.make C us []) (hb _ (Value.ref (s.heap.objs.size + 1) :: us) I2.kIn hl) r2 hq) fun r s' hq'=>?_))
 cases r with
 | error e=>exact hx pins σ _ _ e s' I2 hq'
 | ok fl=>
  cases fl with
  | ret u=>
   obtain ⟨v,H',I3,rv,ev,q3⟩:=I2.after hq'
   subst ev
   exact ⟨rv,⟨V.ref (s.heap.objs.size + 1),H',I3,rfl,q3⟩⟩
  | next=>exact False.elim hq'
  | brk=>exact False.elim hq'
  | cont=>exact False.elim hq'
theorem ck (M:Mk X.K C f) (F:Lb X.prog X.w X.K X.mg X.base CX k f fd ps sp) (hr:Fh (k + 1) X.A) (hg:Gl X x) (hm:X.mg x=some (.ref C)) (hb:bc X.K fd ps ds) (hd:Kc dvs ds) (hx:Cj CX X E)
  (ha:PA X (e :: es) t) (hdb:(x == ("__debug__" : Str))=false:=by decide) (he:starEach (e :: es) X.env=(false,eval e X.env) :: starEach es X.env:=by rfl) (hpl:(backTo pos (starEach es X.env)).any (·.1)=false:=by rfl) :
  PE X (.Call (.Name x p) (e :: es) [] pos) (bF C sp dvs E t):=by
 intro pins s σ H Q I h
 refine wpAny_Call_Name_kw (Do I hg hm ?_ hdb)
 refine PySem.W.callWith_K (h₀:=X.base) I.ok.mod.kin M.kp (thn (ha pos pins s σ H _ I h) fun us s1 ⟨vs,H1,I1,r,q⟩=>⟨I1.kIn,?_⟩) he hpl
 exact ez M F hr hb hd hx I1 r q
end
section
variable {X:Cx} {CX:CXT} {k:Nat} {f C:Addr} {fd:FuncData} {ps ks:List Str} {sp:Sp} {E:XK} {x m:Str} {p pos apos kpos:Pos} {e o:Expr} {es:List Expr} {kws:List Keyword} {te ta:TE} {t tk:TA} {nm:Option Str}
structure uI (K:PySem.W.Frag) (fd:FuncData) (ps ks:List Str) (g:List Value→List Value→List Value) (gV:List V→List V→List V):Prop where
 to:∀ (s:Shared) (us ws:List Value),K.In s.heap→(g us ws).length=ps.length→BindsTo s fd ⟨us,ks.zip ws⟩ (ps.zip (g us ws))
 rel:∀ {vs:List V} {us:List Value} {zs:List V} {ws:List Value},Kc vs us→Kc zs ws→Kc (gV vs zs) (g us ws)
noncomputable def dG (sp:Sp) (gV:List V→List V→List V) (E:XK) (t tk:TA):TE:=fun σ H Q=>t σ H fun vs H1=>tk σ H1 fun zs H2=>sp (gV vs zs) H2 Q E
variable {g:List Value→List Value→List Value} {gV:List V→List V→List V}
end
structure Ab (N P:List Str) (sc:Scope):Prop where
 kind:sc.kind=.function
 co:sc.isCoroutine=false
 gen:sc.isGenerator=false
 nd:N.Nodup
 pre:N.take P.length=P
 par:∀ x ∈ P,sc.names.lookup x=some .local∨sc.names.lookup x=some .cell
 nofree:∀ y ∈ sc.names,y.2 ≠ .free
theorem yp {kindOf:Str→Option NameKind} {x:Str}:∀ {binds:List (Str × Value)} {m:Str→Option Value},(∀ v,(x,v) ∉ binds)→bindL kindOf binds m x=m x
 | [],_,_=>rfl
 | (n,v) :: r,m,h=>by
  unfold bindL
  rw [yp fun w hw=>h w (List.mem_cons_of_mem _ hw)]
  split
  ·have:x ≠ n:=by rintro rfl;exact h v List.mem_cons_self
   simp [this]
  ·rfl
theorem mq {kindOf:Str→Option NameKind} {x:Str}:∀ {binds:List (Str × Value)} {m:Str→Option Value},(∀ v,(x,v) ∉ binds)→bindC kindOf binds m x=m x
 | [],_,_=>rfl
 | (n,v) :: r,m,h=>by
  unfold bindC
  rw [mq fun w hw=>h w (List.mem_cons_of_mem _ hw)]
  split
  ·rfl
  ·have:x ≠ n:=by rintro rfl;exact h v List.mem_cons_self
   simp [this]
theorem Mq {kindOf:Str→Option NameKind} {x:Str} {v:Value}:∀ {P:List Str} {vs:List Value} {i:Nat} {m:Str→Option Value},P.Nodup→P[i]? = some x→vs[i]? = some v→kindOf x=some .local →
  bindL kindOf (P.zip vs) m x=some v
 | [],_,_,_,_,h,_,_=>by simp at h
 | _ :: _,[],_,_,_,_,h,_=>by simp at h
 | p :: P,w :: vs,0,m,nd,h1,h2,hk=>by
  simp at h1 h2;subst h1;subst h2
  show bindL kindOf ((p,w) :: P.zip vs) m p=_
  unfold bindL
  rw [yp fun v hv=>(List.nodup_cons.mp nd).1 (List.of_mem_zip hv).1,if_pos hk]
  simp
 | p :: P,w :: vs,i + 1,m,nd,h1,h2,hk=>by
  show bindL kindOf ((p,w) :: P.zip vs) m x=_
  unfold bindL
  exact Mq (i:=i) (List.nodup_cons.mp nd).2 (by simpa using h1) (by simpa using h2) hk
theorem Ep {kindOf:Str→Option NameKind} {x:Str} {v:Value}:∀ {P:List Str} {vs:List Value} {i:Nat} {m:Str→Option Value},P.Nodup→P[i]? = some x→vs[i]? = some v→kindOf x ≠ some .local →
  bindC kindOf (P.zip vs) m x=some v
 | [],_,_,_,_,h,_,_=>by simp at h
 | _ :: _,[],_,_,_,_,h,_=>by simp at h
 | p :: P,w :: vs,0,m,nd,h1,h2,hk=>by
  simp at h1 h2;subst h1;subst h2
  show bindC kindOf ((p,w) :: P.zip vs) m p=_
  unfold bindC
  rw [mq fun v hv=>(List.nodup_cons.mp nd).1 (List.of_mem_zip hv).1,if_neg hk]
  simp
 | p :: P,w :: vs,i + 1,m,nd,h1,h2,hk=>by
  show bindC kindOf ((p,w) :: P.zip vs) m x=_
  unfold bindC
  exact Ep (i:=i) (List.nodup_cons.mp nd).2 (by simpa using h1) (by simpa using h2) hk
noncomputable def start (N:List Str) (vs:List V):St:=vs.map some ++ List.replicate (N.length - vs.length) none
noncomputable def BB (CX:CXT) (P:Program) (w:World) (K:PySem.W.Frag) (mg:Str→Option Value) (base:Heap) (N:List Str) (qual:Str) (scope:Scope) (f:Addr) (cd:Value) (A:Around) (outer:List Env) (s:Shared) (H:Hp) (E:XK):Cx where
 prog:=P
 w:=w
 K:=K
 mg:=mg
 base:=base
 A:=A.deeper (envOfC qual scope s.heap.objs.size f cd)
 N:=N
 s₀:=s
 H₀:=H
 env:=envOfC qual scope s.heap.objs.size f cd
 outer:=outer
 stack:=envOfC qual scope s.heap.objs.size f cd :: outer
 ex:=[]
 calm:=true
 fn:=fun _=>true
 pn:=[]
 xe:=fun e s'=>wpAny (model P w) (A.deeper (envOfC qual scope s.heap.objs.size f cd)) (leaving (envOfC qual scope s.heap.objs.size f cd) e) (fun _ s''=>CX outer H s E e s'') (fun e' s''=>CX outer H s E e' s'') s'
theorem Ls {sc:Scope} {n:Nat} {x:Str} (h:sc.names.lookup x=some .cell):∃ c,(cellsFrom n sc.names []).lookup x=some c:=by
 have q:=PySem.W.cellsFrom_some sc.names n [] (.inl h)
 exact Option.isSome_iff_exists.mp q
theorem xv {CX:CXT} {P:Program} {w:World} {K:PySem.W.Frag} {mg:Str→Option Value} {base:Heap} {N ps:List Str} {qual:Str} {scope:Scope} {f:Addr} {cd:Value} {A:Around} {outer:List Env} {s s1:Shared} {H:Hp} {E:XK} {us:List Value} {vs:List V}
  (S:Ab N ps scope) (hd:A.handled=none) (e0:jx P w K mg base A outer s H) (hl:vs.length=ps.length) (r:Kc vs us)
  (x:InCallC s s.heap.objs.size (bindL (envOfC qual scope s.heap.objs.size f cd).kindOf (ps.zip us) fun _=>none) (cellsFrom (s.heap.objs.size + 1) scope.names []) (bindC (envOfC qual scope s.heap.objs.size f cd).kindOf (ps.zip us) fun _=>none) s1) :
  Inv (BB CX P w K mg base N qual scope f cd A outer s H E) [] (start N vs) H s1:=by
 have hpl:ps.length ≤ N.length:=by have:=congrArg List.length S.pre;rw [List.length_take] at this;omega
 obtain ⟨h1,tk,rfl,hk⟩:=x.done
 have noA:∀ b:Addr,b ∉ (BB CX P w K mg base N qual scope f cd A outer s H E).ex:=fun b z=>absurd (show b ∈ ([]:List Addr) from z) (by simp)
 refine ⟨⟨e0.mod,S.kind,rfl,rfl,Nat.le_refl _,fun y z c h1 h2=>?_,fun y hy=>?_,fun y c _ h=>?_,fun _=>hd,Around.frames_deeper e0.frames,.inr ⟨rfl,rfl⟩,fun b z=>absurd z (noA b),e0.bs,e0.bsz,fun b _ _=>noA b,fun b z=>absurd z (noA b),e0.funs,e0.frf⟩,
  rfl,e0.bare,Un.kept hk,⟨_,x.toInCall.ns,fun i y v h1 h2 h3=>?_⟩,fun y c h=>⟨_,x.cell y c h⟩,e0.hok.fresh (Nat.le_refl _),fun y c h=>?_,fun p hp=>absurd (show p ∈ ([]:List (Addr × Obj)) from hp) (by simp),e0.hok.kept hk,?_⟩
 ·exact name_of_addr x.apart (PySem.mem_of_lookup h1) (PySem.mem_of_lookup h2)
 ·have hy:scope.names.lookup y=some .cell∨scope.names.lookup y=some .free:=hy
  rcases hy with hy | hy
  ·exact Ls hy
  ·exact absurd rfl (S.nofree _ (PySem.mem_of_lookup hy))
 ·exact Nat.le_of_lt (x.above y c (PySem.mem_of_lookup h))
 ·have hi:i < vs.length:=by
   unfold start at h2
   by_cases hi:i < vs.length
   ·exact hi
   ·rw [List.getElem?_append_right (by simpa using hi)] at h2
    rw [List.getElem?_replicate] at h2
    split at h2 <;> cases h2
  have ha:vs[i]? = some v:=by
   unfold start at h2
   rw [List.getElem?_append_left (by simpa using hi),List.getElem?_map] at h2
   cases e:vs[i]? with
   | none=>rw [e] at h2;cases h2
   | some a=>rw [e] at h2;cases h2;rfl
  obtain ⟨u,hu,rv⟩:=r.get ha
  have hp:ps[i]? = some y:=by
   rw [← S.pre,List.getElem?_take_of_lt (by omega)];exact h1
  have ndP:ps.Nodup:=by rw [← S.pre];exact S.nd.sublist (List.take_sublist _ _)
  refine ⟨u,rv,?_⟩
  rcases S.par y (List.mem_of_getElem? hp) with k | k
  ·exact .inl ⟨k,Mq ndP hp hu k⟩
  ·obtain ⟨c,e⟩:=Ls (n:=s.heap.objs.size + 1) k
   refine .inr ⟨.inl k,c,e,?_⟩
   have q:=x.cell y c e
   rw [Ep ndP hp hu (by show scope.names.lookup y ≠ _;rw [k];decide)] at q
   exact q
 ·exact e0.hok.fresh (Nat.le_of_lt (x.above y c (PySem.mem_of_lookup h)))
 ·unfold start
  show _=N.length
  rw [List.length_append,List.length_map,List.length_replicate]
  omega
theorem RG {CX:CXT} {P:Program} {w:World} {K:PySem.W.Frag} {mg:Str→Option Value} {base:Heap} {k:Nat} {f:Addr} {name qual:Str} {params:Arguments} {body:List Stmt} {scope:Scope} {dV kV doc pm cdv ct oc:Value} {an od:Option Addr}
  {osl:Array (Option Value)} {N ps:List Str} {sp:Sp} (lk:K.lookup f=some ⟨oc,od,.func (PySem.W.fnOf name qual params body scope dV kV doc pm an cdv ct),osl⟩) (hcd:PySem.W.codeIn K cdv qual=true) (S:Ab N ps scope)
  (len:∀ vs H Q E,sp vs H Q E→vs.length=ps.length)
  (hbody:∀ (A:Around) (outer:List Env) (s:Shared) (H:Hp) (vs:List V) (Q:VK) (E:XK),Fh k (A.deeper (envOfC qual scope s.heap.objs.size f cdv))→sp vs H Q E →
   ∃ t,PSs (BB CX P w K mg base N qual scope f cdv A outer s H E) body t∧t { nx:=fun _ H'=>Q .non H',rt:=Q } (start N vs) H) :
  Lb P w K mg base CX (k + 1) f (PySem.W.fnOf name qual params body scope dV kV doc pm an cdv ct) ps sp:=by
 refine ⟨len,fun A outer s H args us vs Q E hr e0 hb r hsp=>?_⟩
 have hl:=len _ _ _ _ hsp
 have KX:K.In s.heap:=e0.mod.kin.keeps fun b o e=>(e0.bs b o e).1
 have lim:s.heap.NoLimit:=e0.mod.nolimit.keeps fun b o e=>(e0.bs b o e).1
 have hkind:∀ y ∈ ps.zip us,scope.names.lookup y.1=some .local∨(scope.names.lookup y.1=some .cell∧((cellsFrom (s.heap.objs.size + 1) scope.names []).lookup y.1).isSome=true):=fun ⟨n,v⟩ hy=>by
  rcases S.par n (List.of_mem_zip hy).1 with q | q
  ·exact .inl q
  ·exact .inr ⟨q,PySem.W.cellsFrom_some _ _ _ (.inl q)⟩
 refine codeAny_call_function hr.depth (KX _ _ lk) rfl S.co S.gen rfl (PySem.W.codeRec_of KX hcd) (hb _ _ _ _ ?_)
 refine wpAny_newFunctionEnv_cells S.kind hkind fun env he s1 x=>?_
 subst he
 refine ⟨lim.keeps x.toInCall.keep,codeAny_func ?_⟩
 obtain ⟨t,ht,hq⟩:=hbody A outer s H vs Q E (hr.deeper _) hsp
 have I:Inv (BB CX P w K mg base N qual scope f cdv A outer s H E) [] (start N vs) H s1:=xv S hr.hd e0 hl r x
 refine wpAny_mono (ht [] s1 (start N vs) H _ I hq) (fun fl s' hs=>?_) fun e s' hs=>hs
 have fin:∀ {σ':St} {H':Hp} {v:V} {u:Value},Inv (BB CX P w K mg base N qual scope f cdv A outer s H E) [] σ' H' s'→Qc v u→Q v H'→CE outer P w H s Q u s':=
  fun {σ' H' v u} J rv q=>⟨v,H',J.os,J.bare,J.base,J.hok,rv,q⟩
 cases fl with
 | ret u=>
  obtain ⟨v,σ',H',J,rv,q⟩:=hs
  exact fin J rv q
 | next=>
  obtain ⟨σ',H',J,q⟩:=hs
  exact fin (v:=V.non) (u:=Value.none) J rfl q
 | brk=>
  obtain ⟨_,_,_,q⟩:=hs
  exact False.elim q
 | cont=>
  obtain ⟨_,_,_,q⟩:=hs
  exact False.elim q
end L2
namespace L2
open PySem PySem.Spec PyProof.Rows
section
variable {X:Cx} {x:Str} {p pos:Pos} {e:Expr} {es:List Expr} {t:TA} {id T:String} {r:List V→Hp→VK→Prop}
noncomputable def tCB (r:List V→Hp→VK→Prop) (t:TA):TE:=fun σ H Q=>t σ H fun vs H1=>r vs H1 Q
theorem Zb (hc:Th X (.builtin id) r) (hg:Gl X x) (hm:X.mg x=none) (hv:bootBuiltins x=some (.builtin id)) (ha:PA X (e :: es) t) (hn:x ≠ "__name__" := by decide) (hdb:(x == ("__debug__" : Str))=false:=by decide)
  (he:starEach (e :: es) X.env=(false,eval e X.env) :: starEach es X.env:=by rfl) (hpl:(backTo pos (starEach es X.env)).any (·.1)=false:=by rfl):PE X (.Call (.Name x p) (e :: es) [] pos) (tCB r t):=by
 intro pins s σ H Q I h
 refine wpAny_Call_Name_kw (Kl I hg hm hv ?_ hn hdb)
 exact PyProof.Rows.callWith_builtin1 (thn (ha pos pins s σ H _ I h) fun us s1 ⟨vs,H1,I1,r1,q1⟩=>hc pins s1 σ H1 vs us Q I1 r1 q1) he hpl
theorem de (hc:Th X (.type T) r) (hg:Gl X x) (hm:X.mg x=none) (hv:bootBuiltins x=some (.type T)) (ha:PA X (e :: es) t) (hn:x ≠ "__name__" := by decide) (hdb:(x == ("__debug__" : Str))=false:=by decide)
  (he:starEach (e :: es) X.env=(false,eval e X.env) :: starEach es X.env:=by rfl) (hpl:(backTo pos (starEach es X.env)).any (·.1)=false:=by rfl):PE X (.Call (.Name x p) (e :: es) [] pos) (tCB r t):=by
 intro pins s σ H Q I h
 refine wpAny_Call_Name_kw (Kl I hg hm hv ?_ hn hdb)
 exact PyProof.Rows.callWith_type1 (thn (ha pos pins s σ H _ I h) fun us s1 ⟨vs,H1,I1,r1,q1⟩=>hc pins s1 σ H1 vs us Q I1 r1 q1) he hpl
end
end L2
namespace HT
open PySem PyProof.Rows
noncomputable def lexLt:List Int→List Int→Bool
 | [],[]=>false
 | [],_ :: _=>true
 | _ :: _,[]=>false
 | x :: xs,y :: ys=>if x=y then lexLt xs ys else decide (x < y)
section
open PySem.SeqAt
open PySem.AutoSeq1 (wpAny_loadPart')
open PySem.MeetsSeq PySem.MeetsSeq2 PySem.MeetsSeq3
end
section
variable {prog:Program} {w:World} {A:Around} {E:Value→Shared→Prop} {s:Shared}
noncomputable def sIx (n d:Nat):Option Int→Nat
 | none=>d
 | some v=>if v < 0 then (v + (n:Int)).toNat else min v.toNat n
theorem sIx_nat (n d k:Nat):sIx n d (some (k:Int))=min k n:=by
 show (if (k:Int) < 0 then ((k:Int) + (n:Int)).toNat else min (k:Int).toNat n)=min k n
 rw [if_neg (by omega),Int.toNat_natCast]
theorem pE (n d:Nat) (hd:d ≤ n) (o:Option Int):sIx n d o ≤ n:=by
 cases o with
 | none=>exact hd
 | some v=>
  show (if v < 0 then (v + (n:Int)).toNat else min v.toNat n) ≤ n
  by_cases hv:v < 0
  ·rw [if_pos hv];omega
  ·rw [if_neg hv];exact Nat.min_le_right _ _
theorem uw (v:Int) (n d:Nat):(if v < 0 then max (v + (n:Int)) 0 else min v (n:Int))=((sIx n d (some v):Nat):Int):=by
 show (if v < 0 then max (v + (n:Int)) 0 else min v (n:Int))=(((if v < 0 then (v + (n:Int)).toNat else min v.toNat n):Nat):Int)
 by_cases hv:v < 0
 ·simp only [if_pos hv];omega
 ·simp only [if_neg hv];omega
theorem Cu (lo hi:Option Int) (n:Nat):Builtin.Slice.sliceAdjust lo hi 1 (n:Int)=(((sIx n 0 lo:Nat):Int),((sIx n n hi:Nat):Int)):=by
 have h1:¬ ((1:Int) < 0):=by omega
 unfold Builtin.Slice.sliceAdjust
 simp only [h1,if_false]
 refine Prod.ext ?_ ?_
 ·cases lo with
  | none=>rfl
  | some v=>exact uw v n 0
 ·cases hi with
  | none=>rfl
  | some v=>exact uw v n n
theorem Jt (i j:Nat):Builtin.Slice.slicePlaces (i:Int) (j:Int) 1=j - i:=by
 unfold Builtin.Slice.slicePlaces
 have h1:(1:Int) > 0:=by omega
 simp only [h1,if_true,Int.ediv_one]
 split <;> omega
theorem Zn {v:Value} {o:Option Int} {Q:Option Int→Shared→Prop} (p:IsPart v o) (h:Q o s):wpAny (model prog w) A (Builtin.Slice.slicePartIndex v) Q E s:=by
 cases p with
 | none=>exact slicePart_none h
 | int i t=>exact slicePart_int h
theorem Sk {sl:Addr} {vl vu:Value} {lo hi:Option Int} {n:Nat} {Q:Int × Int × Nat→Shared→Prop} (hs:s.heap.IsSliceOf sl vl vu .none) (pl:IsPart vl lo) (pu:IsPart vu hi)
  (h:Q (((sIx n 0 lo:Nat):Int),1,sIx n n hi - sIx n 0 lo) s):wpAny (model prog w) A (Builtin.Slice.sliceApplied (.ref sl) (pure (n:Int))) Q E s:=by
 obtain ⟨os,hos,hcs,hds⟩:=id hs
 unfold Builtin.Slice.sliceApplied Builtin.Slice.sliceFields
 refine wpAny_bind (wpAny_bind (wpAny_field hos hds (x:=vl) rfl (wpAny_bind (wpAny_field hos hds (x:=vu) rfl (wpAny_bind (wpAny_field hos hds (x:=.none) rfl (wpAny_pure ?_)))))))
 refine wpAny_bind (slicePart_none ?_)
 show wpAny _ _ (if ((1:Int) == 0)=true then _ else _) _ _ s
 rw [if_neg (by decide)]
 refine wpAny_bind (Zn pl (wpAny_bind (Zn pu (wpAny_bind (wpAny_pure ?_)))))
 show wpAny _ _ (match Builtin.Slice.sliceAdjust lo hi 1 (n:Int) with | (lo,hi)=>pure (lo,(1:Int),Builtin.Slice.slicePlaces lo hi 1)) _ _ s
 rw [Cu lo hi n]
 show wpAny _ _ (pure (((sIx n 0 lo:Nat):Int),(1:Int),Builtin.Slice.slicePlaces ((sIx n 0 lo:Nat):Int) ((sIx n n hi:Nat):Int) 1)) _ _ s
 rw [Jt]
 exact wpAny_pure h
theorem Xz (xs:Array Value) (i k:Nat):((List.range k).filterMap fun (m:Nat)=>xs[((i:Int) + (m:Int) * 1).toNat]?).toArray=((xs.toList.drop i).take k).toArray:=by
 have e:(fun (m:Nat)=>xs[((i:Int) + (m:Int) * 1).toNat]?)=fun m=>xs[i + m]?:=by
  funext m
  have:((i:Int) + (m:Int) * 1).toNat=i + m:=by omega
  rw [this]
 rw [e]
 have:=pick_run xs i k
 rw [List.filterMap_map] at this
 have e2:((fun x=>xs[x]?) ∘ fun x=>i + x)=fun m=>xs[i + m]?:=rfl
 rw [e2] at this
 rw [this]
theorem getItem_tuple_cut {t sl:Addr} {items:Array Value} {vl vu:Value} {lo hi:Option Int} {Q:Value→Shared→Prop} (ht:IsTup s.heap t items) (hs:s.heap.IsSliceOf sl vl vu .none) (pl:IsPart vl lo) (pu:IsPart vu hi)
  (hw:¬ (sIx items.size 0 lo=0∧sIx items.size items.size hi=items.size))
  (h:Q (.ref s.heap.objs.size) { s with heap:=s.heap.push { cls:=.type "tuple",data:=.seq ((items.toList.drop (sIx items.size 0 lo)).take (sIx items.size items.size hi - sIx items.size 0 lo)).toArray } })
  (hsz:items.size ≤ sizeLine):wpAny (model prog w) A (getItem (.ref t) (.ref sl)) Q E s:=by
 have htake:sizeOk (.seq ((items.toList.drop (sIx items.size 0 lo)).take (sIx items.size items.size hi - sIx items.size 0 lo)).toArray):=by
  show ((items.toList.drop (sIx items.size 0 lo)).take (sIx items.size items.size hi - sIx items.size 0 lo)).toArray.size ≤ sizeLine
  rw [List.size_toArray,List.length_take,List.length_drop,Array.length_toList]
  omega
 have hj:sIx items.size items.size hi ≤ items.size:=pE _ _ (Nat.le_refl _) hi
 obtain ⟨os,hos,hcs,hds⟩:=id hs
 have hTs:s.TypeIs (.ref sl) "slice" := ⟨os,hos,hcs⟩
 unfold getItem
 try with_reducible refine wpAny_holding ?_
 first | refine wpAny_bind (wpAny_pure ?_) | skip
 refine wpAny_bind (wpAny_sequenceKey ht.typeIs (by decide) ?_)
 refine wpAny_bind (wpAny_callSpecial?_slot (name:=Str.ofString "__getitem__") ht.typeIs PyProof.Rows.slot_tuple_getitem
  (wpAny_call_entry PyProof.Rows.slot_tuple_getitem ht.typeIs entry_tuple_getitem ?_ (args_tuple_getitem _ _)))
 show wpAny _ _ (Builtin.Tuple.tupleItemsOf (.ref t) >>= _) _ _ s
 refine wpAny_bind (tupleItemsOf_ ht ?_)
 refine wpAny_bind (wpAny_typeOf hTs ?_)
 rw [if_pos (by decide)]
 refine wpAny_bind (Sk hs pl pu ?_)
 have hno:¬ ((((sIx items.size 0 lo:Nat):Int) == 0 && (1:Int) == 1 && (sIx items.size items.size hi - sIx items.size 0 lo) == items.size)=true):=by
  intro q
  rw [Bool.and_eq_true,Bool.and_eq_true] at q
  have q1:((sIx items.size 0 lo:Nat):Int)=0:=eq_of_beq q.1.1
  have q2:sIx items.size items.size hi - sIx items.size 0 lo=items.size:=eq_of_beq q.2
  exact hw ⟨by omega,by omega⟩
 show wpAny _ _ (if (((sIx items.size 0 lo:Nat):Int) == 0 && (1:Int) == 1 && (sIx items.size items.size hi - sIx items.size 0 lo) == items.size)=true then _ else _) _ _ s
 rw [if_neg hno,Xz]
 first
  | exact wpAny_bind (m:=Builtin.Tuple.tupleExact _) (wpAny_newObj_type (wpAny_pure ⟨_,rfl,wpAny_pure h⟩) htake)
  | exact wpAny_bind (m:=Builtin.Tuple.tupleExact _) (wpAny_newObj_type (wpAny_bind (wpAny_pure (wpAny_pure ⟨_,rfl,wpAny_pure h⟩))) htake)
  | exact wpAny_bind (wpAny_bind (m:=Builtin.Tuple.tupleExact _) (wpAny_newObj_type (wpAny_pure (wpAny_pure ⟨_,rfl,wpAny_pure h⟩)) htake))
  | exact wpAny_bind (wpAny_bind (m:=Builtin.Tuple.tupleExact _) (wpAny_newObj_type (wpAny_pure ⟨_,rfl,wpAny_pure h⟩) htake))
end
end HT
namespace L2
open PySem PySem.Spec PyProof.Rows
noncomputable abbrev TO:=St→Hp→(Option Int→Hp→Prop)→Prop
noncomputable def PO (X:Cx) (e:Option Expr) (t:TO):Prop:=
 ∀ (pins:List (Addr × Obj)) (s:Shared) (σ:St) (H:Hp) (Q:Option Int→Hp→Prop),Inv X pins σ H s→t σ H Q →
  wpAny (model X.prog X.w) X.A (evalPart e X.env) (fun u s'=>∃ o H',Inv X pins σ H' s'∧IsPart u o∧Q o H') X.xe s
noncomputable def Tu:TO:=fun _ H Q=>Q none H
noncomputable def wG (t:TE):TO:=fun σ H Q=>t σ H fun x H1=>∃ i,x=.int i∧Q (some i) H1
section
variable {X:Cx} {e:Expr} {te:TE} {lo hi:Option Expr} {tl th:TO} {pos p2:Pos}
theorem pk:PO X none Tu:=by
 intro pins s σ H Q I h
 rw [evalPart_none]
 exact wpAny_pure ⟨none,H,I,.none,h⟩
theorem Ce (h:PE X e te):PO X (some e) (wG te):=by
 intro pins s σ H Q I hw
 rw [evalPart_some]
 refine thn (h pins s σ H _ I hw) fun u s1 hZ1=>?_
 obtain ⟨x,H1,I1,r1,q1⟩:=hZ1
 obtain ⟨i,rfl,q⟩:=q1
 obtain ⟨t,rfl⟩:=r1
 exact ⟨some i,H1,I1,.int i t,q⟩
noncomputable def SlR (X:Cx) (r:V→Option Int→Option Int→Hp→VK→Prop):Prop:=
 ∀ (pins:List (Addr × Obj)) (s:Shared) (σ:St) (H:Hp) (x:V) (v vl vu:Value) (lo hi:Option Int) (sl:Addr) (Q:VK),Inv X pins σ H s→Qc x v→s.heap.IsSliceOf sl vl vu .none→IsPart vl lo→IsPart vu hi→r x lo hi H Q →
  ∃ T id,typeLookup (.type T) "__getitem__"=pure (some (.builtin id))∧s.TypeIs v T∧wpAny (model X.prog X.w) X.A (getItem v (.ref sl)) (EP X pins σ Q) X.xe s
theorem SlR.or {r r':V→Option Int→Option Int→Hp→VK→Prop} (h:SlR X r) (h':SlR X r'):SlR X (fun x lo hi H Q=>r x lo hi H Q∨r' x lo hi H Q):=by
 intro pins s σ H x v vl vu lo hi sl Q I rx hs pl pu q
 rcases q with q | q
 ·exact h pins s σ H x v vl vu lo hi sl Q I rx hs pl pu q
 ·exact h' pins s σ H x v vl vu lo hi sl Q I rx hs pl pu q
noncomputable def tSl (r:V→Option Int→Option Int→Hp→VK→Prop) (te:TE) (tl th:TO):TE:=fun σ H Q=>te σ H fun x H1=>tl σ H1 fun l H2=>th σ H2 fun u H3=>r x l u H3 Q
theorem Ke {r:V→Option Int→Option Int→Hp→VK→Prop} (hr:SlR X r) (he:PE X e te) (hl:PO X lo tl) (hu:PO X hi th):PE X (.Subscript e (.Slice lo hi none p2) pos) (tSl r te tl th):=by
 intro pins s σ H Q I h
 refine Subscript_ (thn (he pins s σ H _ I h) fun v s1 hZ1=>?_)
 obtain ⟨x,H1,I1,r1,q1⟩:=hZ1
 refine wpAny_Slice (thn (hl pins s1 σ H1 _ I1 q1) fun vl s2 ⟨l,H2,I2,pl,q2⟩=>thn (hu pins s2 σ H2 _ I2 q2) fun vu s3 hZ1=>?_)
 obtain ⟨u,H3,I3,pu,q3⟩:=hZ1
 rw [evalPart_none]
 refine wpAny_pure ?_
 have I4:Inv X pins σ H3 { s3 with heap:=s3.heap.push { cls:=.type "slice",data:=.fields #[vl,vu,.none] } }:=I3.kept (t':=s3.toks) fun b ob q=>Heap.get?_push_of_some _ q
 obtain ⟨T,id,hT,ht,hg⟩:=hr pins { s3 with heap:=s3.heap.push { cls:=.type "slice",data:=.fields #[vl,vu,.none] } } σ H3 x v vl vu l u s3.heap.objs.size Q I4 r1 (Heap.IsSliceOf.new ..) pl pu q3
 show wpAny (model X.prog X.w) X.A (subscriptTail e (.Slice lo hi none p2) v (.ref s3.heap.objs.size)) (EP X pins σ Q) X.xe { s3 with heap:=s3.heap.push { cls:=.type "slice",data:=.fields #[vl,vu,.none] } }
 exact tail_any (ops:=[.ref s3.heap.objs.size,v]) ht hT hg (by with_unfolding_all rfl)
noncomputable def Pq (xs:List V) (lo hi:Option Int):List V:=(xs.drop (HT.sIx xs.length 0 lo)).take (HT.sIx xs.length xs.length hi - HT.sIx xs.length 0 lo)
theorem Zl (xs:List V) (lo hi:Option Int):(Pq xs lo hi).length ≤ xs.length:=by
 unfold Pq
 rw [List.length_take,List.length_drop]
 omega
noncomputable def YH (K:PySem.W.Frag):V→Option Int→Option Int→Hp→VK→Prop:=fun x lo hi H Q=>∃ a xs,x=.ref a∧SqT K H a xs ∧
 ¬ (HT.sIx xs.length 0 lo=0∧HT.sIx xs.length xs.length hi=xs.length)∧∀ p,H p=none→Q (.ref p) (upd H p (.tup (Pq xs lo hi)))
theorem Dx:SlR X (YH X.K):=by
 intro pins s σ H x v vl vu lo hi sl Q I rx hs pl pu h
 obtain ⟨a,xs,rfl,hx,hw,q⟩:=h
 cases rx
 obtain ⟨its,r,ht,hz⟩:=I.tuple hx
 have hlen:its.toArray.size=xs.length:=by rw [List.size_toArray];exact r.length.symm
 refine ⟨"tuple",_,PyProof.Rows.slot_tuple_getitem.lookup,ht.typeIs,?_⟩
 refine HT.getItem_tuple_cut ht hs pl pu (by rw [hlen];exact hw) ?_ (by rw [hlen];exact hz)
 rw [hlen]
 refine ⟨.ref s.heap.objs.size,_,I.laid (t':=s.toks) (o:=.tup (Pq xs lo hi)) (fun b ob q=>Heap.get?_push_of_some _ q) (Nat.le_refl _) ?_,rfl,q _ (I.hok.fresh (Nat.le_refl _))⟩
 exact ⟨Nat.le_trans (Zl xs lo hi) hz,_,(r.drop (HT.sIx xs.length 0 lo)).take (HT.sIx xs.length xs.length hi - HT.sIx xs.length 0 lo),IsTup.new _ _⟩
noncomputable def CI (K:PySem.W.Frag):R2:=fun x y H Q=>∃ a b ns ms,x=.ref a∧y=.ref b∧SqT K H a (ns.map V.int)∧SqT K H b (ms.map V.int)∧Q (.bl (HT.lexLt ns ms)) H
noncomputable def VG (K:PySem.W.Frag):R2:=fun x y H Q=>∃ a b xs ys,x=.ref a∧y=.ref b∧SqT K H a xs∧SqT K H b ys∧xs ≠ []∧xs.length + ys.length ≤ sizeLine ∧
 (ys=[]→Q (.ref a) H)∧(ys ≠ []→∀ p,H p=none→Q (.ref p) (upd H p (.tup (xs ++ ys))))
end
end L2
namespace L2
open PySem PySem.Spec PyProof.Rows
noncomputable def ixN (n:Nat) (i:Int):Option Nat:=if 0 ≤ i then (if i < n then some i.toNat else none) else if -(n:Int) ≤ i then some (i + n).toNat else none
noncomputable def atI {α:Type} (xs:List α) (i:Int):Option α:=(ixN xs.length i).bind fun j=>xs[j]?
theorem Bv {n:Nat} {i:Int} {j:Nat} (h:ixN n i=some j):seqIndex? i n=some j∧j < n∧-(n:Int) ≤ i∧i < n:=by
 unfold ixN at h
 by_cases h0:0 ≤ i
 ·rw [if_pos h0] at h
  by_cases h1:i < n
  ·rw [if_pos h1] at h
   have e:i.toNat=j:=Option.some.inj h
   exact ⟨by rw [seqIndex_of h0 h1,e],by omega,by omega,h1⟩
  ·rw [if_neg h1] at h;cases h
 ·rw [if_neg h0] at h
  by_cases h1:-(n:Int) ≤ i
  ·rw [if_pos h1] at h
   have e:(i + n).toNat=j:=Option.some.inj h
   exact ⟨by rw [seqIndex_neg (by omega) h1,e],by omega,h1,by omega⟩
  ·rw [if_neg h1] at h;cases h
theorem Yr {α:Type} {xs:List α} {i:Int} {v:α} (h:atI xs i=some v):∃ j,seqIndex? i xs.length=some j∧xs[j]? = some v∧j < xs.length∧-(xs.length:Int) ≤ i∧i < xs.length:=by
 unfold atI at h
 cases e:ixN xs.length i with
 | none=>rw [e] at h;cases h
 | some j=>
  rw [e] at h
  obtain ⟨h1,h2,h3,h4⟩:=Bv e
  exact ⟨j,h1,h,h2,h3,h4⟩
theorem yb {α:Type} {xs:List α} {j:Nat} {v:α} (h:xs[j]? = some v):atI xs (j:Int)=some v:=by
 have hj:j < xs.length:=(List.getElem?_eq_some_iff.mp h).1
 have e:ixN xs.length (j:Int)=some j:=by
  unfold ixN
  rw [if_pos (by omega),if_pos (by omega)];simp
 unfold atI;rw [e];exact h
noncomputable def cC (b:Expr):Prop:=∀ o i,subscripted b false o i=operate [o,i] (getItem o i)
noncomputable def IxR (X:Cx) (r:R2):Prop:=
 ∀ (value slice:Expr) (pins:List (Addr × Obj)) (s:Shared) (σ:St) (H:Hp) (x y:V) (v u:Value) (Q:VK),Inv X pins σ H s→Qc x v→Qc y u→r x y H Q →
  subscripted slice false v u=operate [v,u] (getItem v u)→wpAny (model X.prog X.w) X.A (subscriptTail value slice v u) (EP X pins σ Q) X.xe s
noncomputable def MtR (X:Cx) (id:String) (r:V→List V→Hp→VK→Prop):Prop:=
 ∀ (pins:List (Addr × Obj)) (s:Shared) (σ:St) (H:Hp) (x:V) (xs:List V) (v:Value) (us:List Value) (Q:VK),Inv X pins σ H s→Qc x v→Kc xs us→r x xs H Q →
  wpAny (model X.prog X.w) X.A (call (.builtin id) (v :: us)) (EP X pins σ Q) X.xe s
section
variable {X:Cx} {a b:Expr} {ta tb:TE} {pos:Pos}
theorem IxR.or {r r':R2} (h:IxR X r) (h':IxR X r'):IxR X (fun x y H Q=>r x y H Q∨r' x y H Q):=by
 intro value slice pins s σ H x y v u Q I rx ry q hs
 rcases q with q | q
 ·exact h value slice pins s σ H x y v u Q I rx ry q hs
 ·exact h' value slice pins s σ H x y v u Q I rx ry q hs
theorem MtR.or {id:String} {r r':V→List V→Hp→VK→Prop} (h:MtR X id r) (h':MtR X id r'):MtR X id (fun x xs H Q=>r x xs H Q∨r' x xs H Q):=by
 intro pins s σ H x xs v us Q I rx rs q
 rcases q with q | q
 ·exact h pins s σ H x xs v us Q I rx rs q
 ·exact h' pins s σ H x xs v us Q I rx rs q
theorem Qb {r:R2} (hr:IxR X r) (ha:PE X a ta) (hb:PE X b tb) (hs:cC b):PE X (.Subscript a b pos) (tOp r ta tb):=by
 intro pins s σ H Q I h
 exact Subscript_ (GH ha hb I h fun v u s2 x y H2 I2 rx ry q=>hr a b pins s2 σ H2 x y v u Q I2 rx ry q (hs _ _))
noncomputable def JG (K:PySem.W.Frag):R2:=fun x y H Q=>∃ p xs i v,x=.ref p∧y=.int i∧SqL K H p xs∧atI xs i=some v∧Q v H
noncomputable def IG (K:PySem.W.Frag):R2:=fun x y H Q=>∃ p xs i v,x=.ref p∧y=.int i∧SqT K H p xs∧atI xs i=some v∧Q v H
noncomputable def KG:R2:=fun x y H Q=>∃ z i c,x=.str z∧y=.int i∧z.length ≤ sizeLine∧atI z.cps.toList i=some c∧Q (.str ⟨#[c]⟩) H
theorem Dc:IxR X (JG X.K):=by
 intro value slice pins s σ H x y v u Q I rx ry h hs
 obtain ⟨p,xs,i,z,rfl,rfl,hq,he,q⟩:=h
 cases rx
 obtain ⟨t,rfl⟩:=ry
 obtain ⟨its,r,pl,hz⟩:=I.list hq
 obtain ⟨j,h1,h2,h3,h4,h5⟩:=Yr he
 obtain ⟨w,ew,rw'⟩:=r.get h2
 have hl:=r.length
 have hn:=Dl
 have fin:EP X pins σ Q w s:=⟨z,H,I,rw',q⟩
 by_cases h0:0 ≤ i
 ·have hj:i.toNat=j:=by
   rw [seqIndex_of h0 h5] at h1
   exact Option.some.inj h1
  exact item_listR pl.isList h0 (by omega) (by rw [hj];simpa using ew) fin hs
 ·have hj:(i + (its.toArray.size:Int)).toNat=j:=by
   rw [seqIndex_neg (by omega) h4] at h1
   rw [List.size_toArray,← hl]
   exact Option.some.inj h1
  exact subscriptTail_builtinR (x:=w) pl.isList.typeIs slot_list_getitem.lookup
   (wpAny_getItem_list_neg (Q:=fun r s'=>r=w∧EP X pins σ Q r s') pl.isList (by omega) (by rw [List.size_toArray] <;> omega) (by omega) (by rw [hj];simpa using ew) ⟨rfl,fin⟩) hs
theorem fc:IxR X (IG X.K):=by
 intro value slice pins s σ H x y v u Q I rx ry h hs
 obtain ⟨p,xs,i,z,rfl,rfl,hq,he,q⟩:=h
 cases rx
 obtain ⟨t,rfl⟩:=ry
 obtain ⟨its,r,pl,hz⟩:=I.tuple hq
 obtain ⟨j,h1,h2,h3,h4,h5⟩:=Yr he
 obtain ⟨w,ew,rw'⟩:=r.get h2
 have hl:=r.length
 have hn:=Dl
 have fin:EP X pins σ Q w s:=⟨z,H,I,rw',q⟩
 exact subscriptTail_builtinR (x:=w) pl.typeIs slot_tuple_getitem.lookup
  (getItem_tuple (j:=j) (Q:=fun r s'=>r=w∧EP X pins σ Q r s') pl (by omega) (by omega) (by rw [List.size_toArray,← hl];exact h1) (by simpa using ew) ⟨rfl,fin⟩) hs
theorem kx:IxR X KG:=by
 intro value slice pins s σ H x y v u Q I rx ry h hs
 obtain ⟨z,i,c,rfl,rfl,hz,he,q⟩:=h
 obtain ⟨t,rfl⟩:=rx
 obtain ⟨t',rfl⟩:=ry
 obtain ⟨j,h1,h2,h3,h4,h5⟩:=Yr he
 have hl:z.cps.toList.length=z.length:=by simp [Str.length]
 rw [hl] at h1 h4 h5
 have hn:=Dl
 exact tail_any (typeIs_str s z t) slot_str_getitem.lookup (getItem_str (c:=c) (by
  have e1:decide (i < -(2 ^ 63:Int))=false:=decide_eq_false (by omega)
  have e2:decide (i ≥ 2 ^ 63)=false:=decide_eq_false (by omega)
  rw [e1,e2,Bool.or_false]) (by rw [h1];simpa using h2) ⟨.str ⟨#[c]⟩,H,I.tok _,⟨_,rfl⟩,q⟩) hs
noncomputable def rIx (K:PySem.W.Frag):R2:=fun x y H Q=>JG K x y H Q∨IG K x y H Q∨KG x y H Q
theorem Zt (its:List Value) (n j:Nat) (u:Value):Obj.mapSeq (·.setIfInBounds j u) { cls:=.type "list",data:=.seq its.toArray n } = { cls:=.type "list",data:=.seq (its.set j u).toArray n }:=by
 simp [Obj.mapSeq]
theorem Inv.lst {pins:List (Addr × Obj)} {σ:St} {H:Hp} {s:Shared} {p:Addr} {xs:List V} (I:Inv X pins σ H s) (h:H p=some (.lst xs)) :
  ∃ (its:List Value) (n:Nat),Kc xs its∧s.heap.get? p=some { cls:=.type "list",data:=.seq its.toArray n }∧xs.length ≤ sizeLine:=by
 obtain ⟨z,its,n,r,e⟩:=I.hok p _ h
 exact ⟨its,n,r,e,z⟩
theorem Inv.lstUpd {pins:List (Addr × Obj)} {σ:St} {H:Hp} {s:Shared} {p:Addr} {xs ys:List V} {its its':List Value} {n n':Nat} {f:Obj→Obj} (I:Inv X pins σ H s) (h:H p=some (.lst xs))
  (ho:s.heap.get? p=some { cls:=.type "list",data:=.seq its.toArray n }) (hf:f { cls:=.type "list",data:=.seq its.toArray n } = { cls:=.type "list",data:=.seq its'.toArray n' }) (r:Kc ys its') (hz:ys.length ≤ sizeLine) (t:Nat) :
  Inv X pins σ (upd H p (.lst ys)) { s with heap:=s.heap.update p f,toks:=t }:=by
 have e:(s.heap.update p f).get? p=some { cls:=.type "list",data:=.seq its'.toArray n' }:=by
  rw [Heap.get?_update_self f ho (by rw [hf] <;> rfl),hf]
 refine I.write (x:=p) (e:=p) (by rw [h];trivial) (.inl rfl) (fun b u hb q=>(Heap.get?_update_other _ _ (Ne.symm hb)).trans q) ⟨_,e⟩ ?_
 exact ⟨hz,its',n',r,e⟩
noncomputable def sG:V→V→V→Hp→(Hp→Prop)→Prop:=fun o i v H Q=>∃ p xs k j,o=.ref p∧i=.int k∧H p=some (.lst xs)∧ixN xs.length k=some j∧Q (upd H p (.lst (xs.set j v)))
theorem Fs:xI X sG:=by
 intro pins s σ H o i v ov iv u Q I ro ri rv h
 obtain ⟨p,xs,k,j,rfl,rfl,hp,hj,q⟩:=h
 cases ro
 obtain ⟨t,rfl⟩:=ri
 obtain ⟨its,n,r,ho,hz⟩:=I.lst hp
 obtain ⟨h1,h2,h3,h4⟩:=Bv hj
 have hl:=r.length
 have hn:=Dl
 have I':Inv X pins σ (upd H p (.lst (xs.set j v))) { s with heap:=s.heap.update p (Obj.mapSeq (·.setIfInBounds j u)) }:=
  I.lstUpd hp ho (Zt its n j u) (r.set rv j) (by rw [List.length_set];exact hz) s.toks
 by_cases h0:0 ≤ k
 ·have hk:k.toNat=j:=by
   rw [seqIndex_of h0 h4] at h1
   exact Option.some.inj h1
  exact PySem.W.ki_setAt ho h0 (by omega) (by rw [List.size_toArray,← hl];exact h4) (by rw [hk];exact ⟨_,I',q⟩)
 ·have hk:(k + (its.toArray.size:Int)).toNat=j:=by
   rw [seqIndex_neg (by omega) h3] at h1
   rw [List.size_toArray,← hl]
   exact Option.some.inj h1
  exact PySem.W.ki_setBack ho (by omega) (by rw [List.size_toArray,← hl];exact h3) (by omega) (by rw [hk];exact ⟨_,I',q⟩)
theorem rp (lo hi:Option Int) (n:Nat):(sliceBounds lo hi none n).1=((HT.sIx n 0 lo:Nat):Int)∧(sliceBounds lo hi none n).2.1=((HT.sIx n n hi:Nat):Int)∧(sliceBounds lo hi none n).2.2=1:=by
 refine ⟨?_,?_,rfl⟩
 ·cases lo with
  | none=>simp [sliceBounds,HT.sIx]
  | some i=>
   simp only [sliceBounds,HT.sIx,Option.getD_none,show (1:Int) > 0 by decide,if_true]
   by_cases h:i < 0
   ·simp only [h,if_true] <;> omega
   ·simp only [h,if_false] <;> omega
 ·cases hi with
  | none=>simp [sliceBounds,HT.sIx]
  | some i=>
   simp only [sliceBounds,HT.sIx,Option.getD_none,show (1:Int) > 0 by decide,if_true]
   by_cases h:i < 0
   ·simp only [h,if_true] <;> omega
   ·simp only [h,if_false] <;> omega
theorem Lo (its:List Value) (lo hi:Option Int):slicePick its.toArray lo hi none=((its.drop (HT.sIx its.length 0 lo)).take (HT.sIx its.length its.length hi - HT.sIx its.length 0 lo)).toArray:=by
 obtain ⟨h1,h2,h3⟩:=rp lo hi its.toArray.size
 unfold slicePick
 rw [h1,h2,h3]
 simp only [sliceRange_one,pick_run,List.size_toArray] <;> rfl
noncomputable def nI (K:PySem.W.Frag):V→Option Int→Option Int→Hp→VK→Prop:=fun x lo hi H Q=>∃ a xs,x=.ref a∧SqL K H a xs∧∀ p,H p=none→Q (.ref p) (upd H p (.lst (Pq xs lo hi)))
theorem Uq:SlR X (nI X.K):=by
 intro pins s σ H x v vl vu lo hi sl Q I rx hs pl pu h
 obtain ⟨a,xs,rfl,hx,q⟩:=h
 cases rx
 obtain ⟨its,r,ht,hz⟩:=I.list hx
 have hlen:=r.length
 refine ⟨"list",_,slot_list_getitem.lookup,ht.isList.typeIs,?_⟩
 refine wpAny_getItem_list_slice ht.isList hs pl pu .none (by simp) ?_ (by rw [List.size_toArray] <;> omega)
 rw [Lo,← hlen]
 refine ⟨.ref s.heap.objs.size,_,I.laid (t':=s.toks) (o:=.lst (Pq xs lo hi)) (fun b ob q=>Heap.get?_push_of_some _ q) (Nat.le_refl _) ?_,rfl,q _ (I.hok.fresh (Nat.le_refl _))⟩
 exact ⟨Nat.le_trans (Zl xs lo hi) hz,_,0,(r.drop (HT.sIx xs.length 0 lo)).take (HT.sIx xs.length xs.length hi - HT.sIx xs.length 0 lo),Heap.get?_push_size _ rfl⟩
noncomputable def Yg:V→Bool
 | .non=>true
 | .bl _=>true
 | .int _=>true
 | .str _=>true
 | _=>false
noncomputable def eqV:V→V→Bool
 | .non,.non=>true
 | .bl a,.bl b=>a == b
 | .bl a,.int b=>(if a then 1 else 0) == b
 | .int a,.bl b=>a == (if b then 1 else 0)
 | .int a,.int b=>a == b
 | .str a,.str b=>a == b
 | _,_=>false
theorem UA {A:Around} {s:Shared} {y x:V} {u v:Value} (ry:Qc y u) (rx:Qc x v) (fy:Yg y=true) (fx:Yg x=true):SeqAt.EqAt A s u v (eqV y x):=by
 cases y with
 | non=>
  cases ry
  cases x with
  | non=>cases rx;exact SeqAt.EqAt.same _
  | bl b=>cases rx;exact SeqAt.EqAt.none_bool b
  | int b=>obtain ⟨t,rfl⟩:=rx;exact SeqAt.EqAt.none_int b t
  | str b=>obtain ⟨t,rfl⟩:=rx;exact SeqAt.EqAt.none_str b t
  | _=>exact absurd (show false=true from fx) Bool.false_ne_true
 | bl a=>
  cases ry
  cases x with
  | non=>cases rx;exact SeqAt.EqAt.bool_none a
  | bl b=>cases rx;exact SeqAt.EqAt.bool_bool a b
  | int b=>obtain ⟨t,rfl⟩:=rx;exact SeqAt.EqAt.bool_int a b t
  | str b=>obtain ⟨t,rfl⟩:=rx;exact SeqAt.EqAt.bool_str a b t
  | _=>exact absurd (show false=true from fx) Bool.false_ne_true
 | int a=>
  obtain ⟨t',rfl⟩:=ry
  cases x with
  | non=>cases rx;exact SeqAt.EqAt.int_none a t'
  | bl b=>cases rx;exact SeqAt.EqAt.int_bool a t' b
  | int b=>obtain ⟨t,rfl⟩:=rx;exact SeqAt.EqAt.int_int a t' b t
  | str b=>obtain ⟨t,rfl⟩:=rx;exact SeqAt.EqAt.int_str a t' b t
  | _=>exact absurd (show false=true from fx) Bool.false_ne_true
 | str a=>
  obtain ⟨t',rfl⟩:=ry
  cases x with
  | non=>cases rx;exact SeqAt.EqAt.str_none a t'
  | bl b=>cases rx;exact SeqAt.EqAt.str_bool a t' b
  | int b=>obtain ⟨t,rfl⟩:=rx;exact SeqAt.EqAt.str_int a t' b t
  | str b=>obtain ⟨t,rfl⟩:=rx;exact SeqAt.EqAt.str_str a t' b t
  | _=>exact absurd (show false=true from fx) Bool.false_ne_true
 | _=>exact absurd (show false=true from fy) Bool.false_ne_true
noncomputable def eqU (x:V) (u:Value):Bool:=match u with
 | .none=>eqV .non x
 | .bool b=>eqV (.bl b) x
 | .int i _=>eqV (.int i) x
 | .str z _=>eqV (.str z) x
 | _=>false
theorem gB {x y:V} {u:Value} (r:Qc y u) (f:Yg y=true):eqU x u=eqV y x:=by
 cases y with
 | non=>cases r;rfl
 | bl b=>cases r;rfl
 | int i=>obtain ⟨t,rfl⟩:=r;rfl
 | str z=>obtain ⟨t,rfl⟩:=r;rfl
 | _=>exact absurd (show false=true from f) Bool.false_ne_true
theorem ml {x:V}:∀ {xs:List V} {us:List Value},Kc xs us→xs.all Yg=true→us.any (eqU x)=xs.any fun y=>eqV y x
 | _,_,.nil,_=>rfl
 | y :: xs,u :: us,.cons r t,f=>by
  rw [List.all_cons,Bool.and_eq_true] at f
  rw [List.any_cons,List.any_cons,gB r f.1,ml t f.2]
theorem pj {A:Around} {s:Shared} {x:V} {v:Value} (rx:Qc x v) (fx:Yg x=true):∀ {xs:List V} {us:List Value},Kc xs us→xs.all Yg=true→∀ u ∈ us,SeqAt.EqAt A s u v (eqU x u)
 | _,_,.nil,_=>fun u hu=>by cases hu
 | y :: xs,u :: us,.cons r t,f=>fun u' hu=>by
  rw [List.all_cons,Bool.and_eq_true] at f
  rcases List.mem_cons.mp hu with rfl | hu
  ·rw [gB r f.1];exact UA r rx f.1 fx
  ·exact pj rx fx t f.2 u' hu
noncomputable def inV (x:V) (xs:List V):Bool:=xs.any fun y=>eqV y x
noncomputable def rIn (K:PySem.W.Frag) (neg:Bool):R2:=fun x y H Q=>∃ p xs,y=.ref p∧(SqL K H p xs∨SqT K H p xs)∧Yg x=true∧xs.all Yg=true∧Q (.bl (if neg then !inV x xs else inV x xs)) H
theorem Gh:OpR X (compareOp .In) (rIn X.K false):=by
 intro pins s σ H x y v u Q I rx ry h
 obtain ⟨p,xs,rfl,hq,fx,fs,q⟩:=h
 cases ry
 rcases hq with hq | hq
 ·obtain ⟨its,r,pl,hz⟩:=I.list hq
  refine SeqAt.in_listAt (eqU x) pl.isList (fun w hw=>pj rx fx r fs w (by simpa using hw)) ⟨.bl _,H,I,rfl,?_⟩
  rw [show its.toArray.any (eqU x)=its.any (eqU x) by simp,ml r fs]
  exact q
 ·obtain ⟨its,r,pl,hz⟩:=I.tuple hq
  refine SeqAt.in_tupleAt (eqU x) pl (fun w hw=>pj rx fx r fs w (by simpa using hw)) ⟨.bl _,H,I,rfl,?_⟩
  rw [show its.toArray.any (eqU x)=its.any (eqU x) by simp,ml r fs]
  exact q
theorem Dq:OpR X (compareOp .NotIn) (rIn X.K true):=by
 intro pins s σ H x y v u Q I rx ry h
 obtain ⟨p,xs,rfl,hq,fx,fs,q⟩:=h
 cases ry
 rcases hq with hq | hq
 ·obtain ⟨its,r,pl,hz⟩:=I.list hq
  refine SeqAt.notIn_listAt (eqU x) pl.isList (fun w hw=>pj rx fx r fs w (by simpa using hw)) ⟨.bl _,H,I,rfl,?_⟩
  rw [show its.toArray.any (eqU x)=its.any (eqU x) by simp,ml r fs]
  exact q
 ·obtain ⟨its,r,pl,hz⟩:=I.tuple hq
  refine SeqAt.notIn_tupleAt (eqU x) pl (fun w hw=>pj rx fx r fs w (by simpa using hw)) ⟨.bl _,H,I,rfl,?_⟩
  rw [show its.toArray.any (eqU x)=its.any (eqU x) by simp,ml r fs]
  exact q
theorem Vb:Th X (.builtin "len") (fun xs H Q=>∃ p ys,xs=[.ref p]∧(SqL X.K H p ys∨SqT X.K H p ys)∧Q (.int ys.length) H):=by
 intro pins s σ H xs us Q I r h
 obtain ⟨p,ys,rfl,hq,q⟩:=h
 obtain ⟨u,rfl,rx⟩:=qo r
 cases rx
 have hn:=Dl
 rcases hq with hq | hq
 ·obtain ⟨its,r',pl,hz⟩:=I.list hq
  have hlen:=r'.length
  exact Calls.call_len_list pl.isList (by simp only [List.size_toArray] <;> omega) ⟨.int ys.length,H,I.tok _,⟨s.toks + 1,by rw [List.size_toArray,hlen]⟩,q⟩
 ·obtain ⟨its,r',pl,hz⟩:=I.tuple hq
  have hlen:=r'.length
  exact len_tuple pl (by simp only [List.size_toArray] <;> omega) ⟨.int ys.length,H,I.tok _,⟨s.toks + 1,by rw [List.size_toArray,hlen]⟩,q⟩
theorem Up:Th X (.builtin "len") (fun xs H Q=>∃ z,xs=[.str z]∧z.length ≤ sizeLine∧Q (.int z.length) H):=by
 intro pins s σ H xs us Q I r h
 obtain ⟨z,rfl,hz,q⟩:=h
 obtain ⟨u,rfl,t,rfl⟩:=qo r
 have hn:=Dl
 exact len_str (by omega) ⟨.int z.length,H,I.tok _,⟨_,rfl⟩,q⟩
theorem Th.or {f:Value} {r r':List V→Hp→VK→Prop} (h:Th X f r) (h':Th X f r'):Th X f (fun xs H Q=>r xs H Q∨r' xs H Q):=by
 intro pins s σ H xs us Q I rs q
 rcases q with q | q
 ·exact h pins s σ H xs us Q I rs q
 ·exact h' pins s σ H xs us Q I rs q
theorem ze:Th X (.type "list") (fun xs H Q=>∃ p ys,xs=[.ref p]∧(SqL X.K H p ys∨SqT X.K H p ys)∧∀ l,H l=none→Q (.ref l) (upd H l (.lst ys))):=by
 intro pins s σ H xs us Q I r h
 obtain ⟨p,ys,rfl,hq,q⟩:=h
 obtain ⟨u,rfl,rx⟩:=qo r
 cases rx
 have fin:∀ (its:List Value),Kc ys its→ys.length ≤ sizeLine→∀ (h':Heap) (c':Nat),(∀ b o',s.heap.get? b=some o'→h'.get? b=some o') →
   h'.get? s.heap.objs.size=some { cls:=.type "list",dict:=none,data:=.seq its.toArray c',slots:=#[] }→EP X pins σ Q (.ref s.heap.objs.size) { s with heap:=h' }:=fun its r' hz h' c' kp e=>
  ⟨.ref s.heap.objs.size,_,I.laid (t':=s.toks) kp (Nat.le_refl _) (show Rc X.prog X.w _ h' _ (.lst ys) from ⟨hz,its,c',r',e⟩),rfl,q _ (I.hok.fresh (Nat.le_refl _))⟩
 rcases hq with hq | hq
 ·obtain ⟨its,r',pl,hz⟩:=I.list hq
  have hlen:=r'.length
  obtain ⟨o,ho,hc,n,hd⟩:=pl.isList
  exact call_list_seq p (.inl rfl) ho hc hd (fun h' c' kp e=>fin its r' hz h' c' kp e) (by simp only [List.size_toArray] <;> omega)
 ·obtain ⟨its,r',pl,hz⟩:=I.tuple hq
  have hlen:=r'.length
  obtain ⟨o,ho,hc,n,hd⟩:=pl
  exact call_list_seq p (.inr rfl) ho hc hd (fun h' c' kp e=>fin its r' hz h' c' kp e) (by simp only [List.size_toArray] <;> omega)
noncomputable def tyV (K:PySem.W.Frag) (T:String) (x:V) (H:Hp):Prop:=match x with
 | .str _=>T = "str"
 | .int _=>T = "int"
 | .ref p=>(T = "list" ∧ ∃ xs,SqL K H p xs)∨(T = "tuple" ∧ ∃ o,K.lookup p=some o∧o.cls=.type "tuple" ∧ o.dict=none) ∨
   (T = "dict" ∧ ((∃ kvs,H p=some (.dK kvs))∨∃ kvs,H p=some (.dT kvs)))∨(T = "set" ∧ ∃ S n,H p=some (.set S n))
 | _=>False
theorem KA {pins:List (Addr × Obj)} {σ:St} {H:Hp} {s:Shared} {T:String} {x:V} {v:Value} (I:Inv X pins σ H s) (r:Qc x v) (ty:tyV X.K T x H) :
  s.TypeIs v T∧∀ a,v=.ref a→∃ ob,s.heap.get? a=some ob∧ob.dict=none:=by
 cases x with
 | str z=>
  obtain ⟨t,rfl⟩:=r
  cases (show T = "str" from ty)
  exact ⟨typeIs_str s z t,fun _ e=>nomatch e⟩
 | int i=>
  obtain ⟨t,rfl⟩:=r
  cases (show T = "int" from ty)
  exact ⟨typeIs_int s i t,fun _ e=>nomatch e⟩
 | ref p=>
  cases r
  rcases ty with ⟨rfl,xs,hq⟩ | ⟨rfl,o,hk,hc,hd⟩ | ⟨rfl,hk⟩ | ⟨rfl,S,n,hk⟩
  ·obtain ⟨its,_,pl,_⟩:=I.list hq
   refine ⟨pl.isList.typeIs,fun a e=>?_⟩
   cases e
   obtain ⟨o,n,e,c,hd,_⟩:=pl
   exact ⟨o,e,hd⟩
  ·refine ⟨⟨o,I.kIn p o hk,hc⟩,fun a e=>?_⟩
   cases e
   exact ⟨o,I.kIn _ o hk,hd⟩
  ·have z:∃ o,s.heap.get? p=some o∧o.ExactDict:=by
    rcases hk with ⟨kvs,hk⟩ | ⟨kvs,hk⟩
    ·obtain ⟨_,_,_,_,o,_,_,e,ex,_⟩:=I.hok p _ hk
     exact ⟨o,e,ex⟩
    ·obtain ⟨_,_,_,_,o,_,_,e,ex,_⟩:=I.hok p _ hk
     exact ⟨o,e,ex⟩
   obtain ⟨o,e,ex⟩:=z
   refine ⟨⟨o,e,ex.1⟩,fun a e2=>?_⟩
   cases e2
   exact ⟨o,e,ex.2.1⟩
  ·obtain ⟨o,_,_,_,e,ex,_⟩:=I.hok p _ hk
   refine ⟨⟨o,e,ex.1⟩,fun a e2=>?_⟩
   cases e2
   exact ⟨o,e,ex.2.1⟩
 | _=>exact False.elim ty
noncomputable def ZH (K:PySem.W.Frag) (T:String) (r:V→List V→Hp→VK→Prop) (to:TE):TE:=fun σ H Q=>to σ H fun x H1=>tyV K T x H1∧r x [] H1 Q
noncomputable def tBM (K:PySem.W.Frag) (T:String) (r:V→List V→Hp→VK→Prop) (to:TE) (t:TA):TE:=fun σ H Q=>to σ H fun x H1=>tyV K T x H1∧t σ H1 fun xs H2=>r x xs H2 Q
variable {o e:Expr} {es:List Expr} {to:TE} {t:TA} {name:Str} {apos cpos:Pos} {T id:String} {r:V→List V→Hp→VK→Prop}
theorem JF (pa:PlainAttrs T) (slot:Slot T name id) (hty:typeOf (.builtin id)=pure (.type "method_descriptor")) (hm:MtR X id r) (ho:PE X o to)
  (hbase:attributeBase o name X.env (eval o X.env)=eval o X.env:=by rfl) (hline:(apos.endLine == cpos.line)=true:=by rfl):PE X (.Call (.Attribute o name apos) [] [] cpos) (ZH X.K T r to):=by
 intro pins s σ H Q I h
 refine wpAny_Call_method0_late hbase hline (thn (ho pins s σ H _ I h) fun v s1 hZ1=>?_)
 obtain ⟨x,H1,I1,r1,ty,q1⟩:=hZ1
 obtain ⟨h1,h2⟩:=KA I1 r1 ty
 exact ⟨T,id,pa,slot,hty,h1,h2,Calls.callWith_builtin rfl (PySem.evalArgs_none (hm pins s1 σ H1 x [] v [] Q I1 r1 .nil q1))⟩
theorem Ol (pa:PlainAttrs T) (slot:Slot T name id) (hty:typeOf (.builtin id)=pure (.type "method_descriptor")) (hm:MtR X id r) (ho:PE X o to) (ha:PA X (e :: es) t)
  (hbase:attributeBase o name X.env (eval o X.env)=eval o X.env:=by rfl)
  (hfew:((backTo cpos (starEach (e :: es) X.env)).all (fun x=>!x.1) && (backToKw cpos (keywordEach [] X.env)).all (fun x=>x.1.isSome)
   && decide ((e :: es).length + ([]:List Keyword).length + (if ([]:List Keyword).isEmpty then 0 else 1) < 30))=true:=by rfl)
  (hline:(apos.endLine == cpos.line)=true:=by rfl) (hs:starEach (e :: es) X.env=(false,eval e X.env) :: starEach es X.env:=by rfl) (hplain:(backTo cpos (starEach es X.env)).any (·.1)=false:=by rfl) :
  PE X (.Call (.Attribute o name apos) (e :: es) [] cpos) (tBM X.K T r to t):=by
 intro pins s σ H Q I h
 refine wpAny_Call_method_late hbase hfew hline rfl (thn (ho pins s σ H _ I h) fun v s1 hZ1=>?_)
 obtain ⟨x,H1,I1,r1,ty,q1⟩:=hZ1
 obtain ⟨h1,h2⟩:=KA I1 r1 ty
 refine ⟨T,id,pa,slot,hty,h1,h2,?_⟩
 have hA:=ha cpos pins s1 σ H1 _ I1 q1
 rw [hs] at hA ⊢
 refine Calls.callWith_builtin (by show (false || (backTo cpos (starEach es X.env)).any (·.1))=false;rw [hplain] <;> rfl) (Calls.evalArgs_plain ?_)
 exact thn hA fun us s2 ⟨vs,H2,I2,r2,q2⟩=>hm pins s2 σ H2 x vs v us Q I2 r1 r2 q2
end
end L2
namespace L2
open PySem PySem.Spec PyProof.Rows
noncomputable def MtM (X:Cx) (id:String) (r:V→List V→Hp→VK→Prop):Prop:=
 ∀ (pins:List (Addr × Obj)) (s:Shared) (σ:St) (H:Hp) (x:V) (xs:List V) (v:Value) (us:List Value) (Q:VK),Inv X pins σ H s→Qc x v→Kc xs us→r x xs H Q →
  wpAny (model X.prog X.w) X.A (call (.builtin id) (v :: us)) (EP X pins σ Q) X.xe s
theorem Kc.one:∀ {x:V} {us:List Value},Kc [x] us→∃ u,us=[u]∧Qc x u
 | _,_,.cons r .nil=>⟨_,rfl,r⟩
theorem Kc.two:∀ {x y:V} {us:List Value},Kc [x,y] us→∃ u v,us=[u,v]∧Qc x u∧Qc y v
 | _,_,_,.cons r (.cons q .nil)=>⟨_,_,rfl,r,q⟩
theorem Kc.zero:∀ {us:List Value},Kc [] us→us=[]
 | _,.nil=>rfl
theorem Kc.dropLast {xs:List V} {us:List Value} (h:Kc xs us):Kc xs.dropLast us.dropLast:=by
 induction h with
 | nil=>exact .nil
 | cons r t ih=>
  cases t with
  | nil=>exact .nil
  | cons q t'=>exact .cons r ih
theorem Kc.eraseIdx:∀ {xs:List V} {us:List Value} (i:Nat),Kc xs us→Kc (xs.eraseIdx i) (us.eraseIdx i)
 | _,_,_,.nil=>.nil
 | _,_,0,.cons _ t=>t
 | _,_,i + 1,.cons r t=>.cons r (Kc.eraseIdx i t)
theorem Kc.reverse {xs:List V} {us:List Value} (h:Kc xs us):Kc xs.reverse us.reverse:=by
 induction h with
 | nil=>exact .nil
 | cons r t ih=>rw [List.reverse_cons,List.reverse_cons];exact Kc.append ih (.cons r .nil)
section
variable {X:Cx} {pins:List (Addr × Obj)} {σ:St} {H:Hp} {s:Shared} {l b:Addr} {xs ys zs:List V}
theorem Inv.lset {its its':List Value} {n:Nat} {f:Array Value→Array Value} {t':Nat} (I:Inv X pins σ H s) (hH:H l=some (.lst xs))
  (e:s.heap.get? l=some { cls:=.type "list",data:=.seq its.toArray n }) (hf:f its.toArray=its'.toArray) (hv:Kc ys its') (hz:ys.length ≤ sizeLine) :
  Inv X pins σ (upd H l (.lst ys)) { s with heap:=s.heap.update l (Obj.mapSeq f),toks:=t' }:=by
 have q:=PySem.IsL.update e f
 rw [hf] at q
 refine I.write (x:=l) (e:=l) (by rw [hH];exact trivial) (.inl rfl) (fun b' u hb hu=>(Heap.get?_update_other s.heap (Obj.mapSeq f) (Ne.symm hb)).trans hu) ⟨_,q⟩ ?_
 exact ⟨hz,its',_,hv,q⟩
theorem Inv.lnew {its:List Value} {t':Nat} (I:Inv X pins σ H s) (hv:Kc ys its) (hz:ys.length ≤ sizeLine) :
  Inv X pins σ (upd H s.heap.objs.size (.lst ys)) { s with heap:=s.heap.push { cls:=.type "list",data:=.seq its.toArray },toks:=t' }:=
 I.laid (fun _ _ q=>Heap.get?_push_of_some _ q) (Nat.le_refl _) ⟨hz,its,0,hv,Heap.get?_push_size _ rfl⟩
theorem Inv.fresh (I:Inv X pins σ H s):H s.heap.objs.size=none:=I.hok.fresh (Nat.le_refl _)
theorem Inv.lstM (I:Inv X pins σ H s) (hH:H l=some (.lst xs)):xs.length ≤ sizeLine∧∃ (its:List Value) (n:Nat),Kc xs its∧xs.length=its.length∧s.heap.get? l=some { cls:=.type "list",data:=.seq its.toArray n }:=by
 obtain ⟨z,its,n,r,e⟩:=I.hok l _ hH
 exact ⟨z,its,n,r,r.length,e⟩
end
section
variable {X:Cx}
noncomputable def Jx:V→List V→Hp→VK→Prop:=fun x vs H Q=>∃ l xs y,x=.ref l∧vs=[y]∧H l=some (.lst xs)∧xs.length < sizeLine∧Q .non (upd H l (.lst (xs ++ [y])))
theorem jg:MtM X "list.append" Jx:=by
 intro pins s σ H x vs v us Q I rx rv h
 obtain ⟨l,xs,y,rfl,rfl,hH,hz,q⟩:=h
 cases rx
 obtain ⟨u,rfl,ru⟩:=rv.one
 obtain ⟨z,its,n,r,hl,e⟩:=I.lstM hH
 refine call_meets F.slot_list_append ⟨_,e,rfl⟩ F.entry_list_append (F.args_list_append_2 _ _) (PySem.list_append l its.toArray n u (by rw [List.size_toArray];omega)) ⟨e,?_⟩
 refine ⟨.non,_,I.lset (its':=its ++ [u]) hH e (by simp) (r.append (.cons ru .nil)) ?_,rfl,q⟩
 rw [List.length_append,List.length_singleton]
 omega
noncomputable def ZB:V→List V→Hp→VK→Prop:=fun x vs H Q=>∃ l b xs zs,x=.ref l∧vs=[.ref b]∧H l=some (.lst xs)∧H b=some (.lst zs)∧xs.length + zs.length ≤ sizeLine∧Q .non (upd H l (.lst (xs ++ zs)))
noncomputable def MI:V→List V→Hp→VK→Prop:=fun x vs H Q=>∃ l xs y,x=.ref l∧vs=[]∧H l=some (.lst xs)∧xs[xs.length - 1]? = some y∧Q y (upd H l (.lst xs.dropLast))
noncomputable def zF:V→List V→Hp→VK→Prop:=fun x vs H Q=>∃ l xs i k y,x=.ref l∧vs=[.int i]∧H l=some (.lst xs)∧-(2 ^ 63) ≤ i∧i < 2 ^ 63∧seqIndex? i xs.length=some k∧xs[k]? = some y∧Q y (upd H l (.lst (xs.eraseIdx k)))
noncomputable def Vs:V→List V→Hp→VK→Prop:=fun x vs H Q=>∃ l xs,x=.ref l∧vs=[]∧H l=some (.lst xs)∧Q .non (upd H l (.lst xs.reverse))
theorem iu:MtM X "list.reverse" Vs:=by
 intro pins s σ H x vs v us Q I rx rv h
 obtain ⟨l,xs,rfl,rfl,hH,q⟩:=h
 cases rx
 have hus:=rv.zero
 subst hus
 obtain ⟨z,its,n,r,hl,e⟩:=I.lstM hH
 refine call_meets F.slot_list_reverse ⟨_,e,rfl⟩ F.entry_list_reverse (F.args_list_reverse_1 _) (AutoSeq1.list_reverse_list_0 l its.toArray n (by rw [List.size_toArray];omega)) ⟨e,?_⟩
 refine ⟨.non,_,I.lset (its':=its.reverse) hH e (by simp) r.reverse ?_,rfl,q⟩
 rw [List.length_reverse]
 omega
noncomputable def GF:V→List V→Hp→VK→Prop:=fun x vs H Q=>∃ l xs,x=.ref l∧vs=[]∧H l=some (.lst xs)∧Q .non (upd H l (.lst []))
noncomputable def oI:R2:=fun x y H Q=>∃ l b xs zs,x=.ref l∧y=.ref b∧H l=some (.lst xs)∧H b=some (.lst zs)∧xs.length + zs.length ≤ sizeLine∧∀ p,H p=none→Q (.ref p) (upd H p (.lst (xs ++ zs)))
theorem NA:OpR X (binaryOp .Add) oI:=by
 intro pins s σ H x y v u Q I rx ry h
 obtain ⟨l,b,xs,zs,rfl,rfl,hH,hB,hz,q⟩:=h
 cases rx
 cases ry
 obtain ⟨z,its,n,r,hl,e⟩:=I.lstM hH
 obtain ⟨z2,its2,n2,r2,hl2,e2⟩:=I.lstM hB
 refine PySem.P.add_list e e2 ?_ (by rw [List.size_toArray,List.size_toArray];omega)
 have ea:its.toArray ++ its2.toArray=(its ++ its2).toArray:=by simp
 rw [ea]
 exact ⟨.ref _,_,I.lnew (t':=s.toks) (r.append r2) (by rw [List.length_append];omega),rfl,q _ I.fresh⟩
noncomputable def OI:R2:=fun x y H Q=>∃ l k xs,x=.ref l∧y=.int k∧H l=some (.lst xs)∧-(2 ^ 63) ≤ k∧k < 2 ^ 63∧xs.length * k.toNat ≤ sizeLine ∧
 ∀ p,H p=none→Q (.ref p) (upd H p (.lst (List.replicate k.toNat xs).flatten))
end
section
variable {prog:Program} {w:World} {A:Around} {E:Value→Shared→Prop} {s:Shared}
end
section
variable {X:Cx}
end
end L2
namespace L2
open PySem PySem.Spec PyProof.Rows
section
variable {κ:Type} [DecidableEq κ]
noncomputable def Zh (kvs:List (κ × V)) (k:κ):Option V:=(kvs.find? fun kv=>decide (kv.1=k)).map (·.2)
noncomputable def Jm (kvs:List (κ × V)) (k:κ) (v:V):List (κ × V):=
 if (kvs.any fun kv=>decide (kv.1=k))=true then kvs.map (fun kv=>if kv.1=k then (kv.1,v) else kv) else kvs ++ [(k,v)]
noncomputable def Mp (kvs:List (κ × V)) (k:κ):List (κ × V):=kvs.filter fun kv=>decide (kv.1 ≠ k)
theorem el {p:κ × V} {r:List (κ × V)} {k:κ} (e:p.1=k):Zh (p :: r) k=some p.2:=by simp [Zh,List.find?_cons,e]
theorem Wk {p:κ × V} {r:List (κ × V)} {k:κ} (e:¬ p.1=k):Zh (p :: r) k=Zh r k:=by simp [Zh,List.find?_cons,e]
theorem Ds (k:κ):∀ kvs:List (κ × V),(kvs.any fun kv=>decide (kv.1=k))=(Zh kvs k).isSome
 | []=>rfl
 | p :: r=>by
  rw [List.any_cons]
  by_cases e:p.1=k
  ·simp only [el e,decide_eq_true e,Bool.true_or,Option.isSome_some]
  ·rw [Wk e,decide_eq_false e,Bool.false_or];exact Ds k r
theorem Vl (kvs:List (κ × V)) (k:κ) (v:V):(Jm kvs k v).length ≤ kvs.length + 1:=by
 unfold Jm
 split
 ·rw [List.length_map];omega
 ·rw [List.length_append,List.length_cons,List.length_nil];omega
theorem On.isSome_eq {o:Option V} {u:Option Value} (r:On o u):o.isSome=u.isSome:=by
 cases o with
 | none=>cases u with
  | none=>rfl
  | some _=>exact (show False from r).elim
 | some _=>cases u with
  | none=>exact (show False from r).elim
  | some _=>rfl
theorem On.getD {o:Option V} {u:Option Value} {d:V} {d':Value} (r:On o u) (rd:Qc d d'):Qc (o.getD d) (u.getD d'):=by
 cases o with
 | none=>cases u with
  | none=>exact rd
  | some _=>exact (show False from r).elim
 | some _=>cases u with
  | none=>exact (show False from r).elim
  | some _=>exact r
theorem KV.val {kvs:List (κ × V)} {vs:List (κ × Value)} (r:KV kvs vs) (k:κ):On (Zh kvs k) (valueAt vs k):=by
 unfold KV at r
 induction r with
 | nil=>exact True.intro
 | @cons p q ps qs h t ih=>
  obtain ⟨h1,h2⟩:=h
  by_cases e:p.1=k
  ·have e':q.1=k:=h1.symm.trans e
   have b:valueAt (q :: qs) k=some q.2:=by simp [valueAt,List.find?_cons,e']
   rw [el e,b];exact h2
  ·have e':¬ q.1=k:=fun z=>e (h1.trans z)
   have b:valueAt (q :: qs) k=valueAt qs k:=by simp [valueAt,List.find?_cons,e']
   rw [Wk e,b];exact ih
theorem KV.any {kvs:List (κ × V)} {vs:List (κ × Value)} (r:KV kvs vs) (k:κ):(kvs.any fun kv=>decide (kv.1=k))=vs.any fun kv=>decide (kv.1=k):=by
 unfold KV at r
 induction r with
 | nil=>rfl
 | cons h t ih=>rw [List.any_cons,List.any_cons,ih,h.1]
theorem KV.repl {kvs:List (κ × V)} {vs:List (κ × Value)} (r:KV kvs vs) (k:κ) {y:V} {u:Value} (ry:Qc y u) :
  KV (kvs.map fun kv=>if kv.1=k then (kv.1,y) else kv) (vs.map fun kv=>if kv.1=k then (kv.1,u) else kv):=by
 unfold KV at r ⊢
 induction r with
 | nil=>exact .nil
 | @cons p q ps qs h t ih=>
  rw [List.map_cons,List.map_cons]
  refine .cons ?_ ih
  obtain ⟨h1,h2⟩:=h
  by_cases e:p.1=k
  ·rw [if_pos e,if_pos (h1.symm.trans e)];exact ⟨h1,ry⟩
  ·rw [if_neg e,if_neg (fun z=>e (h1.trans z))];exact ⟨h1,h2⟩
theorem KV.put {kvs:List (κ × V)} {vs:List (κ × Value)} (r:KV kvs vs) (k:κ) {y:V} {u:Value} (ry:Qc y u):KV (Jm kvs k y) (stored vs k u):=by
 unfold Jm stored
 rw [r.any k]
 by_cases e:(vs.any fun kv=>decide (kv.1=k))=true
 ·rw [if_pos e,if_pos e];exact r.repl k ry
 ·rw [if_neg e,if_neg e];exact Paired.snoc r ⟨rfl,ry⟩
theorem KV.drop {kvs:List (κ × V)} {vs:List (κ × Value)} (r:KV kvs vs) (k:κ):KV (Mp kvs k) (without vs k):=by
 unfold KV at r ⊢
 unfold Mp without
 induction r with
 | nil=>exact .nil
 | @cons p q ps qs h t ih=>
  obtain ⟨h1,h2⟩:=h
  rw [List.filter_cons,List.filter_cons]
  by_cases e:p.1=k
  ·have a:¬ decide (p.1 ≠ k)=true:=by simp [e]
   have b:¬ decide (q.1 ≠ k)=true:=by simp [h1.symm.trans e]
   rw [if_neg a,if_neg b];exact ih
  ·have e':¬ q.1=k:=fun z=>e (h1.trans z)
   have a:decide (p.1 ≠ k)=true:=by simp [e]
   have b:decide (q.1 ≠ k)=true:=by simp [e']
   rw [if_pos a,if_pos b];exact .cons ⟨h1,h2⟩ ih
theorem KV.length {kvs:List (κ × V)} {vs:List (κ × Value)} (r:KV kvs vs):kvs.length=vs.length:=Paired.length r
end
theorem qA {P:Program} {w:World} {k:Key} {u:Value} (r:Qc (kV k) u):(vd P w).is k u=true:=by
 cases k with
 | inl i=>obtain ⟨t,e⟩:=(show ∃ t,u=Value.int i t from r);subst e;exact Jr P w i t
 | inr x=>obtain ⟨t,e⟩:=(show ∃ t,u=Value.str x t from r);subst e;exact Sr P w x t
theorem Yp {P:Program} {w:World}:∀ {ks:List Key} {us:List Value},Kc (ks.map kV) us→ItemsAre (vd P w) ks us
 | [],_,r=>by rw [List.map_nil] at r;cases r;exact .nil
 | k :: ks,_,r=>by
  rw [List.map_cons] at r
  cases r with
  | cons h t=>exact .cons (qA h) (Yp t)
noncomputable abbrev KT (H:Hp):List (List Key × V)→List (List Key × Addr × Value)→Prop:=Paired fun p q=>p.1=q.1∧H q.2.1=some (.tup (p.1.map kV))∧Qc p.2 q.2.2
theorem KT.val {H:Hp} {kvs:List (List Key × V)} {xs:List (List Key × Addr × Value)} (r:KT H kvs xs) (k:List Key):On (Zh kvs k) ((atKey xs k).map (·.2)):=by
 induction r with
 | nil=>exact True.intro
 | @cons p q ps qs h t ih=>
  obtain ⟨h1,_,h2⟩:=h
  by_cases e:p.1=k
  ·have e':q.1=k:=h1.symm.trans e
   have b:atKey (q :: qs) k=some q.2:=by simp [atKey,List.find?_cons,e']
   rw [el e,b];exact h2
  ·have e':¬ q.1=k:=fun z=>e (h1.trans z)
   have b:atKey (q :: qs) k=atKey qs k:=by simp [atKey,List.find?_cons,e']
   rw [Wk e,b];exact ih
theorem KT.repl {H:Hp} {kvs:List (List Key × V)} {xs:List (List Key × Addr × Value)} (r:KT H kvs xs) (k:List Key) {y:V} {u:Value} (ry:Qc y u) :
  KT H (kvs.map fun kv=>if kv.1=k then (kv.1,y) else kv) (xs.map (putAt k u)):=by
 induction r with
 | nil=>exact .nil
 | @cons p q ps qs h t ih=>
  rw [List.map_cons,List.map_cons]
  refine .cons ?_ ih
  obtain ⟨h1,h2,h3⟩:=h
  unfold putAt
  by_cases e:p.1=k
  ·rw [if_pos e,if_pos (h1.symm.trans e)];exact ⟨h1,h2,ry⟩
  ·rw [if_neg e,if_neg (fun z=>e (h1.trans z))];exact ⟨h1,h2,h3⟩
theorem KT.put {H:Hp} {kvs:List (List Key × V)} {xs:List (List Key × Addr × Value)} (r:KT H kvs xs) (k:List Key) {b:Addr} {y:V} {u:Value} (hb:H b=some (.tup (k.map kV))) (ry:Qc y u) :
  KT H (Jm kvs k y) (storedH xs k b u):=by
 have e:(kvs.any fun kv=>decide (kv.1=k))=(atKey xs k).isSome:=by
  rw [Ds,(r.val k).isSome_eq,Option.isSome_map]
 unfold Jm storedH
 rw [e]
 by_cases q:(atKey xs k).isSome=true
 ·rw [if_pos q,if_pos q];exact r.repl k ry
 ·rw [if_neg q,if_neg q];exact Paired.snoc r ⟨rfl,hb,ry⟩
theorem KT.keeps {H H':Hp} {kvs:List (List Key × V)} {xs:List (List Key × Addr × Value)} (r:KT H kvs xs) (ht:∀ b ys,H b=some (.tup ys)→H' b=some (.tup ys)):KT H' kvs xs:=
 Paired.mapP r fun _ _ z=>⟨z.1,ht _ _ z.2.1,z.2.2⟩
section
variable {P:Program} {w:World} {H:Hp} {h:Heap} {a:Addr}
theorem fG {u:HO} (ok:HOk P w H h) (e:Rd H a u):Rc P w H h a u:=e.ok ok
theorem wz {kvs:List (Key × V)} (ok:HOk P w H h) (e:Rd H a (.dK kvs)):kvs.length ≤ sizeLine∧(a == sysModules)=false∧∃ vs,KV kvs vs∧h.DictOf (vd P w) a vs:=
 show Rc P w H h a (.dK kvs) from fG ok e
theorem xH {kvs:List (Key × V)} (ok:HOk P w H h) (e:H a=some (.dK kvs)):kvs.length ≤ sizeLine∧(a == sysModules)=false∧∃ vs,KV kvs vs∧h.DictOf (vd P w) a vs:=wz ok (.inl e)
theorem Np {ks:List Key} (ok:HOk P w H h) (e:H a=some (.tup (ks.map kV))):(tupleKind (vd P w)).is h ks a:=by
 obtain ⟨_,its,r,o,h1,h2,n,h3⟩:=(show Rc P w H h a (.tup (ks.map kV)) from ok a _ e)
 exact ⟨o,its.toArray,n,h1,h2,h3,by simpa using Yp r⟩
theorem uz {kvs:List (List Key × V)} (ok:HOk P w H h) (e:Rd H a (.dT kvs)):kvs.length ≤ sizeLine∧(a == sysModules)=false ∧
  ∃ xs,KT H kvs xs∧h.DictOfH (tupleKind (vd P w)) a xs:=by
 obtain ⟨z,y,xs,r,o,es,ep,h1,h2,h3,h4,h5⟩:=(show Rc P w H h a (.dT kvs) from fG ok e)
 refine ⟨z,y,xs,r,o,es,ep,h1,h2,h3,h4,fun x hx=>?_,h5⟩
 have all:∀ {l:List (List Key × V)} {m:List (List Key × Addr × Value)},KT H l m→∀ x ∈ m,(tupleKind (vd P w)).is h x.1 x.2.1:=by
  intro l m q
  induction q with
  | nil=>intro x hx;exact nomatch hx
  | @cons p q ps qs hq t ih=>
   intro x hx
   rcases List.mem_cons.mp hx with e | hx
   ·subst e
    exact Np ok (by rw [← hq.1];exact hq.2.1)
   ·exact ih x hx
 exact all r x hx
theorem nF {kvs:List (List Key × V)} (ok:HOk P w H h) (e:H a=some (.dT kvs)):kvs.length ≤ sizeLine∧(a == sysModules)=false ∧
  ∃ xs,KT H kvs xs∧h.DictOfH (tupleKind (vd P w)) a xs:=uz ok (.inl e)
end
noncomputable def Xm (H:Hp) (a:Addr) (y:V) (r:Option V):Prop:=
 (∃ kvs k,Rd H a (.dK kvs)∧y=kV k∧r=Zh kvs k)∨∃ kvs k b,Rd H a (.dT kvs)∧y=.ref b∧H b=some (.tup (k.map kV))∧r=Zh kvs k
noncomputable def vx (H:Hp) (a:Addr) (y v:V) (H':Hp):Prop:=
 (∃ kvs k,H a=some (.dK kvs)∧y=kV k∧kvs.length < sizeLine∧H'=upd H a (.dK (Jm kvs k v))) ∨
 ∃ kvs k b,H a=some (.dT kvs)∧y=.ref b∧H b=some (.tup (k.map kV))∧kvs.length < sizeLine∧H'=upd H a (.dT (Jm kvs k v))
theorem Xm.k {H:Hp} {a:Addr} {kvs:List (Key × V)} {k:Key} (e:H a=some (.dK kvs)):Xm H a (kV k) (Zh kvs k):=.inl ⟨kvs,k,.inl e,rfl,rfl⟩
theorem Xm.t {H:Hp} {a b:Addr} {kvs:List (List Key × V)} {k:List Key} (e:H a=some (.dT kvs)) (eb:H b=some (.tup (k.map kV))):Xm H a (.ref b) (Zh kvs k):=.inr ⟨kvs,k,b,.inl e,rfl,eb,rfl⟩
theorem vx.k {H:Hp} {a:Addr} {kvs:List (Key × V)} {k:Key} {v:V} (e:H a=some (.dK kvs)) (hl:kvs.length < sizeLine):vx H a (kV k) v (upd H a (.dK (Jm kvs k v))):=.inl ⟨kvs,k,e,rfl,hl,rfl⟩
theorem vx.t {H:Hp} {a b:Addr} {kvs:List (List Key × V)} {k:List Key} {v:V} (e:H a=some (.dT kvs)) (eb:H b=some (.tup (k.map kV))) (hl:kvs.length < sizeLine) :
  vx H a (.ref b) v (upd H a (.dT (Jm kvs k v))):=.inr ⟨kvs,k,b,e,rfl,eb,hl,rfl⟩
section
variable {X:Cx} {pins:List (Addr × Obj)} {σ:St} {H:Hp} {s:Shared} {a:Addr} {y v:V} {u r:Value} {o:Option V} {A:Around} {E:Value→Shared→Prop}
theorem Inv.big (I:Inv X pins σ H s):sysModules < s.heap.objs.size:=by
 have h:mainGlobals < s.heap.objs.size:=(I.mod.glob.keeps I.bk).lt
 exact Nat.lt_trans (by decide) h
theorem vw {Q:Value→Shared→Prop} (hu:A.units + 1 < cLine) (I:Inv X pins σ H s) (g:Xm H a y (some v)) (ry:Qc y u) (h:∀ w' s',Inv X pins σ H s'→Qc v w'→Q w' s') :
  wpAny (model X.prog X.w) A (getItem (.ref a) u) Q E s:=by
 rcases g with ⟨kvs,k,e,ey,l⟩ | ⟨kvs,k,b,e,ey,eb,l⟩
 ·subst ey
  obtain ⟨z,hd,vs,rel,dd⟩:=wz I.hok e
  obtain ⟨w',hw,rw'⟩:=On.some_of (v:=v) (o:=valueAt vs k) (by rw [l];exact rel.val k)
  exact wpAny_getItem_of (qA ry) dd.mapOf hw (h w' _ (I.tok _) rw')
 ·subst ey
  cases (show u=Value.ref b from ry)
  obtain ⟨z,hd,xs,rel,dd⟩:=uz I.hok e
  obtain ⟨w',hw,rw'⟩:=On.some_of (v:=v) (o:=(atKey xs k).map (·.2)) (by rw [l];exact rel.val k)
  obtain ⟨p,hp,hp2⟩:=Option.map_eq_some_iff.mp hw
  refine wpAny_getItem_heap (tupleKind_room_in1 hu) (Np I.hok eb) dd hp ?_
  rw [hp2]
  exact h w' _ (I.tok _) rw'
theorem AB {Q:Value→Shared→Prop} (hu:A.units + 1 < cLine) (I:Inv X pins σ H s) (g:Xm H a y o) (ry:Qc y u) (h:∀ s',Inv X pins σ H s'→Q (.bool (!o.isSome)) s') :
  wpAny (model X.prog X.w) A (compareOp .NotIn u (.ref a)) Q E s:=by
 rcases g with ⟨kvs,k,e,ey,l⟩ | ⟨kvs,k,b,e,ey,eb,l⟩
 ·subst ey
  obtain ⟨z,hd,vs,rel,dd⟩:=wz I.hok e
  refine wpAny_notIn_of (qA ry) hd dd.mapOf ?_
  rw [← (rel.val k).isSome_eq,← l]
  exact h _ (I.tok _)
 ·subst ey
  cases (show u=Value.ref b from ry)
  obtain ⟨z,hd,xs,rel,dd⟩:=uz I.hok e
  refine wpAny_notIn_heap (tupleKind_room_in1 hu) (Np I.hok eb) hd dd ?_
  have q:=(rel.val k).isSome_eq
  rw [Option.isSome_map] at q
  rw [← q,← l]
  exact h _ (I.tok _)
theorem qv {h':Heap} {t':Nat} {ob:HO} (I:Inv X pins σ H s) (mu:Mut (H a)) (hs:Heap.SameBut a s.heap h') (he:∃ q,h'.get? a=some q) (new:Rc X.prog X.w (upd H a ob) h' a ob) :
  Inv X pins σ (upd H a ob) { s with heap:=h',toks:=t' }:=
 I.write (x:=a) (e:=a) mu (.inl rfl) (fun b q hb z=>(hs.2 b hb).trans z) he new
theorem ZE {P:Program} {w:World} {H':Hp} {h':Heap} {kvs:List (Key × V)} {vs:List (Key × Value)} (z:kvs.length ≤ sizeLine) (hd:(a == sysModules)=false) (rel:KV kvs vs) (dd:h'.DictOf (vd P w) a vs) :
  Rc P w H' h' a (.dK kvs):=⟨z,hd,vs,rel,dd⟩
theorem Aq {H':Hp} {Q:Unit→Shared→Prop} (hu:A.units + 1 < cLine) (I:Inv X pins σ H s) (g:vx H a y v H') (ry:Qc y u) (rv:Qc v r) (h:∀ s',Inv X pins σ H' s'→Q () s') :
  wpAny (model X.prog X.w) A (setItem (.ref a) u r) Q E s:=by
 rcases g with ⟨kvs,k,e,ey,l,eH⟩ | ⟨kvs,k,b,e,ey,eb,l,eH⟩
 ·subst ey eH
  obtain ⟨z,hd,vs,rel,dd⟩:=xH I.hok e
  have hz:vs.length ≤ sizeLine:=by rw [← rel.length];exact z
  have hl:(Jm kvs k v).length ≤ sizeLine:=by have:=Vl kvs k v;omega
  refine wpAny_setItem_pairs (hsz:=hz) (qA ry) dd fun h' dd' hs=>h _ ?_
  have he:∃ q,h'.get? a=some q:=let ⟨q,_,_,hq,_⟩:=dd';⟨q,hq⟩
  exact qv I (by rw [e];exact True.intro) hs he (ZE hl hd (rel.put k rv) dd')
 ·subst ey eH
  cases (show u=Value.ref b from ry)
  obtain ⟨z,hd,xs,rel,dd⟩:=nF I.hok e
  have hz:xs.length ≤ sizeLine:=by rw [← Paired.length rel];exact z
  have hl:(Jm kvs k v).length ≤ sizeLine:=by have:=Vl kvs k v;omega
  refine wpAny_setItem_heap (hsz:=hz) (tupleKind_room_in1 hu) (Np I.hok eb) dd fun h' dd' hs=>h _ ?_
  obtain ⟨q,es,ep,hq,h2,h3,h4,_,h5⟩:=dd'
  refine qv I (by rw [e];exact True.intro) hs ⟨q,hq⟩ ⟨hl,hd,_,(rel.put k eb rv).keeps fun c ys ec=>?_,q,es,ep,hq,h2,h3,h4,h5⟩
  rw [qb (dg ec e (fun z=>nomatch z))]
  exact ec
end
section
variable {X:Cx} {pins:List (Addr × Obj)} {σ:St} {H:Hp} {s:Shared} {a:Addr} {kvs:List (Key × V)} {k:Key} {u:Value} {A:Around} {E:Value→Shared→Prop}
end
noncomputable def uH (i:Expr):Prop:=∀ ov iv,subscripted i false ov iv=operate [ov,iv] (getItem ov iv)
theorem Jv {prog:Program} {w:World} {A:Around} {E:Value→Shared→Prop} {s:Shared} {env:Env} {value slice:Expr} {pos:Pos} {T id:String} {Q:Value→Shared→Prop}
  (hl:typeLookup (.type T) "__getitem__"=pure (some (.builtin id))) (hs:uH slice)
  (h:wpAny (model prog w) A (eval value env) (fun o s₁=>wpAny (model prog w) A (eval slice env) (fun i s₂=>s₂.TypeIs o T∧wpAny (model prog w) A (getItem o i) Q E s₂) E s₁) E s) :
  wpAny (model prog w) A (eval (.Subscript value slice pos) env) Q E s:=by
 refine Subscript_ (wpAny_mono h (fun o s₁ h₁=>wpAny_mono h₁ (fun i s₂ h₂=>?_) fun _ _ x=>x) fun _ _ x=>x)
 obtain ⟨hT,h₂⟩:=h₂
 unfold subscriptTail
 refine wpAny_bind ?_
 rw [getitemInPython_of_ne hT.not_modules]
 refine wpAny_bind (wpAny_specialOf hT hl ?_)
 have fin:wpAny (model prog w) A (subscripted slice false o i) (fun r s₃=>wpAny (model prog w) A (letTemporaryGo value o r >>= fun _=>pure r) Q E s₃) E s₂:=by
  rw [hs o i]
  exact wpAny_operating (wpAny_mono h₂ (fun r s₃ h₃=>wpAny_bind (wpAny_letTemporaryGo (wpAny_pure h₃))) fun _ _ x=>x)
 first
  | exact wpAny_pure (wpAny_bind fin)
  | exact wpAny_bind (wpAny_pure (wpAny_bind fin))
  | exact wpAny_bind fin
theorem Pr {X:Cx} {pins:List (Addr × Obj)} {σ:St} {H:Hp} {s:Shared} {a:Addr} {y:V} {o:Option V} (I:Inv X pins σ H s) (g:Xm H a y o):s.TypeIs (.ref a) "dict" := by
 rcases g with ⟨kvs,k,e,_,_⟩ | ⟨kvs,k,b,e,_,_,_⟩
 ·obtain ⟨_,_,vs,_,dd⟩:=wz I.hok e
  exact dd.typeIs
 ·obtain ⟨_,_,xs,_,dd⟩:=uz I.hok e
  exact dd.typeIs
noncomputable def LE (td ty:TE):TE:=fun σ H Q=>td σ H fun x H1=>ty σ H1 fun y H2=>∃ a v,x=.ref a∧Xm H2 a y (some v)∧Q v H2
noncomputable def UI (ty td:TE):TE:=fun σ H Q=>ty σ H fun y H1=>td σ H1 fun x H2=>∃ a o,x=.ref a∧Xm H2 a y o∧Q (.bl o.isSome) H2
noncomputable def Kv (ty td:TE):TE:=fun σ H Q=>ty σ H fun y H1=>td σ H1 fun x H2=>∃ a o,x=.ref a∧Xm H2 a y o∧Q (.bl (!o.isSome)) H2
noncomputable def xE (td ty tv:TE):TS:=fun D σ H=>tv σ H fun v H1=>td σ H1 fun x H2=>ty σ H2 fun y H3=>∃ a H4,x=.ref a∧vx H3 a y v H4∧D.nx σ H4
noncomputable def mH (td ty tv:TE) (rd:V→V→Hp→VK→Prop):TS:=fun D σ H=>td σ H fun x H1=>ty σ H1 fun y H2=>∃ a v,x=.ref a∧Xm H2 a y (some v) ∧
 tv σ H2 fun y2 H3=>rd v y2 H3 fun z H4=>∃ H5,vx H4 a y z H5∧D.nx σ H5
noncomputable def tH (td ty:TE):TS:=fun D σ H=>td σ H fun x H1=>ty σ H1 fun y H2=>∃ a kvs k,x=.ref a∧H2 a=some (.dK kvs)∧y=kV k∧(Zh kvs k).isSome=true∧D.nx σ (upd H2 a (.dK (Mp kvs k)))
section
variable {X:Cx} {o i e value:Expr} {pos pos' tpos:Pos} {td ty tv:TE}
theorem rC (hu:X.A.units + 1 < cLine) (ho:PE X o td) (hi:PE X i ty) (hs:uH i):PE X (.Subscript o i pos) (LE td ty):=by
 intro pins s σ H Q I h
 refine Jv PySem.F.slot_dict_getitem.lookup hs (thn (ho pins s σ H _ I h) fun u s1 ⟨x,H1,I1,rx,q1⟩=>thn (hi pins s1 σ H1 _ I1 q1) fun iv s2 hZ1=>?_)
 obtain ⟨y,H2,I2,ry,a,v,ex,g,q2⟩:=hZ1
 subst ex
 obtain rfl:u=Value.ref a:=rx
 exact ⟨Pr I2 g,vw hu I2 g ry fun w' s3 I3 rw'=>⟨v,H2,I3,rw',q2⟩⟩
theorem Rx (hu:X.A.units + 1 < cLine) (hi:PE X i ty) (ho:PE X o td):PC X .NotIn i o (Kv ty td):=by
 intro pins s σ H Q I h
 refine thn (hi pins s σ H _ I h) fun iv s1 ⟨y,H1,I1,ry,q1⟩=>thn (ho pins s1 σ H1 _ I1 q1) fun u s2 hZ1=>?_
 obtain ⟨x,H2,I2,rx,a,ov,ex,g,q2⟩:=hZ1
 subst ex
 obtain rfl:u=Value.ref a:=rx
 exact AB hu I2 g ry fun s3 I3=>⟨.bl (!ov.isSome),H2,I3,rfl,q2⟩
theorem aC (hu:X.A.units + 1 < cLine) (ho:PE X o td) (hi:PE X i ty) (hv:PE X value tv) (hs:swapsWith value (some (.Subscript o i pos')) pos.line X.env=pure false) :
  PS X (.Assign [.Subscript o i pos'] value pos) (xE td ty tv):=by
 intro pins s σ H D I h
 refine wpAny_Assign_Subscript (thn (hv pins s σ H _ I h) fun r s1 ⟨v,H1,I1,rv,q1⟩=>thn (ho pins s1 σ H1 _ I1 q1) fun u s2 ⟨x,H2,I2,rx,q2⟩=>thn (hi pins s2 σ H2 _ I2 q2) fun iv s3 hZ1=>?_) hs
 obtain ⟨y,H3,I3,ry,a,H4,ex,g,q3⟩:=hZ1
 subst ex
 obtain rfl:u=Value.ref a:=rx
 exact Aq hu I3 g ry rv fun s4 I4=>⟨σ,H4,I4,q3⟩
end
theorem Vy {P:Program} {w:World} {H:Hp} (h:Heap) (hb:sysModules < h.objs.size):Rc P w H (h.push { cls:=.type "dict",data:=.dict #[] }) h.objs.size (.dK []):=
 ⟨Nat.zero_le _,beq_eq_false_iff_ne.mpr (Ne.symm (Nat.ne_of_lt hb)),[],.nil,Heap.DictOf.new h⟩
theorem oz {P:Program} {w:World} {H:Hp} (h:Heap) (hb:sysModules < h.objs.size):Rc P w H (h.push { cls:=.type "dict",data:=.dict #[] }) h.objs.size (.dT []):=
 ⟨Nat.zero_le _,beq_eq_false_iff_ne.mpr (Ne.symm (Nat.ne_of_lt hb)),[],.nil,_,#[],0,Heap.get?_push_size _ rfl,⟨rfl,rfl,rfl⟩,rfl,rfl,List.nodup_nil⟩
noncomputable def CA:TE:=fun _ H Q=>∀ p,H p=none→Q (.ref p) (upd H p (.dK []))
noncomputable def RA:TE:=fun _ H Q=>∀ p,H p=none→Q (.ref p) (upd H p (.dT []))
section
variable {X:Cx} {pos:Pos}
theorem wA:PE X (.Dict [] [] pos) CA:=fun pins s σ H Q I h=>
 wpAny_Dict_empty ⟨.ref s.heap.objs.size,_,I.laid (a:=s.heap.objs.size) (o:=.dK []) (t':=s.toks) (fun _ _ q=>Heap.get?_push_of_some _ q) (Nat.le_refl _) (Vy s.heap I.big),rfl,h _ (I.hok.fresh (Nat.le_refl _))⟩
theorem yz:PE X (.Dict [] [] pos) RA:=fun pins s σ H Q I h=>
 wpAny_Dict_empty ⟨.ref s.heap.objs.size,_,I.laid (a:=s.heap.objs.size) (o:=.dT []) (t':=s.toks) (fun _ _ q=>Heap.get?_push_of_some _ q) (Nat.le_refl _) (oz s.heap I.big),rfl,h _ (I.hok.fresh (Nat.le_refl _))⟩
end
noncomputable def fv:List (TE × TE)→St→Hp→(List (V × V)→Hp→Prop)→Prop
 | [],_,H,Q=>Q [] H
 | (tk,tv) :: r,σ,H,Q=>tk σ H fun x H1=>tv σ H1 fun y H2=>fv r σ H2 fun ps H3=>Q ((x,y) :: ps) H3
noncomputable def lB (kvs more:List (Key × V)):List (Key × V):=more.foldl (fun acc kv=>Jm acc kv.1 kv.2) kvs
noncomputable def cH (trs:List (TE × TE)):TE:=fun σ H Q=>∀ p,H p=none→fv trs σ (upd H p (.dK [])) fun ps H2=>H2 p=some (.dK [])∧∃ kvs:List (Key × V),ps=kvs.map (fun kv=>(kV kv.1,kv.2))∧kvs.length ≤ 15∧Q (.ref p) (upd H2 p (.dK (lB [] kvs)))
structure M1 (X:Cx) (o:Expr) (m:Str) (apos:Pos) (e:Expr) (cpos:Pos):Prop where
 base:attributeBase o m X.env (eval o X.env)=eval o X.env
 few:((backTo cpos (starEach [e] X.env)).all (fun x=>!x.1) && (backToKw cpos (keywordEach [] X.env)).all (fun x=>x.1.isSome)
  && decide (([e]:List Expr).length + ([]:List Keyword).length + (if ([]:List Keyword).isEmpty then 0 else 1) < 30))=true
 line:(apos.endLine == cpos.line)=true
 trees:backTo cpos (starEach [e] X.env)=[(false,eval e X.env)]
structure M2 (X:Cx) (o:Expr) (m:Str) (apos:Pos) (e f:Expr) (cpos:Pos):Prop where
 base:attributeBase o m X.env (eval o X.env)=eval o X.env
 few:((backTo cpos (starEach [e,f] X.env)).all (fun x=>!x.1) && (backToKw cpos (keywordEach [] X.env)).all (fun x=>x.1.isSome)
  && decide (([e,f]:List Expr).length + ([]:List Keyword).length + (if ([]:List Keyword).isEmpty then 0 else 1) < 30))=true
 line:(apos.endLine == cpos.line)=true
 trees:backTo cpos (starEach [e,f] X.env)=[(false,eval e X.env),(false,eval f X.env)]
noncomputable def IsD (H:Hp) (a:Addr):Prop:=(∃ kvs,Rd H a (.dK kvs))∨∃ kvs,Rd H a (.dT kvs)
section
variable {X:Cx} {pins:List (Addr × Obj)} {σ:St} {H:Hp} {s:Shared} {a:Addr} {y d:V} {u r:Value} {o:Option V} {A:Around} {E:Value→Shared→Prop}
end
noncomputable def QE (td ty:TE):TE:=fun σ H Q=>td σ H fun x H1=>∃ a,x=.ref a∧IsD H1 a∧ty σ H1 fun y H2=>∃ o,Xm H2 a y o∧Q (o.getD .non) H2
noncomputable def VE (td ty tx:TE):TE:=fun σ H Q=>td σ H fun x H1=>∃ a,x=.ref a∧IsD H1 a∧ty σ H1 fun y H2=>tx σ H2 fun z H3=>∃ o,Xm H3 a y o∧Q (o.getD z) H3
noncomputable def iG (td ty:TE):TE:=fun σ H Q=>td σ H fun x H1=>∃ a,x=.ref a∧IsD H1 a∧ty σ H1 fun y H2=>∃ kvs k v,H2 a=some (.dK kvs)∧y=kV k∧Zh kvs k=some v∧Q v (upd H2 a (.dK (Mp kvs k)))
noncomputable def hG (td ty tx:TE):TE:=fun σ H Q=>td σ H fun x H1=>∃ a,x=.ref a∧IsD H1 a∧ty σ H1 fun y H2=>tx σ H2 fun z H3=>∃ kvs k,H3 a=some (.dK kvs)∧y=kV k ∧
 (∀ v,Zh kvs k=some v→Q v (upd H3 a (.dK (Mp kvs k))))∧(Zh kvs k=none→Q z H3)
section
variable {X:Cx} {o e f:Expr} {apos cpos:Pos} {td ty tx:TE}
end
section
variable {X:Cx} {pins:List (Addr × Obj)} {σ:St} {H:Hp} {s:Shared} {a:Addr} {kvs:List (Key × V)} {A:Around} {E:Value→Shared→Prop}
end
section
variable {X:Cx} {pins:List (Addr × Obj)} {σ:St} {H:Hp} {s:Shared} {a:Addr} {y:V} {u:Value} {A:Around} {E:Value→Shared→Prop}
end
end L2
namespace Att
open PySem PySem.W PySem.Calls PyProof.Rows
theorem Bm {P:Params} {h:Heap}:∀ (ns:List Int) (vs:List Value),WellAll P h vs (ns.map WData.int)→IntsAre vs ns:=by
 intro ns
 induction ns with
 | nil=>
  intro vs w
  rw [List.map_nil] at w
  cases w
  exact .nil
 | cons n ns ih=>
  intro vs w
  rw [List.map_cons] at w
  cases w with
  | cons a b=>
   cases a
   exact .cons _ _ (ih _ b)
theorem Yv {l:OpenLaw} {n:Nat} (hn:l.most=some n) {P:Params} {h:Heap} {args:List WData} {vals:List Value}
  (hpre:l.row.toRowW.claim.pre args=true) (hwl:WellAll P h vals args) :
  ∃ a vs ns,vals=[Value.ref a]∧args=[WData.list (ns.map WData.int)]∧h.get? a=some { cls:=.type "list",data:=.seq vs.toArray }∧IntsAre vs ns∧ns.length ≤ n:=by
 have hsh:WShape.hasAll [] args [.list .int]=true:=(pre_splitW hpre).1
 have hc:l.pre.holds [] { args:=args }=true:=(pre_splitW hpre).2
 obtain ⟨d,r,rfl,h1,h2⟩:=hasAllW_cons hsh
 obtain rfl:=hasAllW_nil h2
 obtain ⟨xs,rfl,h3⟩:=hasW_list h1
 obtain ⟨ns,rfl⟩:=items_int h3
 have hlen:ns.length ≤ n:=by
  unfold OpenLaw.pre at hc
  have h4:(WTm.not (.lt (.lit (.int (n:Int))) (.len (.arg 0)))).holds [] { args:=[.list (ns.map .int)] }=true:=by
   have h4:=(holds_andW hc).1
   rw [hn] at h4
   exact h4
  have h5:=condW_of h4 (w_not (w_lt w_lit (w_len_list (w_arg rfl))))
  rw [List.length_map] at h5
  refine Nat.le_of_not_lt fun q=>?_
  have q':(n:Int) < ((ns.length:Nat):Int):=by omega
  first
   | (rw [decide_eq_true q'] at h5;exact absurd h5 (by decide))
   | (simp at h5;omega)
 cases hwl with
 | cons w1 w2=>
  cases w2
  cases w1 with
  | list ho hall=>exact ⟨_,_,ns,rfl,rfl,ho,Bm ns _ hall,hlen⟩
theorem Sv (l:OpenLaw) (args:List WData):l.row.toRowW.claim.post args (.bool true) args=true:=
 postW_of (r:=l.row.toRowW) (X:=(true == true))
  (show WShape.has [] (.bool true) .bool=true by first | rfl | decide | simp [WShape.has,WShape.arms,WShape.armsAll])
  (show (WTm.eq .res (.lit (.bool true))).value [] { args:=args,res:=some (.bool true),after:=args }=some (.bool (true == true)) from w_eq_bool (w_res rfl) w_lit) rfl
theorem attach_call {l:OpenLaw} {n:Nat} {q:Program} {loose:List Str} {XP:(Str→Option Value)→Heap→Prop} {YP:World→Heap→Prop} {d:DefRec}
  (hn:l.most=some n) (hdf:d.params.defaults=[])
  (call:∀ (w:World) (s₀ s₁:Shared) (mg mb:Str→Option Value) (fa:Addr) (o:Obj) (pm cd doc:Value) (a:Addr) (vs:List Value) (ns:List Int),
   Ground q loose [] XP w s₀ mg mb s₁.heap→YP w s₁.heap →
   s₁.heap.get? fa=some o→o.data=.func (docDef d.name d.params d.body d.scope pm cd doc)→s₁.heap.CodeRec cd d.name→mg d.name=some (.ref fa) →
   s₁.heap.get? a=some { cls:=.type "list",data:=.seq vs.toArray }→IntsAre vs ns→ns.length ≤ n→s₁.gens=#[] →
   codeAny (model l.prog w) callerA (.call (.ref fa) ⟨[.ref a],[]⟩) (fun r s'=>r=.ok (.ret (.bool true))∧OldK s₁.heap s'.heap∧s'.os=s₁.os∧AllBare s'.gens) s₁) :
  WalkO q loose XP YP l.row.toRowW d [] (fun f vs=>PySem.call f vs):=by
 intro w s₀ s₁ mg mb G Y fa o pm cd doc dV kV ho hd hcd hD hmg hg args vals as hpre hlay hrd hwl hlo
 obtain rfl:dV=.none:=Dflts.none hD hdf
 obtain rfl:kV=.none:=Dflts.noKw hD
 obtain ⟨a,vs,ns,rfl,rfl,hobj,hints,hlen⟩:=Yv hn hpre hwl
 refine enter_call (codeAny_mono (call w s₀ s₁ mg mb fa o pm cd doc a vs ns G Y ho (fd_plain hd) hcd hmg hobj hints hlen hg) fun r s' hq=>?_)
 obtain ⟨rfl,h2,h3,h4⟩:=hq
 exact ⟨.inl ⟨.bool true,.bool true,[],rfl,fun _=>rfl,.bool true,Sv l _,fun _=>⟨List.Pairwise.nil,fun _ hm=>(nomatch hm)⟩⟩,h2,h3,h4⟩
section
variable {prog:Program} {w:World} {A:Around} {E:Value→Shared→Prop} {s:Shared} {K:Frag}
end
end Att
namespace L2
open PySem PySem.Spec PyProof.Rows
theorem xq:∀ {vs:List Value} {ns:List Int},IntsAre vs ns→Kc (ns.map V.int) vs
 | _,_,.nil=>.nil
 | _,_,.cons n t h=>.cons ⟨t,rfl⟩ (xq h)
noncomputable def kE (H:Hp):Prop:=∀ b,H b=none∨∃ o xs,H b=some (.frz o (.lst xs))
theorem zy {P:Program} {w:World} {K:PySem.W.Frag} {mg mb:Str→Option Value} {CX:CXT} {k:Nat} {fa a:Addr} {fd:FuncData} {x:Str} {sp:Sp} {s₁:Shared} {vs:List Value} {ns:List Int}
  (KX:K.In s₁.heap) (hns:s₁.heap.Ns mainGlobals mg) (hb:s₁.heap.Ns builtinsNs mb) (hbb:∀ x:Str,x ≠ "__name__" → mb x=bootBuiltins x) (hlim:s₁.heap.NoLimit) (hg:s₁.gens=#[])
  (ha:s₁.heap.get? a=some { cls:=.type "list",data:=.seq vs.toArray }) (hi:IntsAre vs ns) (hl:ns.length ≤ sizeLine) (hr:Fh k callerA)
  (F:∀ base:Heap,K.In base→base.Ns mainGlobals mg→Lb P w K mg base CX k fa fd [x] sp) (hbind:∀ (s:Shared) (u:Value),BindsTo s fd ⟨[u],[]⟩ [(x,u)])
  (hsp:∀ H:Hp,kE H→SqL K H a (ns.map V.int)→sp [.ref a] H (fun v _=>v=.bl true) fun _ _ _=>False)
  (hCX:∀ H e s',CX [] H s₁ (fun _ _ _=>False) e s'→False) :
  codeAny (model P w) callerA (.call (.ref fa) ⟨[.ref a],[]⟩) (fun r s'=>r=.ok (.ret (.bool true))∧OldK s₁.heap s'.heap∧s'.os=s₁.os∧AllBare s'.gens) s₁:=by
 have rv:=xq hi
 have lenV:=hi.length
 -- from an abstract heap in which nothing but the script may be tracked
 have core:∀ H:Hp,kE H→SqL K H a (ns.map V.int)→HOk P w H s₁.heap→(∀ b,H b ≠ none→b=a)→(H a ≠ none→K.lookup a=none) →
   codeAny (model P w) callerA (.call (.ref fa) ⟨[.ref a],[]⟩) (fun r s'=>r=.ok (.ret (.bool true))∧OldK s₁.heap s'.heap∧s'.os=s₁.os∧AllBare s'.gens) s₁:=by
  intro H hO hS hok hA hK
  have base_of:∀ {b:Addr} {o:Obj},s₁.heap.get? b=some o→H b=none→(jz s₁.heap H).get? b=some o:=fun e n=>kA e n
  have noA:∀ {b:Addr} {o:Obj} {es:Array DictEntry} {ep:Nat},s₁.heap.get? b=some o→o.data=.dict es ep→H b=none:=fun {b o es ep} e d=>by
   cases q:H b with
   | none=>rfl
   | some u=>
    have e':b=a:=hA b (by rw [q];simp)
    subst e'
    rw [ha] at e;cases e
    have d':Data.seq vs.toArray _=Data.dict es ep:=d
    cases d'
  have nsK:∀ {b:Addr} {m:Str→Option Value},s₁.heap.Ns b m→(jz s₁.heap H).Ns b m:=fun {b m} ⟨o,es,ep,e,d,r⟩=>⟨o,es,ep,base_of e (noA e d),d,r⟩
  have hKb:K.In (jz s₁.heap H):=fun b o e=>base_of (KX b o e) (by
   cases q:H b with
   | none=>rfl
   | some u=>
    have e':b=a:=hA b (by rw [q];simp)
    subst e'
    rw [hK (by rw [q];simp)] at e;cases e)
  have hM:Mod K mg (jz s₁.heap H):=⟨hKb,nsK hns,⟨mb,nsK hb,hbb⟩,let ⟨mc,h1,h2⟩:=hlim;⟨mc,nsK h1,h2⟩⟩
  have e0:jx P w K mg (jz s₁.heap H) callerA [] s₁ H:=⟨rfl,hM,fun b o e=>gD e,Nat.le_of_eq (yv _ _),trivial,fun b hb=>absurd (show b ∈ ([]:List Addr) from hb) (by simp),hok,.of_eq hg⟩
  refine codeAny_mono ((F _ hKb (nsK hns)).run callerA [] s₁ H ⟨[.ref a],[]⟩ [.ref a] [.ref a] _ _ hr e0 (hbind s₁ (.ref a)) (.cons rfl .nil) (hsp H hO hS)) fun r s' h=>?_
  cases r with
  | error e=>exact (hCX H e s' h).elim
  | ok fl=>
   cases fl with
   | next=>exact False.elim h
   | brk=>exact False.elim h
   | cont=>exact False.elim h
   | ret u=>
    obtain ⟨v,H',os,bare,un,hok',r',q⟩:=h
    have q':v=.bl true:=q
    subst q'
    obtain rfl:u=Value.bool true:=r'
    refine ⟨rfl,OldK.of_keep fun b o e=>?_,os,bare⟩
    cases q:H b with
    | none=>exact un.keep b o e q (by intro z;exact absurd (show b ∈ ([]:List Addr) from z) (by simp)) (by simp)
    | some u=>
     rcases hO b with z | ⟨ob,xs,z⟩
     ·rw [q] at z;cases z
     ·have z2:=un.frzs b ob _ z
      obtain ⟨e1,_⟩:=hok b _ z
      obtain ⟨e2,_⟩:=hok' b _ z2
      rw [e] at e1;cases e1
      exact e2
 cases hk:K.lookup a with
 | some o=>
  -- the script is one of the module's own objects
  have e:=KX a o hk
  rw [ha] at e
  cases e
  refine core (fun _=>none) (fun _=>.inl rfl) (.inr ⟨_,vs.toArray,_,hk,rfl,rfl,rfl,by rw [List.size_toArray,lenV];exact hl,by simpa using rv⟩) (fun b u z=>by have z':(none:Option HO)=some u:=z;cases z') (fun b z=>absurd rfl z) fun z=>absurd rfl z
 | none=>
  refine core (fun b=>if b=a then some (.frz { cls:=.type "list",data:=.seq vs.toArray } (.lst (ns.map V.int))) else none) (fun b=>?_) (.inl (.inr ⟨{ cls:=.type "list",data:=.seq vs.toArray },if_pos rfl⟩)) (fun b u z=>?_) (fun b z=>?_) fun _=>hk
  ·by_cases hb:b=a
   ·exact .inr ⟨_,_,if_pos hb⟩
   ·exact .inl (if_neg hb)
  ·by_cases hb:b=a
   ·have z':=(if_pos hb).symm.trans z
    cases z'
    subst hb
    exact ⟨ha,by rw [List.length_map];exact hl,vs,_,rv,ha⟩
   ·have z':=(if_neg hb).symm.trans z
    cases z'
  ·by_cases hb:b=a
   ·exact hb
   ·exact absurd (if_neg hb) z
end L2
namespace L2
open PySem PySem.Spec PyProof.Rows
noncomputable abbrev KOf {K:PySem.W.Frag} {h:Heap} (_:K.In h):PySem.W.Frag:=K
theorem MC {l:PySem.W.OpenLaw} {n k:Nat} {q:Program} {loose:List Str} {XP:(Str→Option Value)→Heap→Prop} {YP:World→Heap→Prop} {d:DefRec} {K:Params→PySem.W.Frag} {CX:World→CXT} {sp:World→Sp} {x:Str}
  (hn:l.most=some n) (hn2:n ≤ sizeLine) (hdf:d.params.defaults=[]) (hr:Fh k callerA)
  (hY:∀ (w:World) (h:Heap),YP w h→(K w.params).In h)
  (F:∀ (w:World) (mg:Str→Option Value) (fa:Addr) (h:Heap),(K w.params).In h→h.Ns mainGlobals mg→mg d.name=some (.ref fa) →
   ∃ fd:FuncData,(∀ (s:Shared) (u:Value),BindsTo s fd ⟨[u],[]⟩ [(x,u)]) ∧
    ∀ base:Heap,(K w.params).In base→base.Ns mainGlobals mg→Lb l.prog w (K w.params) mg base (CX w) k fa fd [x] (sp w))
  (hsp:∀ (w:World) (H:Hp) (a:Addr) (ns:List Int),ns.length ≤ n→kE H→SqL (K w.params) H a (ns.map V.int)→sp w [.ref a] H (fun v _=>v=.bl true) fun _ _ _=>False)
  (hCX:∀ (w:World) (H:Hp) (s:Shared) (e:Value) (s':Shared),CX w [] H s (fun _ _ _=>False) e s'→False) :
  PySem.W.WalkO q loose XP YP l.row.toRowW d [] (fun f vs=>PySem.call f vs):=by
 refine Att.attach_call hn hdf fun w s₀ s₁ mg mb fa o pm cd doc a vs ns G Y ho hd hcd hmg hobj hints hlen hg=>?_
 have KX:=hY w _ Y
 obtain ⟨fd,hb,hF⟩:=F w mg fa _ KX G.T.g hmg
 exact zy KX G.T.g G.T.b G.T.builtins G.T.nolimit hg hobj hints (Nat.le_trans hlen hn2) hr hF hb (fun H hO hS=>hsp w H a ns hlen hO hS) fun H e s'=>hCX w H s₁ e s'
theorem Fy {l:PySem.W.OpenLaw} {n k:Nat} {q:Program} {loose:List Str} {XP:(Str→Option Value)→Heap→Prop} {YP:World→Heap→Prop} {d:DefRec} {K:Params→PySem.W.Frag} {CX:CXT} {sp:PySem.W.Frag→Sp} {x:Str}
  (hn:l.most=some n) (hn2:n ≤ sizeLine) (hdf:d.params.defaults=[]) (hr:Fh k callerA)
  (hY:∀ (w:World) (h:Heap),YP w h→(K w.params).In h)
  (F:∀ (w:World) (mg:Str→Option Value) (fa:Addr) (h:Heap),(K w.params).In h→h.Ns mainGlobals mg→mg d.name=some (.ref fa) →
   ∃ fd:FuncData,(∀ (s:Shared) (u:Value),BindsTo s fd ⟨[u],[]⟩ [(x,u)]) ∧
    ∀ base:Heap,(K w.params).In base→base.Ns mainGlobals mg→Lb l.prog w (K w.params) mg base CX k fa fd [x] (sp (K w.params)))
  (hsp:∀ (K:PySem.W.Frag) (H:Hp) (a:Addr) (ns:List Int),ns.length ≤ n→kE H→SqL K H a (ns.map V.int)→sp K [.ref a] H (fun v _=>v=.bl true) fun _ _ _=>False)
  (hCX:∀ (H:Hp) (s:Shared) (e:Value) (s':Shared),CX [] H s (fun _ _ _=>False) e s'→False) :
  PySem.W.WalkO q loose XP YP l.row.toRowW d [] (fun f vs=>PySem.call f vs):=
 MC (K:=K) (CX:=fun _=>CX) (sp:=fun w=>sp (K w.params)) hn hn2 hdf hr hY F (fun w H a ns h1 h2 h3=>hsp (K w.params) H a ns h1 h2 h3) fun _ H s e s'=>hCX H s e s'
end L2
namespace L2
open PySem PySem.Spec PyProof.Rows
noncomputable def Lc (s:Stmt) (j:Nat):Stmt:=match s with
 | .ClassDef _ _ _ body _ _ _ _ _ _ _=>body.getD j (.Pass ⟨0,0,0,0⟩)
 | _=>.Pass ⟨0,0,0,0⟩
noncomputable def mo (s:Stmt):Arguments:=match s with
 | .FunctionDef _ a _ _ _ _ _ _ _ _=>a
 | _=>{ posonlyargs:=[],args:=[],vararg:=none,kwonlyargs:=[],kw_defaults:=[],kwarg:=none,defaults:=[] }
noncomputable def Nl (s:Stmt):List Stmt:=match s with
 | .FunctionDef _ _ b _ _ _ _ _ _ _=>b
 | _=>[]
noncomputable def lb (s:Stmt):Scope:=match s with
 | .FunctionDef _ _ _ _ _ _ sc _ _ _=>sc
 | _=>{ kind:=.function,names:=[],isGenerator:=false,isCoroutine:=false }
noncomputable abbrev CX0:CXT:=fun _ _ _ _ _ _=>False
noncomputable abbrev E0:XK:=fun _ _ _=>False
theorem Cb {X:Cx}:Cj CX0 X E0:=fun _ _ _ _ _ _ _ h=>h.elim
structure Fun (K:PySem.W.Frag) (x qual:Str) (st:Stmt) (f:Addr) (fd:FuncData):Prop where
 ex:∃ (oc:Value) (od:Option Addr) (kV doc pm:Value) (an:Option Addr) (cdv ct:Value) (osl:Array (Option Value)),
  fd=PySem.W.fnOf x qual (mo st) (Nl st) (lb st) .none kV doc pm an cdv ct∧K.lookup f=some ⟨oc,od,.func fd,osl⟩∧PySem.W.codeIn K cdv qual=true
 kp:PySem.W.keepIn K (.ref f)=true
section
variable {P:Program} {w:World} {K:PySem.W.Frag} {mg:Str→Option Value} {base:Heap}
theorem Fun.ok {x qual:Str} {st:Stmt} {f:Addr} {fd:FuncData} {N ps:List Str} {k:Nat} {sp:Sp} (F:Fun K x qual st f fd) (S:Ab N ps (lb st)) (len:∀ vs H Q E,sp vs H Q E→vs.length=ps.length)
  (hbody:∀ (cdv:Value) (A:Around) (outer:List Env) (s:Shared) (H:Hp) (vs:List V) (Q:VK) (E:XK),Fh k (A.deeper (envOfC qual (lb st) s.heap.objs.size f cdv))→sp vs H Q E →
   ∃ t,PSs (BB CX0 P w K mg base N qual (lb st) f cdv A outer s H E).nox (Nl st) t∧t { nx:=fun _ H'=>Q .non H',rt:=Q } (start N vs) H):Lb P w K mg base CX0 (k + 1) f fd ps sp:=by
 obtain ⟨oc,od,kV,doc,pm,an,cdv,ct,osl,rfl,lk,hcd⟩:=F.ex
 refine RG lk hcd S len fun A outer s H vs Q E hr hsp=>?_
 obtain ⟨t,h,q⟩:=hbody cdv A outer s H vs Q E hr hsp
 exact ⟨t,h.nox,q⟩
theorem Fun.binds {x qual:Str} {st:Stmt} {f:Addr} {fd:FuncData} {ps:List Str} (F:Fun K x qual st f fd)
  (h:∀ (kV doc pm:Value) (an:Option Addr) (cdv ct:Value) (us:List Value),us.length=ps.length→bindArgs (PySem.W.fnOf x qual (mo st) (Nl st) (lb st) .none kV doc pm an cdv ct) ⟨us,[]⟩=pure (ps.zip us)):bc K fd ps []:=by
 obtain ⟨oc,od,kV,doc,pm,an,cdv,ct,osl,rfl,lk,hcd⟩:=F.ex
 exact .all (h kV doc pm an cdv ct)
theorem DE {x qual:Str} {st:Stmt} {f:Addr} {oc:Value} {od an:Option Addr} {osl:Array (Option Value)} {kV doc pm cdv ct:Value} (l:K.lookup f=some ⟨oc,od,.func (PySem.W.fnOf x qual (mo st) (Nl st) (lb st) .none kV doc pm an cdv ct),osl⟩)
  (c:PySem.W.codeIn K cdv qual=true) (k:PySem.W.keepIn K (.ref f)=true):Fun K x qual st f (PySem.W.fnOf x qual (mo st) (Nl st) (lb st) .none kV doc pm an cdv ct):=⟨⟨oc,od,kV,doc,pm,an,cdv,ct,osl,rfl,l,c⟩,k⟩
end
theorem Ky {A:Around} {k:Nat} (hr:Fh k A):A.units + 1 < cLine:=Nat.lt_of_le_of_lt (Nat.add_le_add_left (by decide:1 ≤ 64) _) hr.units
section
variable {X:Cx}
theorem pv (i:Nat) {x:Str} {pos:Pos} (hN:X.N[i]? = some x:=by rfl) (hv:Vis X.env.scope x:=by first | exact Or.inl rfl | exact Or.inr (Or.inl rfl) | exact Or.inr (Or.inr rfl)) (hd:(x == ("__debug__" : Str))=false:=by decide)
  (hcd:(x == ("__classdict__" : Str))=false:=by decide):PE X (.Name x pos) (fH i):=MF hN hv hd hcd
end
noncomputable def Xb (H H':Hp):Prop:=∀ b o,H b=some o→H' b=some o
theorem Xb.refl (H:Hp):Xb H H:=fun _ _ h=>h
theorem Xb.trans {H H1 H2:Hp} (a:Xb H H1) (b:Xb H1 H2):Xb H H2:=fun c o h=>b c o (a c o h)
theorem Xb.free {H H':Hp} (e:Xb H H') {l:Addr} (h:H' l=Option.none):H l=Option.none:=by
 cases q:H l with
 | none=>rfl
 | some o=>
  rw [e l o q] at h
  cases h
theorem Xb.seq {K:PySem.W.Frag} {H H':Hp} {a:Addr} {xs:List V} (e:Xb H H') (h:SqL K H a xs):SqL K H' a xs:=by
 rcases h with (h | ⟨o,h⟩) | h
 ·exact .inl (.inl (e _ _ h))
 ·exact .inl (.inr ⟨o,e _ _ h⟩)
 ·exact .inr h
section
variable {κ:Type} [DecidableEq κ]
end
end L2
set_option maxHeartbeats 4000000
namespace L2
open PySem PySem.Spec PyProof.Rows
noncomputable def qp (cells:List (Str × Addr)):List (Str × NameKind)→List (Str × Addr)→List (Str × Addr)
 | [],acc=>acc
 | (n,k) :: r,acc=>if k == .free then (match cells.lookup n with | some c=>qp cells r ((n,c) :: acc) | none=>qp cells r acc) else qp cells r acc
theorem Ir {env:Env}:∀ (names:List (Str × NameKind)) (acc:List (Str × Addr)),(∀ y ∈ names,y.2=.free→∃ c,env.cells.lookup y.1=some c) →
  (forIn names acc (fun (x:Str × NameKind) (cs:List (Str × Addr))=>(if (x.2 == .free)=true then do let a ← cellOf env x.1;pure (ForInStep.yield ((x.1,a) :: cs)) else pure (ForInStep.yield cs):Sem (ForInStep (List (Str × Addr))))))=pure (qp env.cells names acc)
 | [],acc,_=>rfl
 | (n,k) :: r,acc,h=>by
  have hr:∀ y ∈ r,y.2=.free→∃ c,env.cells.lookup y.1=some c:=fun y hy=>h y (List.mem_cons_of_mem _ hy)
  rw [List.forIn_cons]
  by_cases hk:(k == NameKind.free)=true
  ·have e:k=.free:=by simpa using hk
   obtain ⟨c,hc⟩:=h (n,k) List.mem_cons_self e
   have hc':env.cells.lookup n=some c:=hc
   simp only [qp,hk,if_true,hc',cellOf]
   exact Ir r _ hr
  ·simp only [qp,hk]
   exact Ir r _ hr
theorem lx {scope:Scope} {env:Env} (h:∀ y ∈ scope.names,y.2=.free→∃ c,env.cells.lookup y.1=some c):closureFor scope env=pure (qp env.cells scope.names []):=by
 unfold closureFor
 exact congrArg (fun t=>t >>= pure) (Ir scope.names [] h)
theorem Xk {cells:List (Str × Addr)}:∀ (names:List (Str × NameKind)) (acc:List (Str × Addr)) {x:Str} {c:Addr},(qp cells names acc).lookup x=some c→acc.lookup x=some c∨cells.lookup x=some c
 | [],acc,x,c,h=>.inl h
 | (n,k) :: r,acc,x,c,h=>by
  unfold qp at h
  split at h
  ·cases q:cells.lookup n with
   | none=>rw [q] at h;exact Xk r acc h
   | some d=>
    rw [q] at h
    rcases Xk r _ h with z | z
    ·rw [List.lookup_cons] at z
     by_cases hx:(x == n)=true
     ·rw [hx] at z
      have e:x=n:=by simpa using hx
      subst e
      right;rw [q];exact z
     ·have hx':(x == n)=false:=by simpa using hx
      rw [hx'] at z;exact .inl z
    ·exact .inr z
  ·exact Xk r acc h
theorem Ej {cells:List (Str × Addr)}:∀ (names:List (Str × NameKind)) (acc:List (Str × Addr)) {x:Str} {c:Addr},acc.lookup x=some c→cells.lookup x=some c→(qp cells names acc).lookup x=some c
 | [],acc,x,c,h,_=>h
 | (n,k) :: r,acc,x,c,h,hc=>by
  unfold qp
  split
  ·cases q:cells.lookup n with
   | none=>exact Ej r acc h hc
   | some d=>
    refine Ej r _ ?_ hc
    rw [List.lookup_cons]
    by_cases hx:(x == n)=true
    ·have e:x=n:=by simpa using hx
     subst e
     rw [hx];rw [q] at hc;exact hc
    ·have hx':(x == n)=false:=by simpa using hx
     rw [hx'];exact h
  ·exact Ej r acc h hc
theorem yj {cells:List (Str × Addr)}:∀ (names:List (Str × NameKind)) (acc:List (Str × Addr)) {x:Str} {c:Addr},(x,NameKind.free) ∈ names→cells.lookup x=some c→(qp cells names acc).lookup x=some c
 | [],_,_,_,h,_=>nomatch h
 | (n,k) :: r,acc,x,c,h,hc=>by
  rcases List.mem_cons.mp h with e | h
  ·cases e
   unfold qp
   rw [if_pos (by decide),hc]
   refine Ej r _ ?_ hc
   rw [List.lookup_cons];simp
  ·unfold qp
   split
   ·cases q:cells.lookup n with
    | none=>exact yj r acc h hc
    | some d=>exact yj r _ h hc
   ·exact yj r acc h hc
theorem Zj {α:Type}:∀ {l:List (Str × α)} {x:Str} {a:α},l.lookup x=some a→(x,a) ∈ l
 | [],_,_,h=>by simp at h
 | (n,b) :: r,x,a,h=>by
  rw [List.lookup_cons] at h
  by_cases hx:(x == n)=true
  ·have e:x=n:=by simpa using hx
   subst e
   rw [hx] at h
   have e2:b=a:=Option.some.inj h
   subst e2
   exact List.mem_cons_self
  ·have hx':(x == n)=false:=by simpa using hx
   rw [hx'] at h
   exact List.mem_cons_of_mem _ (Zj h)
theorem Vq {env:Env} {scope:Scope} {x:Str} {k:NameKind} (h:(relabel scope env).names.lookup x=some k) (hk:k=.cell∨k=.free) (hc:∀ y ∈ scope.names,y.2 ≠ .cell):(x,NameKind.free) ∈ scope.names:=by
 have h1:=Zj h
 obtain ⟨⟨n,j⟩,hm,e⟩:=List.mem_map.mp h1
 have e':(if (j == NameKind.free && env.scope.kind == .function && env.kindOf n == some .cell)=true then (n,NameKind.cell) else (n,j))=(x,k):=e
 split at e'
 ·rename_i hcond
  have e1:n=x:=(Prod.mk.inj e').1
  subst e1
  have hj:j=.free:=by
   simp only [Bool.and_eq_true] at hcond
   simpa using hcond.1.1
  subst hj
  exact hm
 ·have e1:n=x:=(Prod.mk.inj e').1
  have e2:j=k:=(Prod.mk.inj e').2
  subst e1;subst e2
  rcases hk with z | z
  ·exact absurd z (hc _ hm)
  ·subst z;exact hm
theorem Ii {env:Env} {scope:Scope} {x:Str} (h:scope.names.lookup x=some .free):(relabel scope env).names.lookup x=some .cell∨(relabel scope env).names.lookup x=some .free:=by
 have all:∀ (names:List (Str × NameKind)),names.lookup x=some .free →
   (names.map fun (n,k)=>if (k == NameKind.free && env.scope.kind == .function && env.kindOf n == some .cell) then (n,NameKind.cell) else (n,k)).lookup x=some .cell ∨
   (names.map fun (n,k)=>if (k == NameKind.free && env.scope.kind == .function && env.kindOf n == some .cell) then (n,NameKind.cell) else (n,k)).lookup x=some .free:=by
  intro names
  induction names with
  | nil=>intro h;simp at h
  | cons p r ih=>
   obtain ⟨n,k⟩:=p
   intro h
   rw [List.map_cons]
   by_cases hx:(x == n)=true
   ·simp only [List.lookup_cons,hx] at h
    have hk:k=.free:=Option.some.inj h
    subst hk
    by_cases hc:(NameKind.free == NameKind.free && env.scope.kind == .function && env.kindOf n == some .cell)=true
    ·left;simp only [if_pos hc,List.lookup_cons,hx]
    ·right;simp only [if_neg hc,List.lookup_cons,hx]
   ·have hx':(x == n)=false:=by simpa using hx
    simp only [List.lookup_cons,hx'] at h
    by_cases hc:(k == NameKind.free && env.scope.kind == .function && env.kindOf n == some .cell)=true
    ·simp only [if_pos hc,List.lookup_cons,hx'];exact ih h
    ·simp only [if_neg hc,List.lookup_cons,hx'];exact ih h
 exact all scope.names h
noncomputable abbrev Cx.block (X:Cx) (scope:Scope) (C:Addr) (N:List Str) (s:Shared) (H:Hp) (fp:List Addr):Cx where
 prog:=X.prog
 w:=X.w
 K:=X.K
 mg:=X.mg
 base:=X.base
 A:=X.A
 N:=N
 s₀:=s
 H₀:=H
 env:=compEnvC scope (qp X.env.cells scope.names []) C X.env
 outer:=X.stack
 stack:=X.stack
 ex:=fp
 fn:=fun _=>false
 calm:=X.calm
 pn:=[]
 xe:=fun _ _=>False
structure Ck (env:Env) (scope:Scope):Prop where
 kind:scope.kind=.function
 nocell:∀ y ∈ scope.names,y.2 ≠ .cell
 fr:∀ y ∈ scope.names,y.2=.free→env.kindOf y.1=some .cell∨env.kindOf y.1=some .free
 loc:∀ x ∈ scope.names,x.2=.local→scope.names.lookup x.1=some .local
noncomputable def blk (sel:List (Option Nat)) (σ:St):St:=sel.map fun o=>o.bind fun j=>(σ[j]?).join
noncomputable def fw (M:List Str) (scope:Scope) (N:List Str) (sel:List (Option Nat)):Prop:=
 sel.length=N.length∧∀ (i j:Nat) (x:Str),sel[i]? = some (some j)→N[i]? = some x→M[j]? = some x∧scope.names.lookup x=some .free
section
variable {X:Cx} {pins:List (Addr × Obj)} {σ:St} {H:Hp} {s:Shared} {scope:Scope} {fp:List Addr} {C:Addr} {N:List Str}
theorem Ck.cells (S:Ck X.env scope) (ok:X.Ok):∀ y ∈ scope.names,y.2=.free→∃ c,X.env.cells.lookup y.1=some c:=fun y hy e=>ok.has y.1 (S.fr y hy e)
theorem Pn {x:Str} {c:Addr} (h:(qp X.env.cells scope.names []).lookup x=some c):X.env.cells.lookup x=some c:=by
 rcases Xk _ _ h with z | z
 ·simp at z
 ·exact z
theorem vt (I:Inv X pins σ H s) (S:Ck X.env scope) (hf:∀ b ∈ fp,pp X pins H b) (hs:∀ b ∈ fp,b < s.heap.objs.size) (hC:s.heap.objs.size ≤ C):(X.block scope C N s H fp).Ok where
 mod:=I.ok.mod
 kind:=S.kind
 glob:=I.ok.glob
 blt:=I.ok.blt
 above:=hC
 inj:=fun x y c h1 h2=>I.ok.inj x y c (Pn h1) (Pn h2)
 has:=fun x h=>by
  have hk:∃ k,(relabel scope X.env).names.lookup x=some k∧(k=.cell∨k=.free):=by
   rcases h with h | h
   ·exact ⟨_,h,.inl rfl⟩
   ·exact ⟨_,h,.inr rfl⟩
  obtain ⟨k,h1,h2⟩:=hk
  have hm:=Vq h1 h2 S.nocell
  obtain ⟨c,hc⟩:=S.cells I.ok _ hm rfl
  exact ⟨c,yj _ _ hm hc⟩
 cab:=fun _ _ h _=>nomatch h
 hd:=I.ok.hd
 frames:=I.ok.frames
 stk:=.inl rfl
 exf:=fun b hb=>⟨Nat.ne_of_lt (Nat.lt_of_lt_of_le (hs b hb) hC),fun x c e=>(hf b hb).2.2.2.2.1 x c (Pn e)⟩
 bs:=I.bs
 bsz:=Nat.le_trans I.ok.bsz I.sz
 noex:=fun b o e hb=>by
  rcases (hf b hb).2.2.2.1 with z | z
  ·exact I.ok.noex b o e z
  ·exact absurd (Nat.lt_of_lt_of_le (Nat.lt_of_lt_of_le (Heap.lt_size e) I.ok.bsz) z) (Nat.lt_irrefl _)
 exfs:=fun b hb hz=>by
  rcases List.mem_cons.mp (I.stkSub b hz) with z | z
  ·exact (hf b hb).2.1 z
  ·exact (hf b hb).2.2.1 z
 funs:=I.stack
 frf:=I.stkFree
theorem bv {h':Heap} {t':Nat} {m:Str→Option Value} {sel:List (Option Nat)} (I:Inv X pins σ H s) (S:Ck X.env scope) (hf:∀ b ∈ fp,pp X pins H b) (hs:∀ b ∈ fp,b < s.heap.objs.size) (hC:s.heap.objs.size ≤ C)
  (k:∀ b o,s.heap.get? b=some o→h'.get? b=some o) (hn:h'.Ns C m) (hsel:fw X.N scope N sel):Inv (X.block scope C N s H fp) [] (blk sel σ) H { s with heap:=h',toks:=t' } where
 ok:=vt I S hf hs hC
 os:=rfl
 bare:=I.bare
 base:=Un.kept k
 loc:=by
  refine ⟨m,hn,fun i x v e1 e2 e3=>?_⟩
  obtain ⟨m0,hn0,hl⟩:=I.loc
  obtain ⟨j,ej,eσ⟩:∃ j,sel[i]? = some (some j)∧σ[j]? = some (some v):=by
   unfold blk at e2
   rw [List.getElem?_map] at e2
   cases q:sel[i]? with
   | none=>rw [q] at e2;cases e2
   | some o=>
    rw [q] at e2
    cases o with
    | none=>cases e2
    | some j=>
     refine ⟨j,rfl,?_⟩
     have e2':(σ[j]?).join=some v:=Option.some.inj e2
     cases r:σ[j]? with
     | none=>rw [r] at e2';cases e2'
     | some z=>rw [r] at e2';exact congrArg some e2'
  obtain ⟨eN,hfr⟩:=hsel.2 i j x ej e1
  have hm:=Zj hfr
  have hk:=S.fr _ hm rfl
  have hv:Vis X.env.scope x:=hk.elim (fun z=>.inr (.inl z)) fun z=>.inr (.inr z)
  obtain ⟨u,r,l⟩:=hl j x v eN eσ hv
  refine ⟨u,r,?_⟩
  rcases l with ⟨hloc,_⟩ | ⟨_,c,hc,hcell⟩
  ·rcases hk with z | z <;> (have z':X.env.kindOf x=_:=z;rw [hloc] at z';cases z')
  ·refine .inr ⟨?_,c,yj _ _ hm hc,?_⟩
   ·exact Ii hfr
   ·obtain ⟨o,ho,hd⟩:=hcell
    exact ⟨o,k _ _ ho,hd⟩
 cell:=fun x c e=>by
  obtain ⟨v,o,ho,hd⟩:=I.cell x c (Pn e)
  exact ⟨v,o,k _ _ ho,hd⟩
 free:=I.hok.fresh hC
 freeC:=fun x c e=>I.freeC x c (Pn e)
 pin:=fun p hp=>nomatch hp
 hok:=I.hok.kept k
 len:=by unfold blk;rw [List.length_map];exact hsel.1
theorem Inv.adopt {a:Addr} {o:HO} (I:Inv X pins σ H s) (fo:pp X pins H a) (new:Rc X.prog X.w (upd H a o) s.heap a o):Inv X pins σ (upd H a o) s:=by
 obtain ⟨hn,hL,hfs,hex,hcl,hpn⟩:=fo
 refine I.step (g':=s.gens) (d':=s.drawn) (t':=s.toks) (h':=s.heap) (ch:=[a]) (fun b hb=>?_) (fun b o _ _ _ e _=>e) (fun b o _ _ _ e _=>⟨o.slots,e⟩) (fun b o hb e n=>?_) (fun b o _ e=>⟨o,e⟩)
  (fun b xs e=>?_) (fun b o u e=>?_) (fun b ps e=>⟨#[],?_⟩) (fun m hm=>hm) (fun b u e=>?_) I.bare
 ·have e:b=a:=by simpa using hb
  subst e
  exact ⟨hex,hL,hcl,hpn⟩
 ·rw [qb (fun z=>hb (by simp [z]))];exact n
 ·rw [qb (zb e hn)];exact e
 ·rw [qb (zb e hn)];exact e
 ·rw [qb (zb e hn),e];simp
 ·by_cases hb:b=a
  ·subst hb;rw [fb] at e;cases e;exact new
  ·rw [qb hb] at e
   exact (I.hok b u e).stay (fun c v _ q=>q) (fun c q=>by rw [qb (zb q hn)];exact q) fun c xs q=>by rw [qb (zb q hn)];exact q
end
theorem Wh {prog:Program} {w:World} {A:Around} {R:Result→Shared→Prop} {s:Shared} {elt target iter:Expr} {ifs:List Expr} {scope:Scope} {pos:Pos} {it acc:Value} {env:Env} (I:Nat→Shared→Prop)
  (turn:∀ n s,I n s→wpAny (model prog w) A (pyNext it) (fun r s₁=>match r with
   | none=>R (.ok .next) s₁
   | some v=>wpAny (model prog w) A (letOwnedTupleGo target it v) (fun _ s₀=>wpAny (model prog w) A (assign target env v) (fun _ s₂=>
     wpAny (model prog w) A (forIn ifs true fun c r=>if r=true then do let ok ← isTrue c env (eval c env);pure (ForInStep.yield ok) else pure (ForInStep.yield r)) (fun ok s₃=>
      if ok=true then wpAny (model prog w) A (eval elt env) (fun x s₄=>
       wpAny (model prog w) A (call (.builtin "list.append") [acc,x]) (fun _ s₅=>∃ m,m < n∧I m s₅) (fun _ _=>False) s₄) (fun _ _=>False) s₃
      else ∃ m,m < n∧I m s₃) (fun _ _=>False) s₂) (fun _ _=>False) s₀) (fun _ _=>False) s₁) (fun _ _=>False) s)
  (n:Nat) (h:I n s) :
  codeAny (model prog w) A (.compLoop (.ListComp elt [⟨target,iter,ifs,0⟩] scope pos) 0 it acc env) R s:=by
 refine codeAny_loop rfl I (fun n s hI=>?_) n h
 show wpAny _ A ((compTurn (.ListComp elt [⟨target,iter,ifs,0⟩] scope pos) 0 it acc env).onRaise (fun x=>do noteFrame x env;theTreesLotGoes x)) _ _ s
 refine wpAny_noted (wpAny_noRaise ?_)
 rw [compTurn_list]
 refine wpAny_bind (wpAny_standAt (wpAny_bind (wpAny_mono (turn n s hI) (fun r s₁ h₁=>?_) fun _ _ h'=>h')))
 cases r with
 | none=>exact wpAny_pure h₁
 | some v=>
  refine wpAny_bind (wpAny_mono h₁ (fun _ s₀ h₀=>?_) fun _ _ h'=>h')
  refine wpAny_bind (wpAny_mono h₀ (fun _ s₂ h₂=>wpAny_bind (wpAny_mono h₂ (fun ok s₃ h₃=>?_) fun _ _ h'=>h')) fun _ _ h'=>h')
  cases ok with
  | false=>exact wpAny_pure ⟨rfl,h₃⟩
  | true=>
   exact wpAny_bind (wpAny_bind (wpAny_mono h₃ (fun x s₄ h₄=>wpAny_bind (wpAny_mono h₄ (fun _ s₅ h₅=>wpAny_pure (wpAny_pure ⟨rfl,h₅⟩)) fun _ _ h'=>h')) fun _ _ h'=>h'))
noncomputable def PTs (X:Cx) (ifs:List Expr) (t:TT):Prop:=
 ∀ (pins:List (Addr × Obj)) (s:Shared) (σ:St) (H:Hp) (Q:Bool→Hp→Prop),Inv X pins σ H s→t σ H Q →
  wpAny (model X.prog X.w) X.A (forIn ifs true fun c r=>if r=true then do let ok ← isTrue c X.env (eval c X.env);pure (ForInStep.yield ok) else pure (ForInStep.yield r)) (TP X pins σ Q) X.xe s
noncomputable def mr:TT:=fun _ H Q=>Q true H
theorem ie {X:Cx}:PTs X [] mr:=fun _ _ _ H _ I h=>wpAny_tests_nil ⟨H,I,h⟩
noncomputable def Sub (σ σ':St):Prop:=σ'.length=σ.length∧∀ (i:Nat) (v:V),σ[i]? = some (some v)→σ'[i]? = some (some v)
theorem Sub.refl (σ:St):Sub σ σ:=⟨rfl,fun _ _ h=>h⟩
theorem Sub.set {σ σ':St} {i:Nat} {x:Option V} (h:Sub σ σ') (e:σ[i]? = some none):Sub σ (σ'.set i x):=by
 refine ⟨by rw [List.length_set];exact h.1,fun j v q=>?_⟩
 have hj:i ≠ j:=fun z=>by subst z;rw [e] at q;cases q
 rw [List.getElem?_set_ne hj]
 exact h.2 j v q
noncomputable def Qp (J:It) (g:TG) (tc:TT) (te:TE) (σb:St) (Q:VK) (W:Nat→Nat→List V→Hp→Prop):Prop:=∀ i m ys H,W i m ys H →
 (J.stop i H∧∀ p,H p=none→Q (.ref p) (upd H p (.lst ys))) ∨
 (J.go i H∧ys.length < sizeLine∧∀ x H',J.yld i H x H'→g x σb H' fun σ2 H2=>Sub σb σ2∧tc σ2 H2 fun c H3=>if c=true then te σ2 H3 fun y H4=>∃ m',m' < m∧W (i + 1) m' (ys ++ [y]) H4 else ∃ m',m' < m∧W (i + 1) m' ys H3)
noncomputable def rD (wi:TI) (g:TG) (tc:TT) (te:TE) (sel:List (Option Nat)):TE:=fun σ H Q=>wi σ H fun J H1=>∃ W:Nat→Nat→List V→Hp→Prop,(∃ m,W 0 m [] H1)∧Qp J g tc te (blk sel σ) Q W
section
variable {X:Cx} {elt tg iter:Expr} {ifs:List Expr} {scope:Scope} {pos:Pos} {wi:TI} {g:TG} {tc:TT} {te:TE} {N:List Str} {sel:List (Option Nat)}
structure Blk (X:Cx) (scope:Scope) (N:List Str) (tg elt:Expr) (ifs:List Expr) (g:TG) (tc:TT) (te:TE):Prop where
 tgt:∀ C s H fp,PG (X.block scope C N s H fp) tg g
 tests:∀ C s H fp,PTs (X.block scope C N s H fp) ifs tc
 elem:∀ C s H fp,PE (X.block scope C N s H fp) elt te
theorem Blk.of {X:Cx} {scope:Scope} {N:List Str} {tg elt:Expr} {ifs:List Expr} {g:TG} {tc:TT} {te:TE} (h1:∀ C s H fp,PG (X.block scope C N s H fp) tg g)
  (h2:∀ C s H fp,∃ t,PTs (X.block scope C N s H fp) ifs t∧t=tc) (h3:∀ C s H fp,∃ t,PE (X.block scope C N s H fp) elt t∧t=te):Blk X scope N tg elt ifs g tc te:=
 ⟨h1,fun C s H fp=>by obtain ⟨t,h,rfl⟩:=h2 C s H fp;exact h,fun C s H fp=>by obtain ⟨t,h,rfl⟩:=h3 C s H fp;exact h⟩
theorem Ap {pins:List (Addr × Obj)} {s₂:Shared} {σ:St} {H₂:Hp} {Q:VK} {it:Addr} {fp:List Addr} {tn:Nat→Heap→Prop} {J:It} {W:Nat→Nat→List V→Hp→Prop} {E:Value→Shared→Prop} {RR:Value→Addr→Result→Shared→Prop}
  (hc:X.calm=true) (S:Ck X.env scope) (hsel:fw X.N scope N sel) (B:Blk X scope N tg elt ifs g tc te) (I2:Inv X pins σ H₂ s₂) (T:Sz X.prog X.w X.K tg J fp it tn) (st2:tn 0 s₂.heap) (f2:∀ b ∈ fp,pp X pins H₂ b)
  (w0:∃ m,W 0 m [] H₂) (hW:Qp J g tc te (blk sel σ) Q W)
  (fin:∀ D C ys H' s',Inv X pins σ (upd H' D (.lst ys)) s'→(∃ m,s'.heap.Ns C m)→pp X pins (upd H' D (.lst ys)) C→Q (.ref D) (upd H' D (.lst ys))→RR (.ref D) C (.ok .next) s') :
  wpAny (model X.prog X.w) X.A (newList []) (fun acc s₃=>wpAny (model X.prog X.w) X.A (newFunctionEnv scope X.env.globals (qp X.env.cells scope.names []) [] X.env.qual none .none (some X.env)) (fun cenv s₄=>
   codeAny (model X.prog X.w) X.A (.compStart (.ListComp elt [⟨tg,iter,ifs,0⟩] scope pos) 0 (.ref it) acc { cenv with scope:=relabel scope X.env }) (RR acc cenv.locals) s₄) E s₃) E s₂:=by
 refine wpAny_newObj_type (wpAny_newFunctionEnv S.nocell (by intro y hy;simp at hy) (fun h₁ hns₁ hsb₁=>?_) S.kind)
 dsimp only at hns₁ hsb₁ ⊢
 generalize hH2:s₂.heap.push { cls:=.type "list",dict:=none,data:=.seq ([]:List Value).toArray }=H2 at hns₁ hsb₁ ⊢
 have hC:H2.objs.size=s₂.heap.objs.size + 1:=by rw [← hH2,Heap.size_push]
 have hDC:s₂.heap.objs.size ≠ H2.objs.size:=by rw [hC];exact Nat.ne_of_lt (Nat.lt_succ_self _)
 have hCle:s₂.heap.objs.size ≤ H2.objs.size:=by rw [hC];exact Nat.le_succ _
 have below:∀ b,b < s₂.heap.objs.size→b ≠ H2.objs.size∧b ≠ s₂.heap.objs.size:=fun b hb=>⟨by rw [hC];exact Nat.ne_of_lt (Nat.lt_succ_of_lt hb),Nat.ne_of_lt hb⟩
 have old:∀ b o,s₂.heap.get? b=some o→h₁.get? b=some o:=fun b o e=>hsb₁.extBut b o (below b (Heap.lt_size e)).1 (Heap.get?_push_of_some _ (hH2 ▸ Heap.get?_push_of_some _ e))
 have hacc:h₁.get? s₂.heap.objs.size=some { cls:=.type "list",data:=.seq ([]:List Value).toArray }:=hsb₁.extBut _ _ hDC (Heap.get?_push_of_some _ (hH2 ▸ Heap.get?_push_size _ rfl))
 have fps:∀ b ∈ fp,b < s₂.heap.objs.size:=fun b hb=>by
  obtain ⟨o,e,_⟩:=T.obj _ _ st2 b hb
  exact Heap.lt_size e
 generalize hCe:H2.objs.size=C at *
 generalize hDe:s₂.heap.objs.size=D at *
 have st1:tn 0 h₁:=T.keep _ _ _ st2 fun b _ o e=>old b o e
 have IB0:Inv (X.block scope C N s₂ H₂ fp) [] (blk sel σ) H₂ { s₂ with heap:=h₁,toks:=s₂.toks + ([]:List (Str × Value)).length }:=
  bv I2 S f2 (fun b hb=>by rw [hDe];exact fps b hb) (by rw [hDe];exact hCle) old hns₁ hsel
 have hDfs:D ∉ (X.block scope C N s₂ H₂ fp).fs:=fun z=>by
  have z':=I2.stkSub D z
  rcases List.mem_cons.mp z' with e | e
  ·exact absurd I2.lt (by rw [← e,hDe];exact Nat.lt_irrefl _)
  ·exact I2.nofs (by rw [hDe];exact Nat.le_refl _) e
 have loop:∀ s₃:Shared,s₃ = { s₂ with heap:=h₁,toks:=s₂.toks + ([]:List (Str × Value)).length } →
   codeAny (model X.prog X.w) X.A (.compLoop (.ListComp elt [⟨tg,iter,ifs,0⟩] scope pos) 0 (.ref it) (.ref D) (compEnvC scope (qp X.env.cells scope.names []) C X.env)) (RR (.ref D) C) s₃:=by
  rintro s₃ rfl
  obtain ⟨m0,w0⟩:=w0
  refine Wh (fun k s'=>∃ i ys us n H',Inv (X.block scope C N s₂ H₂ fp) [(D,{ cls:=.type "list",data:=.seq us n })] (blk sel σ) H' s'∧(∃ vs:List Value,us=vs.toArray∧Kc ys vs)∧ys.length ≤ sizeLine∧tn i s'.heap∧(∀ b ∈ fp,H' b=none)∧W i k ys H') ?_ m0
   ⟨0,[],_,0,H₂,IB0.pins_of fun p hp=>?_,⟨[],rfl,.nil⟩,Nat.zero_le _,st1,fun b hb=>(f2 b hb).1,w0⟩
  ·rintro k s' ⟨i,ys,us,n,H',IB,⟨vs,rfl,rv⟩,hyz,st,fr,w⟩
   have fpB:∀ {pl:List (Addr × Obj)} {H'':Hp},(∀ p ∈ pl,p.1=D)→(∀ b ∈ fp,H'' b=none)→∀ b ∈ fp,pp (X.block scope C N s₂ H₂ fp) pl H'' b:=fun {pl H''} hp hn b hb=>
    ⟨hn b hb,(below b (fps b hb)).1,(vt (N:=N) (C:=C) I2 S f2 (fun b hb=>by rw [hDe];exact fps b hb) (by rw [hDe];exact hCle)).exfs b hb,.inl hb,fun x c e=>(f2 b hb).2.2.2.2.1 x c (Pn e),fun p hpp z=>by
     have hpp':p ∈ pl:=by simpa using hpp
     exact (below b (fps b hb)).2 (by rw [← z];exact hp p hpp')⟩
   have hD1:∀ p ∈ [((D,{ cls:=.type "list",data:=.seq vs.toArray n }):Addr × Obj)],p.1=D:=fun p hp=>by
    have e:p=(D,{ cls:=.type "list",data:=.seq vs.toArray n }):=by simpa using hp
    rw [e]
   rcases hW i k ys H' w with ⟨stop,qn⟩ | ⟨go,hlen,step⟩
   ·refine thn (T.done (X.block scope C N s₂ H₂ fp) rfl rfl rfl hc i _ s' _ H' _ IB (fpB hD1 fr) st stop) fun r s4 hZ1=>?_
    obtain ⟨hr,I4⟩:=hZ1
    subst hr
    -- the block is left
    have pD:=I4.pin (D,{ cls:=.type "list",data:=.seq vs.toArray n }) (by simp)
    have hDn:H' D=none:=pD.2.1
    have IX:Inv X pins σ H' s4:=I2.call' (ch:=fp) I4.os I4.base I4.hok I4.bare fun b hb=>⟨(f2 b hb).2.2.2.1,(f2 b hb).2.1,(f2 b hb).2.2.2.2.1,(f2 b hb).2.2.2.2.2⟩
    have foD:pp X pins H' D:=I2.fpOk (by rw [hDe];exact Nat.le_refl _) hDn
    have IA:Inv X pins σ (upd H' D (.lst ys)) s4:=IX.adopt foD ⟨hyz,vs,n,rv,pD.1⟩
    obtain ⟨mC,hnC,_⟩:=I4.loc
    refine fin D C ys H' s4 IA ⟨mC,hnC⟩ (I2.fpOk (by rw [hDe];exact hCle) ?_) (qn D hDn)
    rw [qb (Ne.symm hDC)]
    exact I4.free
   ·refine thn (T.item (X.block scope C N s₂ H₂ fp) rfl rfl rfl hc i _ s' _ H' _ IB (fpB hD1 fr) st go) fun r s4 hZ1=>?_
    obtain ⟨u,hr,h4⟩:=hZ1
    subst hr
    refine thn h4 fun _ s5 hZ1=>?_
    obtain ⟨x,H5,I5,r5,y5,st5,fr5⟩:=hZ1
    have I5':=I5.pinned (fpB hD1 fr5) (T.obj _ _ st5)
    refine thn (B.tgt C s₂ H₂ fp _ s5 _ H5 x u _ I5' r5 (step x H5 y5)) fun _ s6 hZ1=>?_
    obtain ⟨σ6,H6,I6,sb,q6⟩:=hZ1
    refine thn (B.tests C s₂ H₂ fp _ s6 σ6 H6 _ I6 q6) fun c s7 hZ1=>?_
    obtain ⟨H7,I7,q7⟩:=hZ1
    have again:∀ {σ8:St} {H8:Hp} {s8:Shared},Inv (X.block scope C N s₂ H₂ fp) ([(D,{ cls:=.type "list",data:=.seq vs.toArray n })] ++ jq fp s5.heap) σ8 H8 s8→tn (i + 1) s8.heap∧(∀ b ∈ fp,H8 b=none):=fun {σ8 H8 s8} I8=>by
     refine ⟨T.keep _ _ _ st5 fun b hb o e=>(I8.pin (b,o) (List.mem_append_right _ (List.mem_append_right _ (Sh hb e)))).1,fun b hb=>?_⟩
     obtain ⟨o,e,d⟩:=T.obj _ _ st5 b hb
     exact (I8.pin (b,o) (List.mem_append_right _ (List.mem_append_right _ (Sh hb e)))).2.1
    have back:∀ {H8:Hp} {s8:Shared} {pl:List (Addr × Obj)},Inv (X.block scope C N s₂ H₂ fp) pl σ6 H8 s8→Inv (X.block scope C N s₂ H₂ fp) pl (blk sel σ) H8 s8:=fun {H8 s8 pl} I8=>I8.weak sb.1.symm sb.2
    cases c with
    | false=>
     obtain ⟨m',hm,w'⟩:=q7
     obtain ⟨t1,t2⟩:=again I7
     exact ⟨m',hm,i + 1,ys,_,n,H7,back I7.unpinned,⟨vs,rfl,rv⟩,hyz,t1,t2,w'⟩
    | true=>
     refine thn (B.elem C s₂ H₂ fp _ s7 σ6 H7 _ I7 q7) fun v s8 hZ1=>?_
     obtain ⟨y,H8,I8,r8,m',hm,w'⟩:=hZ1
     obtain ⟨t1,t2⟩:=again I8
     have pD:=I8.pin (D,{ cls:=.type "list",data:=.seq vs.toArray n }) (by simp)
     refine append_at (hsz:=by have:=rv.length;rw [List.size_toArray];omega) pD.1 fun h9 hs9 hD9=>?_
     have IB':Inv (X.block scope C N s₂ H₂ fp) [] (blk sel σ) H8 s8:=(back I8).pins_of fun p hp=>nomatch hp
     have foD:pp (X.block scope C N s₂ H₂ fp) [] H8 D:=⟨pD.2.1,hDC,hDfs,.inr (by show s₂.heap.objs.size ≤ D;rw [hDe];exact Nat.le_refl _),(fun x c e z=>by
      obtain ⟨cv,o,ho,hd⟩:=I8.cell x c e
      rw [z,pD.1] at ho
      cases ho
      cases hd),(fun p hp=>nomatch hp)⟩
     have I9:Inv (X.block scope C N s₂ H₂ fp) [] (blk sel σ) H8 { s8 with heap:=h9 }:=IB'.turned (t':=s8.toks) (it:=D) (fun b o hb e=>(hs9.2 b hb).trans e) foD.1 foD.2.1 foD.2.2.2.1 foD.2.2.2.2.1 foD.2.2.2.2.2
     refine ⟨m',hm,i + 1,ys ++ [y],vs.toArray.push v,n + 1,H8,I9.pins_of fun p hp=>?_,⟨vs ++ [v],by simp,Paired.snoc rv r8⟩,by rw [List.length_append,List.length_singleton];omega,T.keep _ _ _ t1 fun b hb o e=>(hs9.2 b (below b (fps b hb)).2).trans e,t2,w'⟩
     have e:p=(D,{ cls:=.type "list",data:=.seq (vs.toArray.push v) (n + 1) }):=by simpa using hp
     subst e
     exact ⟨hD9,pD.2.1,hDC,hDfs,fun v z=>by cases z⟩
  ·have e:p=(D,{ cls:=.type "list",data:=.seq ([]:List Value).toArray }):=by simpa using hp
   subst e
   exact ⟨hacc,I2.hok.fresh (by rw [hDe];exact Nat.le_refl _),hDC,hDfs,fun v z=>by cases z⟩
 exact codeAny_compStart_list (loop _ rfl) (T.self _ 0 _ _ _ st1 (loop _ rfl))
theorem df (hc:X.calm=true) (hi:PI X tg iter wi) (S:Ck X.env scope) (hsel:fw X.N scope N sel) (B:Blk X scope N tg elt ifs g tc te)
  (hs:∀ x,foldedSetIterable iter X.env x=pure x:=by intro _;rfl):PE X (.ListComp elt [⟨tg,iter,ifs,0⟩] scope pos) (rD wi g tc te sel):=by
 intro pins s σ H Q I h
 rw [eval_ListComp]
 refine wpAny_comprehension_free (use:=none) rfl hs (lx (S.cells I.ok)) S.kind S.loc ?_
 refine thn (hi pins s σ H _ I h) fun v s1 h1=>thn h1 fun itv s2 h2=>?_
 obtain ⟨it,fp,tn,J,H2,e,I2,T,st2,f2,W,w0,hW⟩:=h2
 subst e
 refine Ap (RR:=fun acc C=>compPost (model X.prog X.w) X.A X.xe none (EP X pins σ Q) acc C) hc S hsel B I2 T st2 f2 w0 hW fun D C ys H' s' I' ⟨m,hm⟩ fo q=>?_
 exact ⟨m,hm,fun h' hsb=>⟨.ref D,_,I'.turned (t':=s'.toks) (it:=C) (fun b o hb e=>(hsb.2 b hb).trans e) fo.1 fo.2.1 fo.2.2.2.1 fo.2.2.2.2.1 fo.2.2.2.2.2,rfl,q⟩⟩
theorem Yn {i:Nat} {y:Str} {py spos:Pos} (hN:X.N.Nodup) (hi:X.N[i]? = some y) (hx:Loc X.env.scope y) (hc:X.calm=true) (hit:PI X tg iter wi) (S:Ck X.env scope) (hsel:fw X.N scope N sel) (B:Blk X scope N tg elt ifs g tc te)
  (hsw:swapsWith (.ListComp elt [⟨tg,iter,ifs,0⟩] scope pos) (some (.Name y py)) spos.line X.env=pure true) (hf:X.fn y=true∨X.env.scope.names.lookup y=some .local:=by first | exact .inl rfl | exact .inr rfl | assumption)
  (hs:∀ x,foldedSetIterable iter X.env x=pure x:=by intro _;rfl):PS X (.Assign [.Name y py] (.ListComp elt [⟨tg,iter,ifs,0⟩] scope pos) spos) (LG (rD wi g tc te sel) (vp i)):=by
 intro pins s σ H D I h
 rw [exec_Assign_Name_used _ _ _ _ hsw]
 refine wpAny_bind (wpAny_standAt (wpAny_bind ?_))
 show wpAny _ X.A (do let _ ← comprehension (.ListComp elt [⟨tg,iter,ifs,0⟩] scope pos) scope X.env _ (newList []) false (eval iter X.env) (some (assign (.Name y py) X.env))) _ _ s
 refine wpAny_bind (wpAny_mono (wpAny_comprehension_free (use:=some (assign (.Name y py) X.env)) (Q:=fun _ s'=>SP X pins D .next s') rfl hs (lx (S.cells I.ok)) S.kind S.loc ?_) (fun _ s' hq=>wpAny_pure (wpAny_pure hq)) fun _ _ e=>e)
 refine thn (hit pins s σ H _ I h) fun v s1 h1=>thn h1 fun itv s2 h2=>?_
 obtain ⟨it,fp,tn,J,H2,e,I2,T,st2,f2,W,w0,hW⟩:=h2
 subst e
 refine Ap (RR:=fun acc C=>compPost (model X.prog X.w) X.A X.xe (some (assign (.Name y py) X.env)) (fun _ s'=>SP X pins D .next s') acc C) hc S hsel B I2 T st2 f2 w0 hW fun Da C ys H' s' I' ⟨m,hm⟩ fo q=>?_
 show wpAny _ X.A (assign (.Name y py) X.env (.ref Da)) _ _ _
 refine wpAny_assign_Name (gq I' hN hi hx (show Qc (.ref Da) (.ref Da) from rfl) (fun s3 I3 hZ1=>?_) hf)
 obtain ⟨a,hsb,ha⟩:=hZ1
 have hCa:C ≠ a:=by
  rcases ha with z | z
  ·rw [z];exact fo.2.1
  ·exact fun w=>fo.2.2.2.2.1 y a z w.symm
 refine ⟨m,hm.sameBut hsb hCa,fun h' hsb'=>⟨_,_,I3.turned (t':=s3.toks) (it:=C) (fun b o hb e=>(hsb'.2 b hb).trans e) fo.1 fo.2.1 fo.2.2.2.1 fo.2.2.2.2.1 fo.2.2.2.2.2,q⟩⟩
end
noncomputable def ke (Pv:Nat→List V→Hp→Prop) (g:TG) (tc:TT) (te:TE) (σb:St) (i:Nat) (x:V) (ys:List V) (H:Hp):Prop:=
 ∀ N:List V→Hp→Prop,(∀ ys' H',Pv (i + 1) ys' H'→N ys' H')→g x σb H fun σ2 H2=>Sub σb σ2∧tc σ2 H2 fun c H3=>if c=true then te σ2 H3 fun y H4=>N (ys ++ [y]) H4 else N ys H3
theorem bx {K:PySem.W.Frag} {a:Addr} {xs:List V} {g:TG} {tc:TT} {te:TE} {σb:St} {Q:VK} {H:Hp} (Pv:Nat→List V→Hp→Prop) (hz:xs.length ≤ sizeLine) (h0:Pv 0 [] H) (hl:∀ i ys H,i ≤ xs.length→Pv i ys H→SqL K H a xs∧ys.length ≤ i)
  (hs:∀ i x ys H,xs[i]? = some x→Pv i ys H→ke Pv g tc te σb i x ys H) (hd:∀ ys H,Pv xs.length ys H→∀ p,H p=none→Q (.ref p) (upd H p (.lst ys))) :
  ∃ W:Nat→Nat→List V→Hp→Prop,(∃ m,W 0 m [] H)∧Qp (Itl K a) g tc te σb Q W:=by
 refine ⟨fun i m ys H=>m=xs.length - i∧i ≤ xs.length∧Pv i ys H,⟨xs.length,by simp,Nat.zero_le _,h0⟩,?_⟩
 rintro i m ys H ⟨rfl,hi,p⟩
 have q:=(hl i ys H hi p).1
 have hyl:=(hl i ys H hi p).2
 by_cases hlt:i < xs.length
 ·refine .inr ⟨⟨xs,xs[i],q,by simp [hlt]⟩,by omega,fun x H' y=>?_⟩
  obtain ⟨e,y⟩:=y
  subst e
  exact hs i x ys _ (y xs q) p (fun ys' H'=>∃ m',m' < xs.length - i∧m'=xs.length - (i + 1)∧i + 1 ≤ xs.length∧Pv (i + 1) ys' H') fun ys' H' r=>⟨xs.length - (i + 1),by omega,rfl,hlt,r⟩
 ·have e:i=xs.length:=by omega
  subst e
  exact .inl ⟨⟨xs,q,Nat.le_refl _⟩,hd ys H p⟩
theorem Yy {K:PySem.W.Frag} {a:Addr} {xs:List V} {g:TG} {tc:TT} {te:TE} {σb:St} {Q:VK} {H:Hp} (Pv:Nat→List V→Hp→Prop) (hz:xs.length ≤ sizeLine) (h0:Pv 0 [] H) (hl:∀ i ys H,i ≤ xs.length→Pv i ys H→SqT K H a xs∧ys.length ≤ i)
  (hs:∀ i x ys H,xs[i]? = some x→Pv i ys H→ke Pv g tc te σb i x ys H) (hd:∀ ys H,Pv xs.length ys H→∀ p,H p=none→Q (.ref p) (upd H p (.lst ys))) :
  ∃ W:Nat→Nat→List V→Hp→Prop,(∃ m,W 0 m [] H)∧Qp (Itt K a) g tc te σb Q W:=by
 refine ⟨fun i m ys H=>m=xs.length - i∧i ≤ xs.length∧Pv i ys H,⟨xs.length,by simp,Nat.zero_le _,h0⟩,?_⟩
 rintro i m ys H ⟨rfl,hi,p⟩
 have q:=(hl i ys H hi p).1
 have hyl:=(hl i ys H hi p).2
 by_cases hlt:i < xs.length
 ·refine .inr ⟨⟨xs,xs[i],q,by simp [hlt]⟩,by omega,fun x H' y=>?_⟩
  obtain ⟨e,y⟩:=y
  subst e
  exact hs i x ys _ (y xs q) p (fun ys' H'=>∃ m',m' < xs.length - i∧m'=xs.length - (i + 1)∧i + 1 ≤ xs.length∧Pv (i + 1) ys' H') fun ys' H' r=>⟨xs.length - (i + 1),by omega,rfl,hlt,r⟩
 ·have e:i=xs.length:=by omega
  subst e
  exact .inl ⟨⟨xs,q,Nat.le_refl _⟩,hd ys H p⟩
theorem Bu {lo:Int} {n:Nat} {g:TG} {tc:TT} {te:TE} {σb:St} {Q:VK} {H:Hp} (Pv:Nat→List V→Hp→Prop) (hz:n ≤ sizeLine) (h0:Pv 0 [] H) (hl:∀ i ys H,i ≤ n→Pv i ys H→ys.length ≤ i)
  (hs:∀ i ys H,i < n→Pv i ys H→ke Pv g tc te σb i (.int (lo + i)) ys H) (hd:∀ ys H,Pv n ys H→∀ p,H p=none→Q (.ref p) (upd H p (.lst ys))) :
  ∃ W:Nat→Nat→List V→Hp→Prop,(∃ m,W 0 m [] H)∧Qp (Itr lo n) g tc te σb Q W:=by
 refine ⟨fun i m ys H=>m=n - i∧i ≤ n∧Pv i ys H,⟨n,by simp,Nat.zero_le _,h0⟩,?_⟩
 rintro i m ys H ⟨rfl,hi,p⟩
 have hyl:=hl i ys H hi p
 by_cases hlt:i < n
 ·refine .inr ⟨hlt,by omega,fun x H' y=>?_⟩
  obtain ⟨e,y⟩:=y
  subst e y
  exact hs i ys _ hlt p (fun ys' H'=>∃ m',m' < n - i∧m'=n - (i + 1)∧i + 1 ≤ n∧Pv (i + 1) ys' H') fun ys' H' r=>⟨n - (i + 1),by omega,rfl,hlt,r⟩
 ·have e:i=n:=by omega
  subst e
  exact .inl ⟨Nat.le_refl _,hd ys H p⟩
end L2
namespace L2
open PySem PySem.Spec PyProof.Rows
noncomputable def Its (xs:List V):It:=⟨fun i _=>i < xs.length,fun i H x H'=>H'=H∧xs[i]? = some x,fun i _=>xs.length ≤ i⟩
theorem Cn {P:Program} {w:World} {K:PySem.W.Frag} {tg:Expr} {it:Addr} {xs:List V} {PV:Nat→Value→Prop} {St:Nat→Heap→Prop} (hW:∀ A:Around,A.handled=none→Walks P w A it [it] [it] xs.length PV St)
  (hP:∀ i v,PV i v→∃ x,xs[i]? = some x∧Qc x v)
  (hgo:∀ i h,St i h→∃ o n vs,h.get? it=some o∧o.cls=.type n∧o.data=.fields vs∧["enumerate","zip","dict_itemiterator","dict_reverseitemiterator","odict_iterator","itertools.zip_longest","itertools.pairwise"].contains n=false)
  (hfr:∀ i h h',St i h→(∀ o,h.get? it=some o→h'.get? it=some o)→St i h')
  (hself:∀ (A:Around) (i:Nat) (s:Shared) (Q:Value→Shared→Prop) (E:Value→Shared→Prop),St i s.heap→Q (.ref it) s→wpAny (model P w) A (pyIter (.ref it)) Q E s) :
  Sz P w K tg (Its xs) [it] it (fun i h=>i ≤ xs.length∧St i h) where
 mem:=by simp
 obj:=fun i h st b hb=>by
  have e:b=it:=by simpa using hb
  subst e
  obtain ⟨o,n,vs,e,_,d,_⟩:=hgo i h st.2
  exact ⟨o,e,fun v z=>by rw [d] at z;cases z⟩
 keep:=fun i h h' st k=>⟨st.1,hfr i h h' st.2 fun o e=>k it (by simp) o e⟩
 item:=by
  intro X hP' hw hK hc i pins s σ H E I hf st hg
  subst hP' hw hK
  obtain ⟨f0,f1,f2,f3,f4,f5⟩:=hf it (by simp)
  refine (hW X.A (I.ok.hd hc)).item i s _ _ hg st.2 fun v h' tk hv st' kk=>?_
  obtain ⟨x,hx,rx⟩:=hP i v hv
  have I1:Inv X pins σ H { s with heap:=h',toks:=tk }:=I.turned (fun b o hb e=>kk b o (by simpa using hb) e) f0 f1 f3 f4 f5
  obtain ⟨o,n,vs,e,c,d,nm⟩:=hgo _ _ st'
  exact ⟨v,rfl,sv (s:={ s with heap:=h',toks:=tk }) e c d nm ⟨x,H,I1,rx,⟨rfl,hx⟩,⟨hg,st'⟩,fun b hb=>(hf b hb).1⟩⟩
 done:=by
  intro X hP' hw hK hc i pins s σ H E I hf st hg
  subst hP' hw hK
  obtain ⟨f0,f1,f2,f3,f4,f5⟩:=hf it (by simp)
  have e:i=xs.length:=Nat.le_antisymm st.1 hg
  subst e
  exact (hW X.A (I.ok.hd hc)).done s _ _ st.2 fun h' tk kk=>⟨rfl,I.turned (fun b o hb e=>kk b o (by simpa using hb) e) f0 f1 f3 f4 f5⟩
 self:=fun A i s Q E st h=>hself A i s Q E st.2 h
noncomputable def Kq (c:Nat):Str:=⟨#[c]⟩
noncomputable def Vg (x:Str):List V:=x.cps.toList.map fun c=>V.str (Kq c)
theorem jj (x:Str):(Vg x).length=x.cps.size:=by unfold Vg;simp
theorem Kw {x:Str} {i c:Nat} (h:x.cps[i]? = some c):(Vg x)[i]? = some (.str (Kq c)):=by
 unfold Vg
 rw [List.getElem?_map,Array.getElem?_toList,h]
 rfl
theorem Jn {x:Str} {i:Nat} {v:Value} (h:SignAt x i v):∃ y,(Vg x)[i]? = some y∧Qc y v:=by
 obtain ⟨c,u,hc,rfl⟩:=h
 exact ⟨.str (Kq c),Kw hc,u,rfl⟩
section
variable {X:Cx} {tg:Expr}
noncomputable def pI (tl:TE):TI:=fun σ H R=>tl σ H fun x H1=>∃ z,x=.str z∧R (Its (Vg z)) H1
theorem dF {l:Expr} {tl:TE} (hl:PE X l tl):PI X tg l (pI tl):=by
 intro pins s σ H R I h
 refine thn (hl pins s σ H _ I h) fun v s1 hZ1=>?_
 obtain ⟨x,H1,I1,r1,q1⟩:=hZ1
 obtain ⟨z,e,q⟩:=q1
 subst e
 obtain ⟨t,rfl⟩:=r1
 have fo:∀ b ∈ [s1.heap.objs.size],pp X pins H1 b:=fun b hb=>by
  have e:b=s1.heap.objs.size:=by simpa using hb
  subst e
  exact I1.fpOk (Nat.le_refl _) (I1.hok.fresh (Nat.le_refl _))
 have hz:=jj z
 cases ha:z.cps.all (· < 128) with
 | false=>
  refine wpAny_pyIter_wide ha ⟨s1.heap.objs.size,[s1.heap.objs.size],fun i h=>i ≤ (Vg z).length∧h.IsStrIter s1.heap.objs.size "str_iterator" z t i,_,H1,rfl,I1.kept (t':=s1.toks) fun b o e=>Heap.get?_push_of_some _ e,
   Cn (fun A hA=>by rw [hz];exact Walks.strWide hA _ z t) (fun i v=>Jn) (fun i h ⟨o,e,c,d⟩=>⟨o,_,_,e,c,d,by decide⟩) (fun i h h' ⟨o,e,r⟩ k=>⟨o,k o e,r⟩) (fun A i s Q E st q=>wpAny_pyIter_striter_wide st q),
   ⟨Nat.zero_le _,_,Heap.get?_push_size _ rfl,rfl,rfl⟩,fo,q⟩
 | true=>
  refine wpAny_pyIter_ascii ha ⟨s1.heap.objs.size,[s1.heap.objs.size],fun i h=>i ≤ (Vg z).length∧h.IsStrIter s1.heap.objs.size "str_ascii_iterator" z t i,_,H1,rfl,I1.kept (t':=s1.toks) fun b o e=>Heap.get?_push_of_some _ e,
   Cn (fun A hA=>by rw [hz];exact Walks.strAscii hA _ z t) (fun i v=>Jn) (fun i h ⟨o,e,c,d⟩=>⟨o,_,_,e,c,d,by decide⟩) (fun i h h' ⟨o,e,r⟩ k=>⟨o,k o e,r⟩) (fun A i s Q E st q=>wpAny_pyIter_striter_ascii st q),
   ⟨Nat.zero_le _,_,Heap.get?_push_size _ rfl,rfl,rfl⟩,fo,q⟩
end
theorem WC {xs:List V} {g:TG} {tb:TS} {D:Te} {σ:St} {H:Hp} (Pv:Nat→St→Hp→Prop) (h0:Pv 0 σ H)
  (hs:∀ i x σ H,xs[i]? = some x→Pv i σ H→g x σ H fun σ2 H2=>tb { D with nx:=Pv (i + 1),ct:=Pv (i + 1),bk:=D.nx } σ2 H2) (hd:∀ σ H,Pv xs.length σ H→D.nx σ H) :
  ∃ W:Nat→Nat→St→Hp→Prop,(∃ m,W 0 m σ H)∧∀ i m σ H,W i m σ H →
   ((Its xs).stop i H∧D.nx σ H)∨((Its xs).go i H∧∃ N:St→Hp→Prop,(∀ σ' H',N σ' H'→∃ m',m' < m∧W (i + 1) m' σ' H')∧∀ x H',(Its xs).yld i H x H'→g x σ H' fun σ2 H2=>tb { D with nx:=N,ct:=N,bk:=D.nx } σ2 H2):=by
 refine ⟨fun i m σ H=>m=xs.length - i∧i ≤ xs.length∧Pv i σ H,⟨xs.length,by simp,Nat.zero_le _,h0⟩,?_⟩
 rintro i m σ H ⟨rfl,hi,p⟩
 by_cases hlt:i < xs.length
 ·refine .inr ⟨hlt,Pv (i + 1),fun σ' H' p'=>⟨xs.length - (i + 1),by omega,rfl,hlt,p'⟩,fun x H' y=>?_⟩
  obtain ⟨e,y⟩:=y
  subst e
  exact hs i x σ _ y p
 ·have e:i=xs.length:=by omega
  subst e
  exact .inl ⟨Nat.le_refl _,hd σ H p⟩
theorem jA {xs:List V} {g:TG} {tc:TT} {te:TE} {σb:St} {Q:VK} {H:Hp} (Pv:Nat→List V→Hp→Prop) (hz:xs.length ≤ sizeLine) (h0:Pv 0 [] H) (hl:∀ i ys H,i ≤ xs.length→Pv i ys H→ys.length ≤ i)
  (hs:∀ i x ys H,xs[i]? = some x→Pv i ys H→ke Pv g tc te σb i x ys H) (hd:∀ ys H,Pv xs.length ys H→∀ p,H p=none→Q (.ref p) (upd H p (.lst ys))) :
  ∃ W:Nat→Nat→List V→Hp→Prop,(∃ m,W 0 m [] H)∧Qp (Its xs) g tc te σb Q W:=by
 refine ⟨fun i m ys H=>m=xs.length - i∧i ≤ xs.length∧Pv i ys H,⟨xs.length,by simp,Nat.zero_le _,h0⟩,?_⟩
 rintro i m ys H ⟨rfl,hi,p⟩
 have hyl:=hl i ys H hi p
 by_cases hlt:i < xs.length
 ·refine .inr ⟨hlt,by omega,fun x H' y=>?_⟩
  obtain ⟨e,y⟩:=y
  subst e
  exact hs i x ys _ y p (fun ys' H'=>∃ m',m' < xs.length - i∧m'=xs.length - (i + 1)∧i + 1 ≤ xs.length∧Pv (i + 1) ys' H') fun ys' H' r=>⟨xs.length - (i + 1),by omega,rfl,hlt,r⟩
 ·have e:i=xs.length:=by omega
  subst e
  exact .inl ⟨Nat.le_refl _,hd ys H p⟩
section
variable {X:Cx}
noncomputable def wI:V→Option Int→Option Int→Hp→VK→Prop:=fun x lo hi H Q=>∃ z,x=.str z∧z.length ≤ sizeLine∧Q (.str (Txt.slice z lo hi)) H
theorem Rv:SlR X wI:=by
 intro pins s σ H x v vl vu lo hi sl Q I rx hs pl pu h
 obtain ⟨z,rfl,hz,q⟩:=h
 obtain ⟨t,rfl⟩:=rx
 refine ⟨"str",_,F.slot_str_getitem.lookup,typeIs_str s z t,?_⟩
 have fin:∀ t' k,EP X pins σ Q (.str (Txt.slice z lo hi) t') { s with toks:=k }:=fun t' k=>⟨.str _,H,I.tok _,⟨_,rfl⟩,q⟩
 cases pl with
 | none=>
  cases pu with
  | none=>exact wpAny_getItem_str_slice (l:=none) (u:=none) (st:=none) hs rfl (post_val_or_str ⟨Nat.le_trans (Txt.slice_le z _ _) hz,fin⟩)
  | int j uj=>exact wpAny_getItem_str_slice (l:=none) (u:=some (j,uj)) (st:=none) hs rfl (post_val_or_str ⟨Nat.le_trans (Txt.slice_le z _ _) hz,fin⟩)
 | int i ui=>
  cases pu with
  | none=>exact wpAny_getItem_str_slice (l:=some (i,ui)) (u:=none) (st:=none) hs rfl (post_val_or_str ⟨Nat.le_trans (Txt.slice_le z _ _) hz,fin⟩)
  | int j uj=>exact wpAny_getItem_str_slice (l:=some (i,ui)) (u:=some (j,uj)) (st:=none) hs rfl (post_val_or_str ⟨Nat.le_trans (Txt.slice_le z _ _) hz,fin⟩)
noncomputable def nc (ys:List Str):List V:=ys.map V.str
theorem Fu:∀ {ys:List Str} {us:List Value},Kc (nc ys) us→StrsAre us ys:=by
 intro ys
 induction ys with
 | nil=>intro us r;cases r;exact .nil
 | cons y ys ih=>
  intro us r
  cases r with
  | cons r1 r2=>
   obtain ⟨t,rfl⟩:=r1
   exact .cons y t (ih r2)
theorem Jp:∀ (l:List (Str × Tok)),Kc (nc (l.map (·.1))) (strValues l)
 | []=>.nil
 | (x,t) :: r=>.cons ⟨t,rfl⟩ (Jp r)
noncomputable def GE (K:PySem.W.Frag):V→List V→Hp→VK→Prop:=fun x vs H Q=>∃ sep p ys,x=.str sep∧vs=[.ref p]∧SqL K H p (nc ys)∧(ys.map (·.length)).sum + ys.length * sep.length ≤ 16777216∧Q (.str (Txt.join sep ys)) H
theorem Yq:MtR X "str.join" (GE X.K):=by
 intro pins s σ H x xs v us Q I rx rv h
 obtain ⟨sep,p,ys,rfl,rfl,hq,hz,q⟩:=h
 obtain ⟨t,rfl⟩:=rx
 obtain ⟨u,rfl,ru⟩:=qo rv
 cases ru
 obtain ⟨its,r,pl,_⟩:=I.list hq
 exact join_list pl.isList (by simpa using Fu r) hz fun t' k=>⟨.str _,H,I.tok _,⟨_,rfl⟩,q⟩
end
theorem Ot {prog:Program} {w:World} {A:Around} {E:Value→Shared→Prop} {s:Shared} {x y:Str} {t u:Tok} {Q:Value→Shared→Prop} (hy:(y.length == 0)=false)
  (h:∀ l k,l.map (·.1)=Txt.split x y→Q (.ref s.heap.objs.size) { s with heap:=s.heap.push { cls:=.type "list",data:=.seq (strValues l).toArray },toks:=k }) (hsz:x.length + 2 ≤ sizeLine) :
  wpAny (model prog w) A (call (.builtin "str.split") [.str x t,.str y u]) Q E s:=by
 have hn:(Builtin.Str.partsBetween x (Builtin.Str.occurrences x y 0 x.length (x.length + 1)) y.length).length ≤ sizeLine:=by
  have e1:=StrLaws.occ_length_le x y 0 x.length (x.length + 1)
  rw [length_partsBetween];omega
 cases h1:(decide (x.length < y.length) || decide (Builtin.Str.strKind x < Builtin.Str.strKind y))
 ·cases hf:(Builtin.Str.occurrences x y 0 x.length (x.length + 1)).isEmpty
  ·refine call_meets F.slot_str_split (typeIs_str _ _ _) F.entry_str_split (F.args_str_split_2 _ _) (meets_str_split_sep x y t u h1 hy hf (by omega) hn) ?_
   show wants Q E _ { s with toks:=_,heap:=s.heap.push { cls:=.type "list",data:=.seq (strsFrom s.toks (Builtin.Str.partsBetween x (Builtin.Str.occurrences x y 0 x.length (x.length + 1)) y.length)).toArray } }
   rw [strsFrom_eq]
   exact h (numbered s.toks _) _ ((numbered_texts _ _).trans ((if_neg (ne_true_of_eq_false h1)).trans (if_neg (ne_true_of_eq_false hf))).symm)
  ·exact call_meets F.slot_str_split (typeIs_str _ _ _) F.entry_str_split (F.args_str_split_2 _ _) (meets_str_split_not_found x y t u h1 hy hf)
    (h [(x,t)] s.toks ((if_neg (ne_true_of_eq_false h1)).trans (if_pos hf)).symm)
 ·exact call_meets F.slot_str_split (typeIs_str _ _ _) F.entry_str_split (F.args_str_split_2 _ _) (meets_str_split_cannot_occur x y t u h1)
   (h [(x,t)] s.toks (if_pos h1).symm)
section
variable {X:Cx}
noncomputable def BA:V→List V→Hp→VK→Prop:=fun x vs H Q=>∃ z y,x=.str z∧vs=[.str y]∧y.length ≠ 0∧z.length + 2 ≤ sizeLine∧(Txt.split z y).length ≤ sizeLine∧∀ p,H p=none→Q (.ref p) (upd H p (.lst (nc (Txt.split z y))))
theorem Ms:MtR X "str.split" BA:=by
 intro pins s σ H x xs v us Q I rx rv h
 obtain ⟨z,y,rfl,rfl,hy,hz,hn,q⟩:=h
 obtain ⟨t,rfl⟩:=rx
 obtain ⟨u,rfl,ru⟩:=qo rv
 obtain ⟨tu,rfl⟩:=ru
 refine Ot (by simpa using hy) (fun l k hl=>?_) hz
 refine ⟨.ref s.heap.objs.size,_,I.laid (t':=k) (o:=.lst (nc (Txt.split z y))) (fun b o e=>Heap.get?_push_of_some _ e) (Nat.le_refl _) ⟨by unfold nc;rw [List.length_map];exact hn,strValues l,0,by rw [← hl];exact Jp l,Heap.get?_push_size _ rfl⟩,rfl,q _ (I.hok.fresh (Nat.le_refl _))⟩
noncomputable def xC:V→List V→Hp→VK→Prop:=fun x vs H Q=>∃ z y i Oq,x=.str z∧vs=[.str y]∧Builtin.Str.occurrences z y 0 z.length 1=i :: Oq∧Q (.int (i:Nat)) H
theorem Fx:Th X (.type "int") (fun xs H Q=>∃ z n,xs=[.str z]∧intText? z=some n∧z.length ≤ 640∧Q (.int n) H):=by
 intro pins s σ H xs us Q I r h
 obtain ⟨z,n,rfl,hn,hz,q⟩:=h
 obtain ⟨u,rfl,t,rfl⟩:=qo r
 exact PySem.W.KIN.call_text hn hz ⟨.int n,H,I.tok _,⟨_,rfl⟩,q⟩
theorem Jq:∀ {bs:List Bool} {us:List Value},Kc (bs.map V.bl) us→us=bs.map Value.bool
 | [],_,.nil=>rfl
 | b :: bs,_,.cons r t=>by
  have e:_=Value.bool b:=r
  rw [e,Jq t];rfl
theorem yr {A:Around} (bs:List Bool):TruthOf X.prog X.w A (fun i v=>(bs.map Value.bool).toArray[i]? = some v) (fun i=>bs.getD i true):=by
 intro i v s Q E hP hQ
 have e:(bs.map Value.bool)[i]? = some v:=by simpa using hP
 rw [List.getElem?_map] at e
 cases q:bs[i]? with
 | none=>rw [q] at e;cases e
 | some b=>
  rw [q] at e
  have e':Value.bool b=v:=Option.some.inj e
  subst e'
  refine wpAny_truthy_bool ?_
  have:bs.getD i true=b:=by simp [List.getD,q]
  have hQ':Q (bs.getD i true) s:=hQ
  rw [this] at hQ'
  exact hQ'
theorem Hv (bs:List Bool):(List.range bs.length).all (fun i=>bs.getD i true)=bs.all id:=by
 rw [Bool.eq_iff_iff]
 simp only [List.all_eq_true,List.mem_range,id]
 constructor
 ·intro h b hb
  obtain ⟨i,hi,e⟩:=List.mem_iff_getElem.mp hb
  have:=h i hi
  simp [List.getD,hi,e] at this
  exact this
 ·intro h i hi
  simp [List.getD,hi]
  exact h _ (List.getElem_mem hi)
theorem sy (hc:X.calm=true):Th X (.builtin "all") (fun xs H Q=>∃ (p:Addr) (bs:List Bool),xs=[.ref p]∧SqL X.K H p (bs.map V.bl)∧Q (.bl (bs.all id)) H):=by
 intro pins s σ H xs us Q I r h
 obtain ⟨p,bs,rfl,hq,q⟩:=h
 obtain ⟨u,rfl,ru⟩:=qo r
 cases ru
 obtain ⟨its,rv,pl,_⟩:=I.list hq
 have e:=Jq rv
 subst e
 refine call_all_walk (wpAny_pyIter_list pl.isList ?_)
 have hne:p ≠ s.heap.objs.size:=Nat.ne_of_lt (by obtain ⟨o,_,ho,_⟩:=pl;exact Heap.lt_size ho)
 refine ⟨s.heap.objs.size,_,_,_,_,_,fun i=>bs.getD i true,rfl,Walks.list (show X.A.in1.handled=none from I.ok.hd hc) _ p hne (bs.map Value.bool).toArray,⟨⟨_,Heap.get?_push_size _ rfl,rfl,rfl⟩,pl.isList.at fun o e=>Heap.get?_push_of_some _ e⟩,yr bs,fun h' tk kk=>?_⟩
 refine ⟨.bl (bs.all id),H,I.kept fun b o e=>kk b o (by simpa using Nat.ne_of_lt (Heap.lt_size e)) (Heap.get?_push_of_some _ e),?_,q⟩
 show Value.bool _=Value.bool _
 rw [show (bs.map Value.bool).toArray.size=bs.length by simp,Hv]
theorem Wy:Th X (.builtin "isinstance") (fun xs H Q=>∃ x T t b,xs=[x,.ty T]∧bt X.K H x t∧PySem.W.kitOne X.K t (.type T)=some b∧Q (.bl b) H):=by
 intro pins s σ H xs us Q I r h
 obtain ⟨x,T,t,b,rfl,ty,e,q⟩:=h
 obtain ⟨u,u2,rfl,rx,r2⟩:=oB r
 cases r2
 exact Qw I rx ty e fun tk=>⟨.bl b,H,I.tok _,rfl,q⟩
end
end L2
namespace L2
open PySem PySem.Spec PyProof.Rows
theorem Vh {X:Cx} {N:List Str} (h:N.Nodup) (e:X.N=N):X.N.Nodup:=e ▸ h
noncomputable def Zv (sc scope:Scope):Bool:=
 (scope.kind == .function) && scope.names.all (fun y=>y.2 != .cell) && scope.names.all (fun y=>y.2 != .free || sc.names.lookup y.1 == some .cell || sc.names.lookup y.1 == some .free) &&
  scope.names.all (fun y=>y.2 != .local || scope.names.lookup y.1 == some .local)
theorem Zc {env:Env} {sc scope:Scope} (he:env.scope=sc) (h:Zv sc scope=true):Ck env scope:=by
 subst he
 unfold Zv at h
 simp only [Bool.and_eq_true,List.all_eq_true] at h
 obtain ⟨⟨⟨h1,h2⟩,h3⟩,h4⟩:=h
 refine ⟨by simpa using h1,fun y hy e=>?_,fun y hy e=>?_,fun y hy e=>?_⟩
 ·have:=h2 y hy
  rw [e] at this
  exact absurd this (by decide)
 ·have:=h3 y hy
  rw [e] at this
  simp only [Bool.or_eq_true] at this
  rcases this with (z | z) | z
  ·exact absurd z (by decide)
  ·exact .inl (show env.scope.names.lookup y.1=some .cell by simpa using z)
  ·exact .inr (show env.scope.names.lookup y.1=some .free by simpa using z)
 ·have:=h4 y hy
  rw [e] at this
  simp only [Bool.or_eq_true] at this
  rcases this with z | z
  ·exact absurd z (by decide)
  ·simpa using z
noncomputable def dI (M:List Str) (scope:Scope) (N:List Str) (sel:List (Option Nat)):Bool:=
 sel.length == N.length && (sel.zip N).all fun p=>match p.1 with | none=>true | some j=>M[j]? == some p.2 && scope.names.lookup p.2 == some .free
theorem Ed {M:List Str} {scope:Scope} {N:List Str} {sel:List (Option Nat)} (h:dI M scope N sel=true):fw M scope N sel:=by
 unfold dI at h
 simp only [Bool.and_eq_true,List.all_eq_true] at h
 refine ⟨by simpa using h.1,fun i j x e1 e2=>?_⟩
 have hm:(some j,x) ∈ sel.zip N:=by
  rw [List.mem_iff_getElem?]
  exact ⟨i,by rw [List.getElem?_zip_eq_some];exact ⟨e1,e2⟩⟩
 have:=h.2 _ hm
 simp only [Bool.and_eq_true] at this
 exact ⟨by simpa using this.1,by simpa using this.2⟩
noncomputable def noT:HO→Bool
 | .dT _=>false
 | .frz _ u=>noT u
 | _=>true
noncomputable def NoT (H:Hp):Prop:=∀ b o,H b=some o→noT o=true
theorem Rc.back {P:Program} {w:World} {H H':Hp} {h h':Heap} {a:Addr}:∀ (o:HO),noT o=true→Rc P w H' h' a o→Rc P w H h a o→Rc P w H h' a o
 | .lst _,_,x,_=>x
 | .tup _,_,x,_=>x
 | .dK _,_,x,_=>x
 | .dT _,e,_,_=>absurd e (by unfold noT;decide)
 | .set _ _,_,x,_=>x
 | .ins _ _ _,_,x,y=>⟨y.1,x.2⟩
 | .own _,_,x,_=>x
 | .xd _,_,x,_=>x
 | .met _ _,_,x,_=>x
 | .rng _ _,_,x,_=>x
 | .frz ob u,e,x,y=>⟨x.1,Rc.back u (by unfold noT at e;exact e) x.2 y.2⟩
 | .tbl _,_,x,_=>x
 | .ext _,_,x,_=>x
section
variable {P:Program} {w:World} {K:PySem.W.Frag} {mg:Str→Option Value} {base:Heap}
theorem Lb.forget {k:Nat} {f:Addr} {fd:FuncData} {ps:List Str} {sp sp':Sp} (F:Lb P w K mg base CX0 k f fd ps sp)
  (h:∀ vs H Q E,sp' vs H Q E→NoT H∧sp vs H (fun v H'=>Xb H H'∧Q v H) E):Lb P w K mg base CX0 k f fd ps sp':=by
 refine ⟨fun vs H Q E q=>F.len vs H _ E (h vs H Q E q).2,fun A outer s H args us vs Q E hr he hb hv hs=>?_⟩
 obtain ⟨nt,q⟩:=h vs H Q E hs
 refine codeAny_mono (F.run A outer s H args us vs _ E hr he hb hv q) fun r s' hq=>?_
 cases r with
 | error e=>exact hq
 | ok fl=>
  cases fl with
  | next=>exact hq
  | brk=>exact hq
  | cont=>exact hq
  | ret u=>
   obtain ⟨v,H',os,bare,un,hok,rv,sm,q'⟩:=hq
   exact ⟨v,H,os,bare,⟨un.keep,un.slot,fun _ _ _ n _=>n,un.there,fun _ _ z=>z,fun _ _ _ z=>z,fun _ ps z=>⟨#[],by rw [z];simp⟩⟩,fun a o e=>(hok a o (sm a o e)).back o (nt a o e) (he.hok a o e),rv,q'⟩
end
theorem jb {H:Hp} {p:Addr} {o:HO} (h:H p=none):Xb H (upd H p o):=fun b u q=>by rw [qb (zb q h)];exact q
theorem Xb.updN {H H1:Hp} {p:Addr} {o:HO} (s:Xb H H1) (h:H p=none):Xb H (upd H1 p o):=fun b u q=>by rw [qb (zb q h)];exact s b u q
structure Sc (K:PySem.W.Frag) (a:Addr) (ns:List Int) (H:Hp):Prop where
 sq:(∃ o,H a=some (.frz o (.lst (ns.map V.int))))∨∃ (o:Obj) (its:Array Value) (n:Nat),K.lookup a=some o∧o.cls=.type "list" ∧ o.dict=none∧o.data=.seq its n∧its.size ≤ sizeLine∧Kc (ns.map V.int) its.toList
 nt:NoT H
section
variable {K:PySem.W.Frag} {a p:Addr} {ns:List Int} {H H':Hp} {o:HO}
theorem Sc.seq (s:Sc K a ns H):SqL K H a (ns.map V.int):=by
 rcases s.sq with ⟨o,h⟩ | h
 ·exact .inl (.inr ⟨o,h⟩)
 ·exact .inr h
theorem Sc.new (s:Sc K a ns H) (hp:H p=none) (ho:noT o=true:=by rfl):Sc K a ns (upd H p o):=by
 refine ⟨?_,fun b u e=>?_⟩
 ·rcases s.sq with ⟨ob,h⟩ | h
  ·exact .inl ⟨ob,by rw [qb (zb h hp)];exact h⟩
  ·exact .inr h
 ·by_cases hb:b=p
  ·subst hb;rw [fb] at e;cases e;exact ho
  ·rw [qb hb] at e;exact s.nt b u e
theorem Sc.set {u:HO} (s:Sc K a ns H) (hp:H p=some u) (hu:∀ ob z,u ≠ .frz ob z) (ho:noT o=true:=by rfl):Sc K a ns (upd H p o):=by
 refine ⟨?_,fun b x e=>?_⟩
 ·rcases s.sq with ⟨ob,h⟩ | h
  ·refine .inl ⟨ob,?_⟩
   have hne:a ≠ p:=fun z=>by subst z;rw [hp] at h;exact hu _ _ (Option.some.inj h)
   rw [qb hne];exact h
  ·exact .inr h
 ·by_cases hb:b=p
  ·subst hb;rw [fb] at e;cases e;exact ho
  ·rw [qb hb] at e;exact s.nt b x e
theorem Sc.of_only (hO:kE H) (hS:SqL K H a (ns.map V.int)):Sc K a ns H:=by
 refine ⟨?_,fun b u e=>?_⟩
 ·rcases hS with (h | ⟨o,h⟩) | h
  ·rcases hO a with z | ⟨ob,xs,z⟩
   ·rw [h] at z;cases z
   ·rw [h] at z;cases z
  ·exact .inl ⟨o,h⟩
  ·exact .inr h
 ·rcases hO b with z | ⟨ob,xs,z⟩
  ·rw [e] at z;cases z
  ·rw [e] at z;cases z;rfl
end
noncomputable def xG (K:PySem.W.Frag):Sp:=fun vs H Q _=>∃ (a:Addr) (ns:List Int),vs=[.ref a]∧Sc K a ns H∧ns.length ≤ 63∧∀ H',Q (.bl true) H'
theorem uc:bootBuiltins "len"=some (.builtin "len"):=PySem.boot_len
theorem Nt:bootBuiltins "all"=some (.builtin "all"):=by decide +kernel
theorem Ft:bootBuiltins "min"=some (.builtin "min"):=by decide +kernel
theorem Xe:bootBuiltins "max"=some (.builtin "max"):=by decide +kernel
theorem fk:bootBuiltins "isinstance"=some (.builtin "isinstance"):=by decide +kernel
theorem Au:bootBuiltins "int"=some (.type "int"):=by decide +kernel
theorem Uj:bootBuiltins "str"=some (.type "str"):=by decide +kernel
theorem zr:bootBuiltins "bool"=some (.type "bool"):=by decide +kernel
theorem xf:bootBuiltins "list"=some (.type "list"):=by decide +kernel
theorem Rd.same {H H':Hp} {a:Addr} {o:HO} (h:Rd H a o) (s:Xb H H'):Rd H' a o:=by
 rcases h with h | ⟨ob,h⟩
 ·exact .inl (s _ _ h)
 ·exact .inr ⟨ob,s _ _ h⟩
theorem SqL.same {K:PySem.W.Frag} {H H':Hp} {a:Addr} {xs:List V} (h:SqL K H a xs) (s:Xb H H'):SqL K H' a xs:=by
 rcases h with h | h
 ·exact .inl (h.same s)
 ·exact .inr h
theorem SqT.same {K:PySem.W.Frag} {H H':Hp} {a:Addr} {xs:List V} (h:SqT K H a xs) (s:Xb H H'):SqT K H' a xs:=by
 rcases h with h | h
 ·exact .inl (h.same s)
 ·exact .inr h
theorem NoT.upd {H:Hp} {p:Addr} {o:HO} (h:NoT H) (ho:noT o=true:=by rfl):NoT (upd H p o):=fun b u e=>by
 by_cases hb:b=p
 ·subst hb;rw [fb] at e;cases e;exact ho
 ·rw [qb hb] at e;exact h b u e
theorem Sc.same {K:PySem.W.Frag} {a:Addr} {ns:List Int} {H H':Hp} (s:Sc K a ns H) (sm:Xb H H') (nt:NoT H'):Sc K a ns H':=by
 refine ⟨?_,nt⟩
 rcases s.sq with ⟨o,h⟩ | h
 ·exact .inl ⟨o,sm _ _ h⟩
 ·exact .inr h
end L2
namespace L2
open PySem PySem.Spec PyProof.Rows
structure eI (K:PySem.W.Frag) (C:Addr) (m:Str) (f:Addr):Prop where
 rd:PySem.W.readsIn K C (.type "type")=true
 fd:PySem.W.findCls K (.ref C) (.type "type") m=some (.val (.ref f))
 ga:PySem.W.specialIn K (.ref C) "__getattribute__"=some (some (.builtin "type.__getattribute__"))
 kp:PySem.W.keepIn K (.ref f)=true
structure rB (P:Program) (w:World) (K:PySem.W.Frag) (mg:Str→Option Value) (base:Heap) (CX:CXT) (k:Nat) (OK:Addr→Prop) (m:Str) (ps:List Str) (SPV:Addr→Sp):Prop where
 ok:∀ C,OK C→∃ f fd,Cls K C∧Fo K C m f∧Lb P w K mg base CX k f fd ps (SPV C)∧bc K fd ps []
noncomputable def AA (OK:Addr→Prop) (m:Str) (SPV:Addr→Sp) (E:XK) (ta:TE) (t:TA):TE:=fun σ H Q=>ta σ H fun x H1=>∃ a C dx fs,x=.ref a∧H1 a=some (.ins C dx fs)∧OK C∧fs.lookup m=none ∧
 t σ H1 fun vs H2=>SPV C (x :: vs) H2 Q E
section
variable {X:Cx} {CX:CXT} {k:Nat} {f C:Addr} {fd:FuncData} {ps:List Str} {sp:Sp} {dvs:List V} {ds:List Value} {E:XK} {x m:Str} {p pos apos:Pos} {e o:Expr} {es:List Expr} {ta:TE} {t:TA}
theorem ip {pl:Sem Bool} (hg:Gl X x) (hm:X.mg x=some (.ref C)) (c:eI X.K C m f) (F:Lb X.prog X.w X.K X.mg X.base CX k f fd ps sp) (hr:Fh k X.A) (hb:bc X.K fd ps ds) (hd:Kc dvs ds) (hx:Cj CX X E) (ha:PA X (e :: es) t)
  (hdb:(x == ("__debug__" : Str))=false:=by decide) (hst:starEach (e :: es) X.env=(false,eval e X.env) :: starEach es X.env:=by rfl) (hpl:(backTo pos (starEach es X.env)).any (·.1)=false:=by rfl)
  (ht:eval (.Call (.Attribute (.Name x p) m apos) (e :: es) [] pos) X.env=(do
   let ov ← eval (.Name x p) X.env
   standAt apos.atName
   let (f,first) ← holding [ov] (getMethod ov m pl)
   callWith pos f first (backTo pos (starEach (e :: es) X.env)) (backToKw pos (keywordEach [] X.env))):=by rfl) :
  PE X (.Call (.Attribute (.Name x p) m apos) (e :: es) [] pos) (iD sp dvs E t):=by
 intro pins s σ H Q I h
 refine PySem.W.methodCall_KW (pl:=pl) (Do I hg hm ?_ hdb) ht
 refine PySem.W.method_cls I.kIn c.ga (PySem.W.cls_value I.kIn c.rd c.fd rfl ?_)
 have I1:=I.tok (s.toks + 1)
 refine PySem.W.callWith_K (first:=[]) (h₀:=X.base) I.ok.mod.kin c.kp (thn (ha pos pins _ σ H _ I1 h) fun us s2 ⟨vs,H2,I2,r,q2⟩=>⟨I2.kIn,?_⟩) hst hpl
 exact rq F hr hb hd hx I2 r q2
variable {OK:Addr→Prop} {SPV:Addr→Sp}
theorem Iq {pl:Sem Bool} (he:PE X o ta) (V:rB X.prog X.w X.K X.mg X.base CX k OK m ps SPV) (hr:Fh k X.A) (hx:Cj CX X E)
  (ht:eval (.Call (.Attribute o m apos) [] [] pos) X.env=(do
   let ov ← eval o X.env
   standAt apos.atName
   let (f,first) ← holding [ov] (getMethod ov m pl)
   callWith pos f first (backTo pos (starEach [] X.env)) (backToKw pos (keywordEach [] X.env))):=by rfl) :
  PE X (.Call (.Attribute o m apos) [] [] pos) (AA OK m SPV E ta FG):=by
 intro pins s σ H Q I h
 refine PySem.W.methodCall_KW (pl:=pl) (thn (he pins s σ H _ I h) fun u s1 hZ1=>?_) ht
 obtain ⟨x,H1,I1,rx,a,C,dx,fs,ex,ea,ok,l,q⟩:=hZ1
 subst ex
 obtain rfl:u=Value.ref a:=rx
 obtain ⟨f,fd,c,hm,F,hb⟩:=V.ok C ok
 refine Vj I1 ea c hm l ?_
 exact PySem.W.callWith_K0 (first:=[.ref a]) I1.kIn hm.kp (rq (us:=[.ref a]) (vs:=[.ref a]) (dvs:=[]) F hr hb .nil hx I1 (.cons rfl .nil) q)
end
noncomputable abbrev SVs:=List (Str × V)
noncomputable def FF (kvs:SVs) (ty:TE):TE:=fun σ H Q=>ty σ H fun y H1=>∃ x v,y=.str x∧kvs.lookup x=some v∧Q v H1
section
variable {X:Cx} {x:Str} {p pos:Pos} {i:Expr} {ty:TE} {u:Value} {kvs:List (Str × V)}
end
noncomputable def Ci (K:PySem.W.Frag) (H:Hp) (a:Addr) (f:Str) (v:V):Prop:=∃ C dx fs,H a=some (.ins C dx fs)∧Cls K C∧Fb K C f∧fs.lookup f=some v
theorem ed {f:Str} {v:V}:∀ {fs:List (Str × V)} (ks:List Str),fs.map (·.1)=ks→ks.contains f=false→eg f v fs=fs ++ [(f,v)]
 | [],_,_,_=>rfl
 | (g,y) :: r,ks,e,h=>by
  cases e
  rw [List.map_cons,List.contains_cons] at h
  have h1:=(Bool.or_eq_false_iff.mp h)
  have hne:¬ g=f:=fun z=>by
   have:=h1.1
   rw [z] at this
   simp at this
  show (if g=f then _ else _)=_
  rw [if_neg hne,ed _ rfl h1.2]
  rfl
theorem Hk {f:Str} {v:V} {fs:List (Str × V)} {n:Nat} (h:fs.length < n):(eg f v fs).length < n + 1:=Nat.lt_of_le_of_lt (Di f v fs) (by omega)
theorem Jd {f:Str} {v:V}:∀ {fs:List (Str × V)} (ks:List Str) (i:Nat),fs.map (·.1)=ks→ks.findIdx? (· == f)=some i→fs[i]? = some (f,v)→fs.lookup f=some v
 | [],_,_,_,_,h=>by simp at h
 | (g,y) :: r,ks,i,e,h,hv=>by
  cases e
  rw [List.map_cons,List.findIdx?_cons] at h
  rw [List.lookup]
  by_cases e:g=f
  ·subst e
   rw [beq_self_eq_true,if_pos rfl] at h
   cases h
   have:(g,y)=(g,v):=by simpa using hv
   cases this
   rw [beq_self_eq_true]
  ·rw [beq_eq_false_iff_ne.mpr e,if_neg (by decide)] at h
   obtain ⟨j,hj,rfl⟩:=Option.map_eq_some_iff.mp h
   rw [beq_eq_false_iff_ne.mpr (fun z=>e z.symm)]
   exact Jd _ j rfl hj (by simpa using hv)
theorem Wi {f:Str}:∀ {fs:List (Str × V)} (ks:List Str),fs.map (·.1)=ks→ks.contains f=false→fs.lookup f=none
 | [],_,_,_=>rfl
 | (g,y) :: r,ks,e,h=>by
  cases e
  rw [List.map_cons,List.contains_cons] at h
  have h1:=(Bool.or_eq_false_iff.mp h)
  rw [List.lookup,h1.1]
  exact Wi _ rfl h1.2
end L2
namespace L2
open PySem PySem.Spec PyProof.Rows
theorem Inv.turnedL {X:Cx} {pins:List (Addr × Obj)} {σ:St} {H:Hp} {s:Shared} {h':Heap} {t':Nat} {fp:List Addr} (I:Inv X pins σ H s) (k:∀ b o,b ∉ fp→s.heap.get? b=some o→h'.get? b=some o)
  (hf:∀ b ∈ fp,pp X pins H b):Inv X pins σ H { s with heap:=h',toks:=t' }:=by
 have nit:∀ b u,H b=some u→b ∉ fp:=fun b u e z=>by rw [(hf b z).1] at e;cases e
 refine I.step (g':=s.gens) (d':=s.drawn) (ch:=fp) (fun b hb=>?_) (fun b o _ _ hc e _=>k b o hc e) (fun b o _ _ hc e _=>⟨o.slots,k b o hc e⟩) (fun _ _ _ _ n=>n)
  (fun b o hc e=>⟨o,k b o hc e⟩) (fun _ _ e=>e) (fun _ _ _ e=>e) (fun b ps e=>⟨#[],by rw [e];simp⟩) (fun m hm=>?_) (fun b u e=>?_) I.bare
 ·obtain ⟨f0,f1,f2,f3,f4,f5⟩:=hf b hb
  exact ⟨f3,f1,f4,f5⟩
 ·obtain ⟨o,es,ep,ho,r⟩:=hm
  exact ⟨o,es,ep,k _ o (fun z=>(hf _ z).2.1 rfl) ho,r⟩
 ·refine (I.hok b u e).stay (fun c v hc q=>k c v ?_ q) (fun _ q=>q) fun _ _ q=>q
  rcases hc with z | z
  ·rw [z];exact nit b u e
  ·exact nit c _ z
noncomputable def Ite (K:PySem.W.Frag) (a:Addr):It:=
 ⟨fun i H=>∃ xs x,SqL K H a xs∧xs[i]? = some x,fun i H v H'=>∃ p y,H p=none∧v=.ref p∧(∀ xs,SqL K H a xs→xs[i]? = some y)∧H'=upd H p (.tup [.int i,y]),fun i H=>∃ xs,SqL K H a xs∧xs.length ≤ i⟩
theorem wx {P:Program} {w:World} {K:PySem.W.Frag} {es:List Expr} {k} {pos:Pos} (a e it:Addr) (hne:e ≠ it) :
  Sz P w K (.Tuple es k pos) (Ite K a) [e,it] e (fun i h=>∃ old,IsEnum h e it ((i:Nat):Int) old∧h.IsListIter it a i) where
 mem:=by simp
 obj:=fun i h ⟨old,he,hi⟩ b hb=>by
  simp only [List.mem_cons,List.not_mem_nil,or_false] at hb
  rcases hb with rfl | rfl
  ·exact ⟨_,he,fun v z=>by
    have z':Data.fields _=Data.cell v:=z
    cases z'⟩
  ·obtain ⟨o,q,c,d⟩:=hi
   exact ⟨o,q,fun v z=>by rw [d] at z;cases z⟩
 keep:=fun i h h' ⟨old,he,hi⟩ k=>⟨old,k e (by simp) _ he,hi.at fun o q=>k it (by simp) o q⟩
 item:=by
  intro X hP hw hK hc i pins s σ H E I hf ⟨old,he,hi⟩ hg
  subst hP hw hK
  obtain ⟨xs,x,hq,hx⟩:=hg
  obtain ⟨its,rv,p,hz⟩:=I.list hq
  obtain ⟨u,hu,ru⟩:=rv.get hx
  refine wpAny_pyNext_enum_item he hi p.isList (x:=u) (by simpa using hu) hne fun h1 he1 hi1 ht1 hz1 hk1=>⟨_,rfl,?_⟩
  refine wpAny_letOwnedTupleGo_enum he1 fun h2 he2 hs2=>?_
  replace hs2:Heap.SameBut e h1 h2:=hs2
  have hel:e < s.heap.objs.size:=Heap.lt_size he
  have hk:∀ b o,b ∉ [e,it]→s.heap.get? b=some o→h2.get? b=some o:=fun b o hb q=>by
   simp only [List.mem_cons,List.not_mem_nil,or_false,not_or] at hb
   exact hs2.extBut _ _ hb.1 (hk1 b o hb.1 hb.2 q)
  have I1:Inv X pins σ H { s with heap:=h2,toks:=s.toks + 1 }:=I.turnedL hk hf
  have fo:pp X pins H s.heap.objs.size:=I.fpOk (Nat.le_refl _) (I.hok.fresh (Nat.le_refl _))
  have ht2:h2.get? s.heap.objs.size=some { cls:=.type "tuple",data:=.seq #[.int i s.toks,u] }:=(hs2.2 _ (Nat.ne_of_gt hel)).trans ht1
  have I2:=I1.adopt (o:=.tup [.int i,x]) fo ⟨by show 2 ≤ sizeLine;decide,[.int i s.toks,u],.cons ⟨_,rfl⟩ (.cons ru .nil),⟨_,ht2,rfl,_,rfl⟩⟩
  refine ⟨.ref s.heap.objs.size,_,I2,rfl,⟨_,x,fo.1,rfl,fun ys hy=>by rw [I.list_inj hy hq];exact hx,rfl⟩,⟨u,?_,?_⟩,fun b hb=>?_⟩
  ·have e1:((i + 1:Nat):Int)=(i:Int) + 1:=by omega
   rw [e1];exact he2
  ·exact hi1.extBut hs2.extBut (Ne.symm hne)
  ·have hlt:b < s.heap.objs.size:=by
    simp only [List.mem_cons,List.not_mem_nil,or_false] at hb
    rcases hb with rfl | rfl
    ·exact hel
    ·obtain ⟨o,q,_⟩:=hi
     exact Heap.lt_size q
   rw [qb (Nat.ne_of_lt hlt)];exact (hf b hb).1
 done:=by
  intro X hP hw hK hc i pins s σ H E I hf ⟨old,he,hi⟩ hg
  subst hP hw hK
  obtain ⟨xs,hq,hx⟩:=hg
  obtain ⟨its,rv,p,hz⟩:=I.list hq
  have hl:=rv.length
  exact wpAny_pyNext_enum_end (I.ok.hd hc) he hi p.isList (by simp;omega) fun h' eb=>⟨rfl,I.turnedL (t':=s.toks) (fun b o hb q=>eb b o (fun z=>hb (by simp [z])) q) hf⟩
 self:=fun _ _ _ _ _ ⟨_,he,_⟩ h=>wpAny_pyIter_enum he h
theorem vn:bootBuiltins "enumerate"=some (.type "enumerate"):=by decide +kernel
theorem Zy:bootBuiltins "zip"=some (.type "zip"):=by decide +kernel
noncomputable def Itz (K:PySem.W.Frag) (a b:Addr):It:=
  ⟨fun i H=>∃ xs ys x y,SqL K H a xs∧SqL K H b ys∧xs[i]? = some x∧ys[i]? = some y,
   fun i H v H'=>∃ p x y,H p=none∧v=.ref p∧(∀ xs,SqL K H a xs→xs[i]? = some x)∧(∀ ys,SqL K H b ys→ys[i]? = some y)∧H'=upd H p (.tup [x,y]),
   fun i H=>∃ xs ys,SqL K H a xs∧SqL K H b ys∧(xs.length ≤ i∨ys.length ≤ i)⟩
theorem Ge {h:Heap} {a b:Addr} {o o':Obj} {c d:String} (ha:h.get? a=some o) (hb:h.get? b=some o') (hc:o.cls=.type c) (hd:o'.cls=.type d) (n:c ≠ d):a ≠ b:=fun z=>by
 subst z
 rw [ha] at hb
 cases hb
 rw [hc] at hd
 cases hd
 exact n rfl
theorem kq {h:Heap} {z TI TO i1 i2 l1 l2:Addr} {f0 u1 u2 v1 v2:Value} {k1 k2:Nat} {xs ys:Array Value} (hz:IsZip h z TI TO f0) (hTI:IsPair h TI u1 u2) (hTO:IsPair h TO v1 v2) (h1:h.IsListIter i1 l1 k1) (h2:h.IsListIter i2 l2 k2)
  (g1:h.IsList l1 xs) (g2:h.IsList l2 ys) (nT:TI ≠ TO) (ni:i1 ≠ i2):ZipApart z TI TO i1 i2 l1 l2:=by
 obtain ⟨o1,e1,c1,_⟩:=h1
 obtain ⟨o2,e2,c2,_⟩:=h2
 obtain ⟨p1,f1,d1,_⟩:=g1
 obtain ⟨p2,f2,d2,_⟩:=g2
 exact ⟨Ge hTI hz rfl rfl (by decide),Ge hTO hz rfl rfl (by decide),Ge e1 hz c1 rfl (by decide),Ge e2 hz c2 rfl (by decide),nT,Ge hTI e1 rfl c1 (by decide),Ge hTI e2 rfl c2 (by decide),
  Ge hTO e1 rfl c1 (by decide),Ge hTO e2 rfl c2 (by decide),ni,Ge f1 hz d1 rfl (by decide),Ge f1 hTO d1 rfl (by decide),Ge f1 e1 d1 c1 (by decide),Ge f1 e2 d1 c2 (by decide),
  Ge f2 hz d2 rfl (by decide),Ge f2 hTO d2 rfl (by decide),Ge f2 e1 d2 c1 (by decide),Ge f2 e2 d2 c2 (by decide)⟩
theorem Dy {P:Program} {w:World} {K:PySem.W.Frag} {es:List Expr} {k} {pos:Pos} (a b z TI TO i1 i2:Addr) (nT:TI ≠ TO) (ni:i1 ≠ i2) :
  Sz P w K (.Tuple es k pos) (Itz K a b) [z,TI,TO,i1,i2] z (fun i h=>IsZip h z TI TO .none∧IsPair h TI (.ref i1) (.ref i2)∧(∃ u v,IsPair h TO u v)∧h.IsListIter i1 a i∧h.IsListIter i2 b i) where
 mem:=by simp
 obj:=fun i h ⟨hz,hTI,⟨u,v,hTO⟩,⟨o1,e1,_,d1⟩,o2,e2,_,d2⟩ c hc=>by
  simp only [List.mem_cons,List.not_mem_nil,or_false] at hc
  rcases hc with rfl | rfl | rfl | rfl | rfl
  ·exact ⟨_,hz,fun v z=>by
    have z':Data.fields _=Data.cell v:=z
    cases z'⟩
  ·exact ⟨_,hTI,fun v z=>by
    have z':Data.seq _ _=Data.cell v:=z
    cases z'⟩
  ·exact ⟨_,hTO,fun v z=>by
    have z':Data.seq _ _=Data.cell v:=z
    cases z'⟩
  ·exact ⟨o1,e1,fun v z=>by rw [d1] at z;cases z⟩
  ·exact ⟨o2,e2,fun v z=>by rw [d2] at z;cases z⟩
 keep:=fun i h h' ⟨hz,hTI,⟨u,v,hTO⟩,h1,h2⟩ k=>⟨k z (by simp) _ hz,k TI (by simp) _ hTI,⟨u,v,k TO (by simp) _ hTO⟩,h1.at fun o q=>k i1 (by simp) o q,h2.at fun o q=>k i2 (by simp) o q⟩
 item:=by
  intro X hP hw hK hc i pins s σ H E I hf ⟨hz,hTI,⟨u,v,hTO⟩,h1,h2⟩ hg
  subst hP hw hK
  obtain ⟨xs,ys,x,y,hq,hr,hx,hy⟩:=hg
  obtain ⟨its,rv,p,hz1⟩:=I.list hq
  obtain ⟨jts,rw',p',hz2⟩:=I.list hr
  obtain ⟨ux,hu,ru⟩:=rv.get hx
  obtain ⟨uy,hv,rv'⟩:=rw'.get hy
  have D:=kq hz hTI hTO h1 h2 p.isList p'.isList nT ni
  refine wpAny_pyNext_zip_item D hz hTI hTO h1 h2 p.isList p'.isList (x:=ux) (y:=uy) (by simpa using hu) (by simpa using hv) fun g gz gTO g1 g2 gT gs gk=>⟨_,rfl,?_⟩
  refine wpAny_letOwnedTupleGo_zip gz fun g' gz' hs'=>?_
  replace hs':Heap.SameBut z g g':=hs'
  have hzl:z < s.heap.objs.size:=Heap.lt_size hz
  have hk:∀ c o,c ∉ [z,TI,TO,i1,i2]→s.heap.get? c=some o→g'.get? c=some o:=fun c o hc q=>by
   simp only [List.mem_cons,List.not_mem_nil,or_false,not_or] at hc
   exact hs'.extBut _ _ hc.1 (gk c o hc.1 hc.2.2.1 hc.2.2.2.1 hc.2.2.2.2 q)
  have I1:Inv X pins σ H { s with heap:=g',toks:=s.toks }:=I.turnedL hk hf
  have fo:pp X pins H s.heap.objs.size:=I.fpOk (Nat.le_refl _) (I.hok.fresh (Nat.le_refl _))
  have ht2:IsPair g' s.heap.objs.size ux uy:=(hs'.2 _ (Nat.ne_of_gt hzl)).trans gT
  have I2:=I1.adopt (o:=.tup [x,y]) fo ⟨by show 2 ≤ sizeLine;decide,[ux,uy],.cons ru (.cons rv' .nil),⟨_,ht2,rfl,_,rfl⟩⟩
  refine ⟨.ref s.heap.objs.size,_,I2,rfl,⟨_,x,y,fo.1,rfl,fun ys hy=>by rw [I.list_inj hy hq];exact hx,fun zs hzs=>by rw [I.list_inj hzs hr];exact hy,rfl⟩,⟨gz',?_,⟨_,_,hs'.extBut _ _ D.TOz gTO⟩,g1.extBut hs'.extBut D.i1z,g2.extBut hs'.extBut D.i2z⟩,fun b hb=>?_⟩
  ·exact hs'.extBut _ _ D.TIz (gk _ _ D.TIz D.TITO D.TIi1 D.TIi2 hTI)
  ·have hlt:b < s.heap.objs.size:=by
    obtain ⟨o1,e1,_⟩:=h1
    obtain ⟨o2,e2,_⟩:=h2
    simp only [List.mem_cons,List.not_mem_nil,or_false] at hb
    rcases hb with rfl | rfl | rfl | rfl | rfl
    ·exact hzl
    ·exact Heap.lt_size hTI
    ·exact Heap.lt_size hTO
    ·exact Heap.lt_size e1
    ·exact Heap.lt_size e2
   rw [qb (Nat.ne_of_lt hlt)];exact (hf b hb).1
 done:=by
  intro X hP hw hK hc i pins s σ H E I hf ⟨hz,hTI,⟨u,v,hTO⟩,h1,h2⟩ hg
  subst hP hw hK
  obtain ⟨xs,ys,hq,hr,hx⟩:=hg
  obtain ⟨its,rv,p,hz1⟩:=I.list hq
  obtain ⟨jts,rw',p',hz2⟩:=I.list hr
  have hl:=rv.length
  have hl':=rw'.length
  have D:=kq hz hTI hTO h1 h2 p.isList p'.isList nT ni
  exact wpAny_pyNext_zip_end (I.ok.hd hc) D hz hTI hTO h1 h2 p.isList p'.isList (by simp;omega) fun h' eb=>⟨rfl,I.turnedL (t':=s.toks) (fun b o hb q=>eb b o (fun z=>hb (by simp [z])) (fun z=>hb (by simp [z])) (fun z=>hb (by simp [z])) (fun z=>hb (by simp [z])) q) hf⟩
 self:=fun _ _ _ _ _ ⟨hz,_⟩ h=>wpAny_pyIter_zip hz h
noncomputable def Itv (K:PySem.W.Frag) (a:Addr) (n:Nat):It:=
 ⟨fun i H=>i < n∧∃ xs,SqL K H a xs∧xs.length=n,fun i H x H'=>H'=H∧∀ xs,SqL K H a xs→xs[n - 1 - i]? = some x,fun i _=>n ≤ i⟩
section
variable {X:Cx}
noncomputable def gG (K:PySem.W.Frag) (ta:TA):TI:=fun σ H R=>ta σ H fun vs H1=>∃ a,vs=[.ref a]∧(∃ xs,SqL K H1 a xs)∧R (Ite K a) H1
theorem No {es:List Expr} {k} {tpos:Pos} {a:Expr} {ta:TA} {p pos:Pos} (hg:Gl X "enumerate") (hm:X.mg "enumerate"=none) (ha:PA X [a] ta) (hs:starEach [a] X.env=[(false,eval a X.env)]:=by rfl) :
  PI X (.Tuple es k tpos) (.Call (.Name "enumerate" p) [a] [] pos) (gG X.K ta):=by
 intro pins s σ H R I h
 refine Call_ (Kl I hg hm vn (PyProof.Rows.callWith_type1 (thn (ha pos pins s σ H _ I h) fun us s1 hZ1=>?_) hs rfl))
 obtain ⟨vs,H1,I1,r1,q1⟩:=hZ1
 obtain ⟨a,e,⟨xs,hq⟩,q⟩:=q1
 subst e
 cases r1 with
 | cons r rr=>
  cases rr
  cases r
  obtain ⟨its,rv,pl,hz⟩:=I1.list hq
  refine call_enumerate_list pl.isList fun h' hE hI hsz hk=>wpAny_pyIter_enum hE ?_
  refine ⟨s1.heap.objs.size + 1,[s1.heap.objs.size + 1,s1.heap.objs.size],_,_,H1,rfl,I1.kept (t':=s1.toks) hk,wx a _ _ (Nat.succ_ne_self _),⟨_,hE,hI⟩,fun b hb=>?_,q⟩
  have hb':s1.heap.objs.size ≤ b:=by
   simp only [List.mem_cons,List.not_mem_nil,or_false] at hb
   rcases hb with rfl | rfl
   ·exact Nat.le_succ _
   ·exact Nat.le_refl _
  exact I1.fpOk hb' (I1.hok.fresh hb')
noncomputable def VH (K:PySem.W.Frag) (ta:TA):TI:=fun σ H R=>ta σ H fun vs H1=>∃ a b,vs=[.ref a,.ref b]∧(∃ xs,SqL K H1 a xs)∧(∃ ys,SqL K H1 b ys)∧R (Itz K a b) H1
theorem fE {es:List Expr} {k} {tpos:Pos} {a b:Expr} {ta:TA} {p pos:Pos} (hg:Gl X "zip") (hm:X.mg "zip"=none) (ha:PA X [a,b] ta) (hs:starEach [a,b] X.env=[(false,eval a X.env),(false,eval b X.env)]:=by rfl)
  (hs2:starEach [b] X.env=[(false,eval b X.env)]:=by rfl):PI X (.Tuple es k tpos) (.Call (.Name "zip" p) [a,b] [] pos) (VH X.K ta):=by
 intro pins s σ H R I h
 refine Call_ (Kl I hg hm Zy (PyProof.Rows.callWith_type1 (thn (ha pos pins s σ H _ I h) fun us s1 hZ1=>?_) (by rw [hs,hs2]) (by rw [hs2];rfl)))
 obtain ⟨vs,H1,I1,r1,q1⟩:=hZ1
 obtain ⟨a,b,e,⟨xs,hq⟩,⟨ys,hr⟩,q⟩:=q1
 subst e
 cases r1 with
 | cons r rr=>
  cases rr with
  | cons r' rr=>
   cases rr
   cases r
   cases r'
   obtain ⟨its,rv,pl,hz⟩:=I1.list hq
   obtain ⟨jts,rv',pl',hz'⟩:=I1.list hr
   refine call_zip_2 pl.isList pl'.isList fun h' hz hTI hTO h1 h2 hsz hk=>wpAny_pyIter_zip hz ?_
   refine ⟨s1.heap.objs.size + 4,[s1.heap.objs.size + 4,s1.heap.objs.size + 2,s1.heap.objs.size + 3,s1.heap.objs.size,s1.heap.objs.size + 1],_,_,H1,rfl,I1.kept (t':=s1.toks) hk,
    Dy a b _ _ _ _ _ (Nat.ne_of_lt (Nat.lt_succ_self _)) (Nat.ne_of_lt (Nat.lt_succ_self _)),⟨hz,hTI,⟨_,_,hTO⟩,h1,h2⟩,fun c hc=>?_,q⟩
   have hb':s1.heap.objs.size ≤ c:=by
    simp only [List.mem_cons,List.not_mem_nil,or_false] at hc
    rcases hc with rfl | rfl | rfl | rfl | rfl
    ·exact Nat.le_add_right _ _
    ·exact Nat.le_add_right _ _
    ·exact Nat.le_add_right _ _
    ·exact Nat.le_refl _
    ·exact Nat.le_add_right _ _
   exact I1.fpOk hb' (I1.hok.fresh hb')
noncomputable def FI (K:PySem.W.Frag) (ta:TA):TI:=fun σ H R=>ta σ H fun vs H1=>∃ a xs,vs=[.ref a]∧SqL K H1 a xs∧R (Itv K a xs.length) H1
end
theorem jh {X:Cx} {es:List Expr} {k:Nat} {pos:Pos} {t:TGs} {n:Nat} {K:PySem.W.Frag} (hK:X.K=K) (hc:X.calm=true) (h:PGs X es t)
  (hn:(assignEach es X.env).length=n:=by rfl) (hst:(assignEach es X.env).findIdx? (·.1)=none:=by rfl):PG X (.Tuple es k pos) (IE K n t):=by
 subst hK
 exact YF hc h hn hst
section
variable {X:Cx}
noncomputable def BC:V→List V→Hp→VK→Prop:=fun x vs H Q=>∃ l xs i y,x=.ref l∧vs=[.int i,y]∧H l=some (.lst xs)∧0 ≤ i∧i < 2 ^ 62∧i ≤ (xs.length:Int)∧xs.length < sizeLine∧Q .non (upd H l (.lst (xs.take i.toNat ++ y :: xs.drop i.toNat)))
end
end L2
namespace L2
open PySem PySem.Spec PyProof.Rows
inductive EqH (K:PySem.W.Frag) (H:Hp):Nat→V→V→Bool→Prop
 | flat {k:Nat} {x y:V} (hx:Yg x=true) (hy:Yg y=true):EqH K H k x y (eqV x y)
 | lst {k:Nat} {p q:Addr} {xs ys:List V} {e:Nat→Bool} (hp:SqL K H p xs) (hq:SqL K H q ys) (hl:xs.length=ys.length) (he:∀ (j:Nat) (x y:V),xs[j]? = some x→ys[j]? = some y→EqH K H k x y (e j)):EqH K H (k + 1) (.ref p) (.ref q) ((List.range xs.length).all e)
 | lstN {k:Nat} {p q:Addr} {xs ys:List V} (hp:SqL K H p xs) (hq:SqL K H q ys) (hl:xs.length ≠ ys.length):EqH K H (k + 1) (.ref p) (.ref q) false
 | tup {k:Nat} {p q:Addr} {xs ys:List V} {e:Nat→Bool} (hp:SqT K H p xs) (hq:SqT K H q ys) (he:∀ (j:Nat) (x y:V),xs[j]? = some x→ys[j]? = some y→EqH K H k x y (e j)):EqH K H (k + 1) (.ref p) (.ref q) ((List.range (min xs.length ys.length)).all e && xs.length == ys.length)
theorem Hs {x:V} (h:Yg x=true):eqV x x=true:=by
 cases x <;> first | rfl | (simp [eqV];done) | cases h
theorem bo {n:Nat} {e:Nat→Bool} (h:∀ j,j < n→e j=true):(List.range n).all e=true:=by
 rw [List.all_eq_true]
 exact fun j hj=>h j (List.mem_range.mp hj)
section
variable {X:Cx} {pins:List (Addr × Obj)} {σ:St} {H:Hp} {s:Shared}
theorem EqH.self (I:Inv X pins σ H s) {k:Nat} {x y:V} {b:Bool} (h:EqH X.K H k x y b) (e:x=y):b=true:=by
 induction h with
 | flat hx hy=>subst e;exact Hs hx
 | @lst k p q xs ys f hp hq hl he ih=>
  injection e with e
  subst e
  have:=I.list_inj hp hq
  subst this
  refine bo fun j hj=>?_
  exact ih j xs[j] xs[j] (List.getElem?_eq_getElem hj) (List.getElem?_eq_getElem hj) rfl
 | lstN hp hq hl=>
  injection e with e
  subst e
  have:=I.list_inj hp hq
  subst this
  exact absurd rfl hl
 | @tup k p q xs ys f hp hq he ih=>
  injection e with e
  subst e
  have:=I.tuple_inj hp hq
  subst this
  rw [Bool.and_eq_true]
  refine ⟨bo fun j hj=>?_,by simp⟩
  have hj':j < xs.length:=by omega
  exact ih j xs[j] xs[j] (List.getElem?_eq_getElem hj') (List.getElem?_eq_getElem hj') rfl
theorem Jj (A:Around):A.in1.units=A.units + 1:=rfl
theorem Zz (I:Inv X pins σ H s) {k:Nat} {x y:V} {b:Bool} (h:EqH X.K H k x y b):∀ (A:Around) (v u:Value),A.units + k < cLine→Qc x v→Qc y u →
  SeqAt.EqAt A s v u b∧(∀ p q,x=.ref p→y=.ref q→SeqAt.RcAt A s v u b):=by
 induction h with
 | flat hx hy=>
  intro A v u hu rx ry
  refine ⟨UA rx ry hx hy,fun p q e _=>?_⟩
  subst e
  cases hx
 | @lst k p q xs ys f hp hq hl he ih=>
  intro A v u hu rx ry
  cases rx
  cases ry
  obtain ⟨its,r,pl,hz⟩:=I.list hp
  obtain ⟨jts,r',pl',hz'⟩:=I.list hq
  have l1:=r.length
  have l2:=r'.length
  have rc:SeqAt.RcAt A s (.ref p) (.ref q) ((List.range xs.length).all f):=by
   have:=SeqAt.RcAt.lists (A:=A) (e:=f) pl.isList pl'.isList (by simp only [List.size_toArray];omega) (by omega) fun j h1 h2=>by
    simp only [List.size_toArray] at h1 h2
    have hj:j < xs.length:=by omega
    have hj':j < ys.length:=by omega
    obtain ⟨a,ha,ra⟩:=r.get (List.getElem?_eq_getElem hj)
    obtain ⟨c,hc,rc⟩:=r'.get (List.getElem?_eq_getElem hj')
    have ea:its.toArray[j]=a:=by
     have:=List.getElem?_eq_getElem h1
     rw [ha] at this
     simpa using (Option.some.inj this).symm
    have ec:jts.toArray[j]=c:=by
     have:=List.getElem?_eq_getElem h2
     rw [hc] at this
     simpa using (Option.some.inj this).symm
    rw [ea,ec]
    exact (ih j _ _ (List.getElem?_eq_getElem hj) (List.getElem?_eq_getElem hj') A.in1 a c (by rw [Jj];omega) ra rc).1
   rwa [List.size_toArray,← l1] at this
  refine ⟨?_,fun _ _ _ _=>rc⟩
  by_cases hne:p=q
  ·have hb:=(EqH.lst hp hq hl he).self I (congrArg V.ref hne)
   rw [hb,hne]
   exact SeqAt.EqAt.same _
  ·exact SeqAt.EqAt.of_refs hne rc
 | @lstN k p q xs ys hp hq hl=>
  intro A v u hu rx ry
  cases rx
  cases ry
  obtain ⟨its,r,pl,hz⟩:=I.list hp
  obtain ⟨jts,r',pl',hz'⟩:=I.list hq
  have l1:=r.length
  have l2:=r'.length
  have rc:SeqAt.RcAt A s (.ref p) (.ref q) false:=SeqAt.RcAt.lists_lengths pl.isList pl'.isList (by simp only [List.size_toArray,bne_iff_ne,ne_eq];omega) (by omega)
  refine ⟨SeqAt.EqAt.of_refs (fun e=>hl ?_) rc,fun _ _ _ _=>rc⟩
  subst e
  rw [I.list_inj hp hq]
 | @tup k p q xs ys f hp hq he ih=>
  intro A v u hu rx ry
  cases rx
  cases ry
  obtain ⟨its,r,pl,hz⟩:=I.tuple hp
  obtain ⟨jts,r',pl',hz'⟩:=I.tuple hq
  have l1:=r.length
  have l2:=r'.length
  have rc:SeqAt.RcAt A s (.ref p) (.ref q) ((List.range (min xs.length ys.length)).all f && xs.length == ys.length):=by
   have:=SeqAt.RcAt.tuples (A:=A) (e:=f) pl pl' (by omega) fun j h1 h2=>by
    simp only [List.size_toArray] at h1 h2
    have hj:j < xs.length:=by omega
    have hj':j < ys.length:=by omega
    obtain ⟨a,ha,ra⟩:=r.get (List.getElem?_eq_getElem hj)
    obtain ⟨c,hc,rc⟩:=r'.get (List.getElem?_eq_getElem hj')
    have ea:its.toArray[j]=a:=by
     have:=List.getElem?_eq_getElem h1
     rw [ha] at this
     simpa using (Option.some.inj this).symm
    have ec:jts.toArray[j]=c:=by
     have:=List.getElem?_eq_getElem h2
     rw [hc] at this
     simpa using (Option.some.inj this).symm
    rw [ea,ec]
    exact (ih j _ _ (List.getElem?_eq_getElem hj) (List.getElem?_eq_getElem hj') A.in1 a c (by rw [Jj];omega) ra rc).1
   rwa [List.size_toArray,List.size_toArray,← l1,← l2] at this
  refine ⟨?_,fun _ _ _ _=>rc⟩
  by_cases hne:p=q
  ·have hb:=(EqH.tup hp hq he).self I (congrArg V.ref hne)
   rw [hb,hne]
   exact SeqAt.EqAt.same _
  ·exact SeqAt.EqAt.of_refs hne rc
end
section
variable {X:Cx} {pins:List (Addr × Obj)} {σ:St} {H:Hp} {s:Shared}
theorem Bp (I:Inv X pins σ H s) {k:Nat} {A:Around} {xs ys:List V} {its jts:List Value} {f:Nat→Bool} (hu:A.units + k < cLine) (r:Kc xs its) (r':Kc ys jts)
  (he:∀ (j:Nat) (x y:V),xs[j]? = some x→ys[j]? = some y→EqH X.K H k x y (f j)):∀ j (h1:j < its.toArray.size) (h2:j < jts.toArray.size),SeqAt.EqAt A s its.toArray[j] jts.toArray[j] (f j):=fun j h1 h2=>by
 simp only [List.size_toArray] at h1 h2
 have l1:=r.length
 have l2:=r'.length
 have hj:j < xs.length:=by omega
 have hj':j < ys.length:=by omega
 obtain ⟨a,ha,ra⟩:=r.get (List.getElem?_eq_getElem hj)
 obtain ⟨c,hc,rc⟩:=r'.get (List.getElem?_eq_getElem hj')
 have ea:its.toArray[j]=a:=by
  have:=List.getElem?_eq_getElem h1
  rw [ha] at this
  simpa using (Option.some.inj this).symm
 have ec:jts.toArray[j]=c:=by
  have:=List.getElem?_eq_getElem h2
  rw [hc] at this
  simpa using (Option.some.inj this).symm
 rw [ea,ec]
 exact (Zz I (he j _ _ (List.getElem?_eq_getElem hj) (List.getElem?_eq_getElem hj')) A a c hu ra rc).1
theorem XE (I:Inv X pins σ H s) {k:Nat} {p q:Addr} {b:Bool} (h:EqH X.K H k (.ref p) (.ref q) b) (A:Around) (hu:A.units + k < cLine):SeqAt.RcNeAt A s (.ref p) (.ref q) (!b):=by
 cases h with
 | flat hx hy=>cases hx
 | @lst k _ _ xs ys f hp hq hl he=>
  obtain ⟨its,r,pl,hz⟩:=I.list hp
  obtain ⟨jts,r',pl',hz'⟩:=I.list hq
  have l1:=r.length
  have l2:=r'.length
  have:=SeqAt.RcNeAt.lists (A:=A) (e:=f) pl.isList pl'.isList (by simp only [List.size_toArray];omega) (by omega) (Bp I (A:=A.in1) (k:=k) (by rw [Jj];omega) r r' he)
  rwa [List.size_toArray,← l1] at this
 | @lstN k _ _ xs ys hp hq hl=>
  obtain ⟨its,r,pl,hz⟩:=I.list hp
  obtain ⟨jts,r',pl',hz'⟩:=I.list hq
  have l1:=r.length
  have l2:=r'.length
  exact SeqAt.RcNeAt.lists_lengths pl.isList pl'.isList (by simp only [List.size_toArray,bne_iff_ne,ne_eq];omega) (by omega)
 | @tup k _ _ xs ys f hp hq he=>
  obtain ⟨its,r,pl,hz⟩:=I.tuple hp
  obtain ⟨jts,r',pl',hz'⟩:=I.tuple hq
  have l1:=r.length
  have l2:=r'.length
  have:=SeqAt.RcNeAt.tuples (A:=A) (e:=f) pl pl' (by omega) (Bp I (A:=A.in1) (k:=k) (by rw [Jj];omega) r r' he)
  rwa [List.size_toArray,List.size_toArray,← l1,← l2] at this
end
section
variable {X:Cx}
noncomputable def mI (K:PySem.W.Frag):R2:=fun x y H Q=>∃ p q b,x=.ref p∧y=.ref q∧EqH K H 8 (.ref p) (.ref q) b∧Q (.bl (!b)) H
theorem qE (hU:X.A.units + 64 < cLine):OpR X (compareOp .NotEq) (mI X.K):=by
 intro pins s σ H x y v u Q I rx ry h
 obtain ⟨p,q,b,rfl,rfl,hE,q'⟩:=h
 cases rx
 cases ry
 exact XE I hE X.A (by omega) _ _ _ _ ⟨.bl (!b),H,I,rfl,q'⟩
noncomputable def GI (K:PySem.W.Frag):R2:=fun x y H Q=>∃ p q b,x=.ref p∧y=.ref q∧EqH K H 8 (.ref p) (.ref q) b∧Q (.bl b) H
end
theorem EqH.mono {K:PySem.W.Frag} {H:Hp} {j k:Nat} {x y:V} {b:Bool} (h:EqH K H j x y b):j ≤ k→EqH K H k x y b:=by
 induction h generalizing k with
 | flat hx hy=>exact fun _=>.flat hx hy
 | lst hp hq hl he ih=>
  intro hk
  obtain ⟨m,rfl⟩:∃ m,k=m + 1:=⟨k - 1,by omega⟩
  exact .lst hp hq hl fun j x y h1 h2=>ih j x y h1 h2 (by omega)
 | lstN hp hq hl=>
  intro hk
  obtain ⟨m,rfl⟩:∃ m,k=m + 1:=⟨k - 1,by omega⟩
  exact .lstN hp hq hl
 | tup hp hq he ih=>
  intro hk
  obtain ⟨m,rfl⟩:∃ m,k=m + 1:=⟨k - 1,by omega⟩
  exact .tup hp hq fun j x y h1 h2=>ih j x y h1 h2 (by omega)
noncomputable def MH:V→V→Bool
 | .int _,.int _=>true
 | .str _,.str _=>true
 | .bl _,.bl _=>true
 | .non,.non=>true
 | _,_=>false
theorem Rr {x y:V} (h:MH x y=true):Yg x=true∧Yg y=true∧eqV x y=decide (x=y):=by
 cases x <;> cases y <;> first | (exfalso;simp [MH] at h;done) | (refine ⟨rfl,rfl,?_⟩;rfl) | (refine ⟨rfl,rfl,?_⟩;rw [Bool.eq_iff_iff];simp [eqV];done)
theorem EqH.flats {K:PySem.W.Frag} {H:Hp} {k:Nat} {p q:Addr} {xs ys:List V} (hp:SqL K H p xs) (hq:SqL K H q ys) (h:∀ x ∈ xs,∀ y ∈ ys,MH x y=true):EqH K H (k + 1) (.ref p) (.ref q) (decide (xs=ys)):=by
 by_cases hl:xs.length=ys.length
 ·have hd:decide (xs=ys)=(List.range xs.length).all fun j=>eqV (xs.getD j .non) (ys.getD j .non):=by
   rw [Bool.eq_iff_iff,decide_eq_true_eq,List.all_eq_true]
   constructor
   ·rintro rfl j hj
    have hj':=List.mem_range.mp hj
    have hm:xs.getD j .non ∈ xs:=by rw [List.getD_eq_getElem?_getD,List.getElem?_eq_getElem hj'];exact List.getElem_mem hj'
    rw [(Rr (h _ hm _ hm)).2.2,decide_eq_true rfl]
   ·intro z
    refine List.ext_getElem hl fun j h1 h2=>?_
    have:=z j (List.mem_range.mpr h1)
    rw [List.getD_eq_getElem?_getD,List.getD_eq_getElem?_getD,List.getElem?_eq_getElem h1,List.getElem?_eq_getElem h2] at this
    have w:eqV xs[j] ys[j]=true:=this
    rw [(Rr (h _ (List.getElem_mem h1) _ (List.getElem_mem h2))).2.2,decide_eq_true_eq] at w
    exact w
  rw [hd]
  refine .lst hp hq hl fun j x y h1 h2=>?_
  have e:=Rr (h x (List.mem_of_getElem? h1) y (List.mem_of_getElem? h2))
  rw [List.getD_eq_getElem?_getD,List.getD_eq_getElem?_getD,h1,h2]
  exact .flat e.1 e.2.1
 ·rw [decide_eq_false (fun z=>hl (by rw [z]))]
  exact .lstN hp hq hl
end L2
namespace L2
open PySem PySem.Spec PyProof.Rows PySem.Builtin PySem.Builtin.ObjectAttr
noncomputable abbrev bmV:List Value:=[.type "ValueError",.type "Exception",.type "BaseException",.type "object"]
noncomputable def LA (K:PySem.W.Frag) (C fI:Addr):Bool:=
 match K.lookup C with
 | some ⟨.type "type",_,.cls cd,sl⟩=>
  match cd.mro,sl.toList with
  | .ref D :: tl,[_,_,_,_,some (.builtin n),_]=>
   (D == C) && (n == "ValueError.__new__") && (cd.hasDel == false) && (cd.hasDict == true) && PySem.W.tailIn K bmV tl && PySem.W.nsOkIn K cd.ns && (PySem.W.nsIn K cd.ns "__init__" == some (some (.ref fI)))
  | _,_=>false
 | _=>false
section
variable {P:Program} {w:World} {A:Around} {h:Heap} {g:Array GenState} {d:Drawn} {t:Nat} {os:OsState} {K:PySem.W.Frag} {C fI:Addr} {R:Result→Shared→Prop}
end
noncomputable def FC:List Value→Bool
 | .ref _ :: r=>FC r
 | l=>l == bmV
structure Xw (K:PySem.W.Frag) (C:Addr):Prop where
 hd:PySem.W.hasDictIn K C=true
 ov:((PySem.W.clsIn K C).any fun cd=>FC cd.mro)=true
 sa:PySem.W.findIn K (.ref C) "__setattr__"=some (some (.builtin "object.__setattr__"))
 ga:PySem.W.findIn K (.ref C) "__getattribute__"=some (some (.builtin "BaseException.__getattribute__"))
 gt:PySem.W.findIn K (.ref C) "__getattr__"=some none
 ex:∃ fI,LA K C fI=true
noncomputable def XF (x C:Addr) (od:Option Addr):Heap→Prop:=fun h=>∃ vs sl,h.get? x=some ⟨.ref C,od,.fields vs,sl⟩∧1 < vs.size∧vs[1]? = some .none
noncomputable def XD (dx:Addr) (fs:List (Str × V)):Heap→Prop:=fun h=>∃ mA,h.Ns1 dx mA∧(∀ f,On (fs.lookup f) (mA f))∧PySem.Within mA (fs.map (·.1))
theorem XF.at {x C:Addr} {od:Option Addr} {h h':Heap} (z:XF x C od h) (k:∀ o,h.get? x=some o→h'.get? x=some o):XF x C od h':=let ⟨vs,sl,e,r⟩:=z;⟨vs,sl,k _ e,r⟩
theorem XD.at {dx:Addr} {fs:List (Str × V)} {h h':Heap} (z:XD dx fs h) (k:∀ o,h.get? dx=some o→h'.get? dx=some o):XD dx fs h':=let ⟨mA,e,r⟩:=z;⟨mA,e.at k,r⟩
theorem XF.ok {P:Program} {w:World} {H:Hp} {h:Heap} {x C:Addr} {od:Option Addr} (z:XF x C od h):Rc P w H h x (.ext (XF x C od)):=by
 obtain ⟨vs,sl,e,r⟩:=id z
 exact ⟨z,⟨_,e⟩,fun h1 h2 q k=>q.at k⟩
theorem XD.ok {P:Program} {w:World} {H:Hp} {h:Heap} {dx:Addr} {fs:List (Str × V)} (z:XD dx fs h):Rc P w H h dx (.ext (XD dx fs)):=by
 obtain ⟨mA,⟨o,es,ep,e,_⟩,_⟩:=id z
 exact ⟨z,⟨_,e⟩,fun h1 h2 q k=>q.at k⟩
section
variable {prog:Program} {w:World} {A:Around} {E:Value→Shared→Prop} {K:PySem.W.Frag} {C x:Addr} {s:Shared} {R:Result→Shared→Prop}
end
section
variable {X:Cx} {pins:List (Addr × Obj)} {σ:St} {H:Hp} {s:Shared} {x C dx:Addr} {fs:List (Str × V)} {f:Str} {y:V} {u:Value} {A:Around} {E:Value→Shared→Prop} {Q:Unit→Shared→Prop}
noncomputable def XA (x C:Addr) (od:Option Addr):Heap→Prop:=fun h=>∃ vs sl,h.get? x=some ⟨.ref C,od,.fields vs,sl⟩
theorem XA.at {x C:Addr} {od:Option Addr} {h h':Heap} (z:XA x C od h) (k:∀ o,h.get? x=some o→h'.get? x=some o):XA x C od h':=let ⟨vs,sl,e⟩:=z;⟨vs,sl,k _ e⟩
theorem XA.ok {P:Program} {w:World} {H:Hp} {h:Heap} {x C:Addr} {od:Option Addr} (z:XA x C od h):Rc P w H h x (.ext (XA x C od)):=by
 obtain ⟨vs,sl,e⟩:=id z
 exact ⟨z,⟨_,e⟩,fun h1 h2 q k=>q.at k⟩
end
noncomputable abbrev TJ:=St→Hp→(Hp→Prop)→Prop
noncomputable def tJ0:TJ:=fun _ H Q=>Q H
noncomputable def tJI (te:TE) (t:TJ):TJ:=fun σ H Q=>te σ H fun v H1=>∃ i,v=.int i∧i.natAbs.log2 < 1920∧t σ H1 Q
noncomputable def tJS (te:TE) (t:TJ):TJ:=fun σ H Q=>te σ H fun v H1=>∃ x,v=.str x∧x.length ≤ 1000∧t σ H1 Q
noncomputable def tJR (te:TE) (t:TJ):TJ:=fun σ H Q=>te σ H fun v H1=>∃ x,v=.str x∧x.length ≤ 1000∧(∀ c ∈ x.cps.toList,c < 16 ^ 8)∧t σ H1 Q
noncomputable def mB (t:TJ):TE:=fun σ H Q=>t σ H fun H1=>∀ y:Str,Q (.str y) H1
section
variable {X:Cx} {e:Expr} {es:List Expr} {n:Nat} {t:TJ} {te:TE} {pos:Pos}
end
structure aJ (K:PySem.W.Frag) (L:Addr) (m:Str):Prop where
 rd:PySem.W.readsIn K L (.type "type")=true
 fd:PySem.W.findCls K (.ref L) (.type "type") m=some (.val (.builtin "ValueError.__init__"))
 ga:PySem.W.specialIn K (.ref L) "__getattribute__"=some (some (.builtin "type.__getattribute__"))
noncomputable def vE (K:PySem.W.Frag) (t:TA):TE:=fun σ H Q=>t σ H fun vs H1=>∃ x C od v,vs=[.ref x,v]∧H1 x=some (.ext (XF x C od))∧Xw K C∧Q .non H1
section
variable {X:Cx} {L:Addr} {x:Str} {p pos apos:Pos} {e:Expr} {es:List Expr} {t:TA}
end
structure MkX (K:PySem.W.Frag) (C fI:Addr):Prop where
 e:LA K C fI=true
 fn:PySem.W.typeIn K (.ref fI)=some (.type "function")
 kp:PySem.W.keepIn K (.ref C)=true
noncomputable def LF (C:Addr) (sp:Sp) (t:TA):TE:=fun σ H Q=>t σ H fun vs H1=>vs.length ≤ sizeLine∧∀ x,H1 x=none→sp (.ref x :: vs) (upd H1 x (.ext (XF x C none))) (fun v H2=>v=.non∧Q (.ref x) H2) (fun _ _ _=>False)
noncomputable def lE (K:PySem.W.Frag) (ta tv:TE) (f:Str):TS:=fun D σ H=>tv σ H fun y H1=>ta σ H1 fun x H2=>∃ a C,x=.ref a∧H2 a=some (.ext (XF a C none))∧Xw K C∧Fb K C f ∧
 ∀ dx,H2 dx=none→dx ≠ a→D.nx σ (upd (upd H2 a (.ext (XF a C (some dx)))) dx (.ext (XD dx [(f,y)])))
noncomputable def OF (K:PySem.W.Frag) (ta tv:TE) (f:Str):TS:=fun D σ H=>tv σ H fun y H1=>ta σ H1 fun x H2=>∃ a C dx fs,x=.ref a∧H2 a=some (.ext (XF a C (some dx)))∧H2 dx=some (.ext (XD dx fs))∧Xw K C∧Fb K C f∧fs.length < 1000 ∧
 D.nx σ (upd H2 dx (.ext (XD dx (eg f y fs))))
noncomputable def EH (K:PySem.W.Frag) (ta:TE) (f:Str):TE:=fun σ H Q=>ta σ H fun x H1=>∃ a C dx fs v,x=.ref a∧H1 a=some (.ext (XA a C (some dx)))∧H1 dx=some (.ext (XD dx fs))∧Xw K C∧Fb K C f∧fs.lookup f=some v∧Q v H1
section
variable {X:Cx} {k:Nat} {f C:Addr} {fd:FuncData} {ps:List Str} {sp:Sp} {x g:Str} {p pos pos' apos:Pos} {e o value:Expr} {es:List Expr} {ta tv:TE} {t:TA}
end
end L2
namespace L2
open PySem PySem.Spec PyProof.Rows PySem.Builtin PySem.Builtin.ObjectAttr
noncomputable def FlA (x C:Addr) (od:Option Addr) (T:Addr) (fl:Value) (h:Heap):Prop:=
 T ≠ x∧∃ vs sl oT ts,h.get? x=some ⟨.ref C,od,.fields vs,sl⟩∧vs[1]? = some (.ref T)∧h.get? T=some oT∧oT.data=.fields ts∧ts[3]? = some fl
structure Kp (fs:List Addr) (x:Addr) (To:Option Addr) (h h':Heap):Prop where
 keep:∀ b o,h.get? b=some o→b ∉ fs→b ≠ x→some b ≠ To→h'.get? b=some o
 slot:∀ b o,h.get? b=some o→b ∈ fs→∃ sl,h'.get? b=some { o with slots:=sl }
 there:∀ b o,h.get? b=some o→∃ o',h'.get? b=some o'
section
variable {M:Model} {A:Around} {E:Value→Shared→Prop} {s:Shared}
theorem nofr {base h:Heap} {l:List Env} {b:Addr} {o:Obj} {vs:Array Value} (hl:h.FunFrames base l) (e:h.get? b=some o) (d:o.data=.fields vs):b ∉ frs l:=fun hm=>by
 obtain ⟨_,o',e',nf⟩:=hl.mem hm
 rw [e] at e'
 cases e'
 exact nf vs d
end
section
variable {P:Program} {w:World} {H:Hp} {h h':Heap} {fs:List Addr} {x C T:Addr} {od:Option Addr} {fl:Value} {To:Option Addr} {o:HO}
theorem Kp.hok (k:Kp fs x To h h') (ok:HOk P w H h) (hfs:∀ b ∈ fs,H b=none) (hT:∀ t,To=some t→H t=none) (mu:Mut (H x)) (new:XA x C od h'):HOk P w (upd H x (.ext (XA x C od))) h':=fun b u q=>by
 have nown:∀ c y,H c=some (.own y)→c ≠ x:=fun c y r z=>by subst z;rw [r] at mu;exact mu
 have ntup:∀ c xs,H c=some (.tup xs)→c ≠ x:=fun c xs r z=>by subst z;rw [r] at mu;exact mu
 have kk:∀ c v,c ≠ x→H c ≠ none→h.get? c=some v→h'.get? c=some v:=fun c v n1 n2 r=>k.keep c v r (fun z=>n2 (hfs c z)) n1 fun z=>n2 (hT c z.symm)
 by_cases hb:b=x
 ·subst hb;rw [fb] at q;cases q;exact new.ok
 ·rw [qb hb] at q
  refine (ok b u q).stay (fun c v hc r=>?_) (fun c r=>by rw [qb (nown c b r)];exact r) fun c xs r=>by rw [qb (ntup c xs r)];exact r
  rcases hc with rfl | hc
  ·exact kk c v hb (by rw [q];exact fun z=>by cases z) r
  ·exact kk c v (nown c b hc) (by rw [hc];exact fun z=>by cases z) r
theorem Kp.un (k:Kp fs x To h h') (hT:∀ t,To=some t→H t=none) (mu:Mut (H x)):Un fs To.toList H (upd H x o) h h':=by
 have hx:∀ b,H b=none→b ≠ x:=fun b n z=>by subst z;rw [n] at mu;exact mu
 have hm:∀ b u,H b=some u→¬ Mut (some u)→b ≠ x:=fun b u q nm z=>by subst z;rw [q] at mu;exact nm mu
 refine ⟨fun b u q n n1 n2=>k.keep b u q n1 (hx b n) fun z=>n2 (by rw [← z];simp),fun b u q n n1 n2=>k.slot b u q n1,fun b u q n _=>by rw [qb (hx b n)];exact n,fun b u q _=>k.there b u q,
  fun b xs q=>by rw [qb (hm b _ q fun z=>z)];exact q,fun b u xs q=>by rw [qb (hm b _ q fun z=>z)];exact q,fun b ps q=>⟨#[],by rw [qb (hm b _ q fun z=>z),q];simp⟩⟩
end
noncomputable def CX1 (P:Program) (w:World):CXT:=fun outer H s E e s'=>
 ∃ x C od H' T,e=.ref x∧s'.os=s.os∧AllBare s'.gens∧Un (frs outer) [] H H' s.heap s'.heap∧HOk P w H' s'.heap∧H' x=some (.ext (XA x C od))∧s.heap.objs.size ≤ T∧H' T=none∧FlA x C od T .none s'.heap∧E (.ref C) od H'
structure Fr1 (X:Cx):Prop where
 st:X.stack=X.env :: X.outer
 fr:X.env.frame=some X.env.locals
noncomputable def YI (X:Cx) (pins:List (Addr × Obj)) (T:Addr):Prop:=(T ∈ X.ex∨X.s₀.heap.objs.size ≤ T)∧T ≠ X.env.locals∧(∀ x c,X.env.cells.lookup x=some c→c ≠ T)∧∀ p ∈ X.pn ++ pins,p.1 ≠ T
section
variable {X:Cx} {pins:List (Addr × Obj)} {σ:St} {H:Hp} {s:Shared} {T x C:Addr} {od:Option Addr} {E:St→XK} {M:Model} {A:Around} {E':Value→Shared→Prop} {Q:Unit→Shared→Prop} {e fl:Value} {h':Heap}
end
section
variable {P:Program} {w:World} {K:PySem.W.Frag} {mg:Str→Option Value} {base:Heap} {N:List Str} {qual:Str} {scope:Scope} {f:Addr} {cd:Value} {A:Around} {outer:List Env} {s:Shared} {H:Hp} {E:XK}
end
noncomputable def cG (sp:Sp) (dvs:List V) (E:St→XK) (t:TA):TE:=fun σ H Q=>t σ H fun vs H1=>sp (vs ++ dvs) H1 Q (E σ)
noncomputable def eF (C:Addr) (m:Str) (sp:Sp) (dvs:List V) (E:St→XK) (ta:TE) (t:TA):TE:=fun σ H Q=>ta σ H fun x H1=>∃ a dx fs,x=.ref a∧H1 a=some (.ins C dx fs)∧fs.lookup m=none ∧
 t σ H1 fun vs H2=>sp (x :: (vs ++ dvs)) H2 Q (E σ)
section
variable {X:Cx} {CX:CXT} {k:Nat} {f C:Addr} {fd:FuncData} {ps:List Str} {sp:Sp} {dvs:List V} {ds:List Value} {E:St→XK} {x m:Str} {p pos apos:Pos} {e o:Expr} {es:List Expr} {ta:TE} {t:TA}
end
noncomputable abbrev Cx.tr (X:Cx) (pn:List (Addr × Obj)) (E:Value→Shared→Prop):Cx:={ X with pn:=X.pn ++ pn,xe:=E }
noncomputable abbrev Cx.hn (X:Cx) (e:Value):Cx:={ X with A:=X.A.mark (some e),calm:=false,xe:=fun _ _=>False }
section
variable {X:Cx} {pins pins':List (Addr × Obj)} {σ:St} {H:Hp} {s:Shared} {E:Value→Shared→Prop} {e:Value}
theorem Cx.Ok.tr (ok:X.Ok) (pn:List (Addr × Obj)) (E:Value→Shared→Prop):(X.tr pn E).Ok:=
 ⟨ok.mod,ok.kind,ok.glob,ok.blt,ok.above,ok.inj,ok.has,ok.cab,ok.hd,ok.frames,ok.stk,ok.exf,ok.bs,ok.bsz,ok.noex,ok.exfs,ok.funs,ok.frf⟩
theorem Cx.Ok.hn (ok:X.Ok) (e:Value):(X.hn e).Ok:=
 ⟨ok.mod,ok.kind,ok.glob,ok.blt,ok.above,ok.inj,ok.has,ok.cab,(fun z=>Bool.noConfusion z),ok.frames,ok.stk,ok.exf,ok.bs,ok.bsz,ok.noex,ok.exfs,ok.funs,ok.frf⟩
theorem Inv.tr (I:Inv X pins σ H s) (E:Value→Shared→Prop):Inv (X.tr pins E) [] σ H s:=⟨I.ok.tr pins E,I.os,I.bare,I.base,I.loc,I.cell,I.free,I.freeC,fun p hp=>I.pin p (by simpa using hp),I.hok,I.len⟩
theorem Inv.hn (I:Inv X pins σ H s) (e:Value):Inv (X.hn e) pins σ H s:=⟨I.ok.hn e,I.os,I.bare,I.base,I.loc,I.cell,I.free,I.freeC,I.pin,I.hok,I.len⟩
end
noncomputable def Te.gone (D:Te) (i:Nat):Te:={ nx:=fun σ H=>D.nx (σ.set i none) H,rt:=D.rt,bk:=fun σ H=>D.bk (σ.set i none) H,ct:=fun σ H=>D.ct (σ.set i none) H }
noncomputable def SG (K:PySem.W.Frag) (c:Addr) (i:Nat) (th:TS) (D:Te):St→XK:=fun σ C od H=>∃ C',C=.ref C'∧PySem.W.exmOne K C (.ref c)=some true∧∀ x,H x=some (.ext (XA x C' od))→th (D.gone i) (σ.set i (some (.ref x))) H
noncomputable def ZI (K:PySem.W.Frag) (c:Addr) (i:Nat) (tb:(St→XK)→TS) (th:TS):TS:=fun D σ H=>tb (SG K c i th D) D σ H
section
variable {X:Cx} {body suite:List Stmt} {b0:Stmt} {x n:Str} {c:Addr} {i:Nat} {tb:(St→XK)→TS} {th:TS} {xp hp pos:Pos}
end
theorem UB (K:PySem.W.Frag) (c:Addr) (i:Nat) (tb:(St→XK)→TS) (th:TS) (D:Te) (σ:St) (H:Hp):ZI K c i tb th D σ H=tb (SG K c i th D) D σ H:=rfl
theorem lD (K:PySem.W.Frag) (c:Addr) (i:Nat) (th:TS) (D:Te) (σ:St) (C:Value) (od:Option Addr) (H:Hp) :
  SG K c i th D σ C od H = ∃ C',C=.ref C'∧PySem.W.exmOne K C (.ref c)=some true∧∀ x,H x=some (.ext (XA x C' od))→th (D.gone i) (σ.set i (some (.ref x))) H:=rfl
theorem mD (D:Te) (i:Nat) (σ:St) (H:Hp):(D.gone i).nx σ H=D.nx (σ.set i none) H:=rfl
theorem jC (D:Te) (i:Nat) (v:V) (H:Hp):(D.gone i).rt v H=D.rt v H:=rfl
theorem OwnTail.has {h:Heap} {bm tl:List Value} {v:Value} (T:OwnTail h bm tl) (e:bm.contains v=true):tl.contains v=true:=by
 induction T with
 | base=>exact e
 | own _ _ _ _ ih=>rw [List.contains_cons,ih,Bool.or_true]
noncomputable def ME (K:PySem.W.Frag) (E:St→XK) (te:TE):TS:=fun D σ H=>te σ H fun v H1=>∃ x C od,v=.ref x∧H1 x=some (.ext (XF x C od))∧Xw K C∧E σ (.ref C) od (upd H1 x (.ext (XA x C od)))
section
variable {X:Cx} {e:Expr} {te:TE} {pos:Pos} {E:St→XK}
theorem PS.nox {X:Cx} {st:Stmt} {t:TS} (h:PS X.nox st t):PS X st t:=fun pins s σ H D I hw=>
 wpAny_mono (h pins s σ H D (I.wish _) hw) (fun _ _ q=>q.unwish) fun _ _ z=>False.elim z
end
noncomputable def xeB (B:Cx) (E:XK) (e:Value) (s':Shared):Prop:=
 ∃ pins fl σ' H' x C od T,e=.ref x∧Inv B pins σ' H' s'∧H' x=some (.ext (XA x C od))∧H' T=none∧YI B pins T∧B.s₀.heap.objs.size ≤ T∧FlA x C od T fl s'.heap∧E (.ref C) od H'
structure bI (X:Cx) (scope:Scope) (N:List Str) (tg elt:Expr) (ifs:List Expr) (g:TG) (tc:TT) (te:XK→TE):Prop where
 tgt:∀ E C s H fp,PG ((X.block scope C N s H fp).wish (xeB (X.block scope C N s H fp) E)) tg g
 tests:∀ E C s H fp,PTs ((X.block scope C N s H fp).wish (xeB (X.block scope C N s H fp) E)) ifs tc
 elem:∀ E C s H fp,PE ((X.block scope C N s H fp).wish (xeB (X.block scope C N s H fp) E)) elt (te E)
theorem bI.of {X:Cx} {scope:Scope} {N:List Str} {tg elt:Expr} {ifs:List Expr} {g:TG} {tc:TT} {te:XK→TE} (h1:∀ E C s H fp,PG ((X.block scope C N s H fp).wish (xeB (X.block scope C N s H fp) E)) tg g)
  (h2:∀ E C s H fp,∃ t,PTs ((X.block scope C N s H fp).wish (xeB (X.block scope C N s H fp) E)) ifs t∧t=tc) (h3:∀ E C s H fp,∃ t,PE ((X.block scope C N s H fp).wish (xeB (X.block scope C N s H fp) E)) elt t∧t=te E):bI X scope N tg elt ifs g tc te:=
 ⟨h1,fun E C s H fp=>by obtain ⟨t,h,rfl⟩:=h2 E C s H fp;exact h,fun E C s H fp=>by obtain ⟨t,h,e⟩:=h3 E C s H fp;rw [← e];exact h⟩
noncomputable def nG (J:It) (g:TG) (tc:TT) (te:TE) (σb:St) (Q:VK) (H:Hp):Prop:=∃ W:Nat→Nat→List V→Hp→Prop,(∃ m,W 0 m [] H)∧Qp J g tc te σb Q W
noncomputable def UE (wi:TI) (g:TG) (tc:TT) (te:XK→TE) (sel:List (Option Nat)) (E:St→XK):TE:=fun σ H Q=>wi σ H fun J H1=>nG J g tc (te (E σ)) (blk sel σ) Q H1
section
variable {X:Cx} {elt tg iter:Expr} {ifs:List Expr} {scope:Scope} {pos:Pos} {wi:TI} {g:TG} {tc:TT} {te:XK→TE} {N:List Str} {sel:List (Option Nat)}
theorem FlA.but {x C T c:Addr} {od:Option Addr} {fl:Value} {h h':Heap} (z:FlA x C od T fl h) (n1:x ≠ c) (n2:T ≠ c) (k:∀ b,b ≠ c→h'.get? b=h.get? b):FlA x C od T fl h':=by
 obtain ⟨ne,vs,sl,oT,ts,he,h1,hT,hd,h3⟩:=z
 exact ⟨ne,vs,sl,oT,ts,(k _ n1).trans he,h1,(k _ n2).trans hT,hd,h3⟩
end
structure PH (K:PySem.W.Frag) (C:Addr):Prop where
 cl:Cls K C
 ha:PySem.W.findIn K (.ref C) "__class__"=some (some (.builtin "object.__class__"))
 hn:PySem.W.specialIn K (.builtin "object.__class__") "__get__"=some (some (.builtin "getset_descriptor.__get__"))
 htk:PySem.W.takesIn K (.builtin "object.__class__")=some true
 hm:PySem.W.mroIn K C (.type "object")=some true
theorem PH.ty {K:PySem.W.Frag} {H:Hp} {C a dx:Addr} {fs:List (Str × V)} (c:PH K C) (e:H a=some (.ins C dx fs)):bt K H (.ref a) (.ref C):=.ins e c.cl c.ha c.hn c.htk c.hm
end L2
namespace L2
open PySem PySem.Spec PyProof.Rows
noncomputable def Itd (hi:Int) (n:Nat):It:=⟨fun i _=>i < n,fun i H x H'=>H'=H∧x=.int (hi - i),fun i _=>n ≤ i⟩
section
variable {X:Cx} {tg:Expr}
noncomputable def iH (ta:TA):TI:=fun σ H R=>ta σ H fun vs H1=>∃ i j:Int,vs=[.int i,.int j,.int (-1)]∧(-1073741824 ≤ i∧i < 1073741824∧-1073741824 ≤ j∧j < 1073741824)∧R (Itd i (i - j).toNat) H1
end
section
variable {prog:Program} {w:World} {A:Around} {E:Value→Shared→Prop} {s:Shared} {it l:Addr} {items:Array Value}
end
section
variable {X:Cx}
noncomputable def vA (K:PySem.W.Frag) (ta:TA):TE:=fun σ H Q=>ta σ H fun vs H1=>∃ a xs,vs=[.ref a]∧SqL K H1 a xs∧∀ l,H1 l=none→Q (.ref l) (upd H1 l (.lst xs.reverse))
end
section
variable {prog:Program} {w:World} {A:Around} {R:Result→Shared→Prop} {I:Addr} {fp wr:List Addr} {n:Nat} {P:Nat→Value→Prop} {St:Nat→Heap→Prop}
end
section
variable {prog:Program} {w:World} {A:Around} {E:Value→Shared→Prop} {s:Shared}
end
section
variable {X:Cx}
noncomputable def KH (K:PySem.W.Frag) (ta:TA) (td:TE):TE:=fun σ H Q=>ta σ H fun vs H1=>td σ H1 fun y H2=>∃ l ks,vs=[.ref l]∧SqL K H2 l (List.map V.int ks)∧Q (match ks.min? with | some m=>.int m | none=>y) H2
end
end L2
namespace L2
open PySem PySem.Spec PyProof.Rows
structure cJ (K:PySem.W.Frag) (C:Addr):Prop where
 x:Xw K C
 ha:PySem.W.findIn K (.ref C) "__class__"=some (some (.builtin "object.__class__"))
 hn:PySem.W.specialIn K (.builtin "object.__class__") "__get__"=some (some (.builtin "getset_descriptor.__get__"))
 htk:PySem.W.takesIn K (.builtin "object.__class__")=some true
 hm:PySem.W.mroIn K C (.type "object")=some true
section
variable {prog:Program} {w:World} {A:Around} {E:Value→Shared→Prop} {s:Shared} {K:PySem.W.Frag} {x C:Addr} {od:Obj} {dx:Addr} {vs:Array Value} {sl:Array (Option Value)}
end
noncomputable def LI (K:PySem.W.Frag) (neg:Bool):R2:=fun x y H Q=>∃ p qs f,y=.ref p∧SqL K H p (List.map V.ref qs)∧(∀ q ∈ qs,EqH K H 8 (.ref q) x (f q))∧Q (.bl (if neg then !(qs.any f) else qs.any f)) H
section
variable {X:Cx}
end
theorem Lb.quiet {P:Program} {w:World} {K:PySem.W.Frag} {mg:Str→Option Value} {base:Heap} {k:Nat} {f:Addr} {fd:FuncData} {ps:List Str} {sp sp':Sp} (F:Lb P w K mg base (CX1 P w) k f fd ps sp)
  (h:∀ vs H Q E,sp' vs H Q E→sp vs H Q (fun _ _ _=>False)):Lb P w K mg base CX0 k f fd ps sp':=by
 refine ⟨fun vs H Q E q=>F.len vs H _ _ (h vs H Q E q),fun A outer s H args us vs Q E hr he hb hv hs=>?_⟩
 refine codeAny_mono (F.run A outer s H args us vs Q _ hr he hb hv (h vs H Q E hs)) fun r s' hq=>?_
 cases r with
 | error e=>
  obtain ⟨x,C,od,H',T,_,_,_,_,_,_,_,_,_,z⟩:=hq
  exact z.elim
 | ok fl=>cases fl <;> exact hq
end L2
namespace L2
open PySem PySem.Spec PyProof.Rows
structure ik (k:Nat) (A:Around):Prop where
 dp:A.depth + 3 * k + 5 < recursionLimit
 un:A.units + 16 * k + 200 < cLine
theorem Fh.h {k:Nat} {A:Around} (r:Fh k A):ik k A:=⟨r.dp,r.un⟩
theorem ik.mono {j k:Nat} {A:Around} (r:ik k A) (h:j ≤ k):ik j A:=⟨by have:=r.dp;omega,by have:=r.un;omega⟩
theorem ik.deeper {k:Nat} {A:Around} (r:ik (k + 1) A) (env:Env):ik k (A.deeper env):=
 ⟨by have:=r.dp;show A.depth + 1 + 3 * k + 5 < _;omega,by have:=r.un;show A.units + 3 + 16 * k + 200 < _;omega⟩
theorem ik.depth {k:Nat} {A:Around} (r:ik k A):A.depth < recursionLimit:=by have:=r.dp;omega
theorem ik.units {k:Nat} {A:Around} (r:ik k A):A.units + 64 < cLine:=by have:=r.un;omega
theorem Fh.hn {k:Nat} {X:Cx} {e:Value} (r:Fh k X.A):ik k (X.hn e).A:=⟨r.dp,r.un⟩
structure RD (P:Program) (w:World) (K:PySem.W.Frag) (mg:Str→Option Value) (base:Heap) (CX:CXT) (k:Nat) (f:Addr) (fd:FuncData) (ps:List Str) (sp:Sp):Prop where
 len:∀ vs H Q E,sp vs H Q E→vs.length=ps.length
 run:∀ (A:Around) (outer:List Env) (s:Shared) (H:Hp) (args:Args) (us:List Value) (vs:List V) (Q:VK) (E:XK),ik k A→jx P w K mg base A outer s H→BindsTo s fd args (ps.zip us)→Kc vs us→sp vs H Q E →
  codeAny (model P w) A (.call (.ref f) args) (CR CX outer P w H s Q E) s
theorem RD.mono {P:Program} {w:World} {K:PySem.W.Frag} {mg:Str→Option Value} {base:Heap} {CX:CXT} {j k:Nat} {f:Addr} {fd:FuncData} {ps:List Str} {sp:Sp} (F:RD P w K mg base CX j f fd ps sp) (h:j ≤ k) :
  RD P w K mg base CX k f fd ps sp:=⟨F.len,fun A outer s H args us vs Q E hr=>F.run A outer s H args us vs Q E (hr.mono h)⟩
section
variable {X:Cx} {CX:CXT} {k:Nat} {f C:Addr} {fd:FuncData} {ps:List Str} {sp:Sp} {dvs:List V} {ds:List Value} {E:XK} {x m:Str} {p pos apos:Pos} {e o:Expr} {es:List Expr} {ta:TE} {t:TA}
end
noncomputable def rH (CX:CXT) (P:Program) (w:World) (K:PySem.W.Frag) (mg:Str→Option Value) (base:Heap) (N:List Str) (qual:Str) (scope:Scope) (f:Addr) (cd:Value) (A:Around) (outer:List Env) (s:Shared) (H:Hp) (E:XK):Cx where
 prog:=P
 w:=w
 K:=K
 mg:=mg
 base:=base
 A:=A.deeper (envOfC qual scope s.heap.objs.size f cd)
 N:=N
 s₀:=s
 H₀:=H
 env:=envOfC qual scope s.heap.objs.size f cd
 outer:=outer
 stack:=envOfC qual scope s.heap.objs.size f cd :: outer
 ex:=[]
 calm:=false
 fn:=fun _=>true
 pn:=[]
 xe:=fun e s'=>wpAny (model P w) (A.deeper (envOfC qual scope s.heap.objs.size f cd)) (leaving (envOfC qual scope s.heap.objs.size f cd) e) (fun _ s''=>CX outer H s E e s'') (fun e' s''=>CX outer H s E e' s'') s'
section
variable {P:Program} {w:World} {K:PySem.W.Frag} {mg:Str→Option Value} {base:Heap}
end
end L2
namespace L2
open PySem PySem.Spec PyProof.Rows
section
variable {X:Cx}
end
end L2
namespace L2
open PySem PySem.Spec PyProof.Rows
section
variable {α:Type} {M:List α→Prop}
theorem us1 (h:∀ a,M [a]):∀ us:List α,us.length=1→M us | [a],_=>h a
theorem us2 (h:∀ a b,M [a,b]):∀ us:List α,us.length=2→M us | [a,b],_=>h a b
theorem us3 (h:∀ a b c,M [a,b,c]):∀ us:List α,us.length=3→M us | [a,b,c],_=>h a b c
theorem us4 (h:∀ a b c d,M [a,b,c,d]):∀ us:List α,us.length=4→M us | [a,b,c,d],_=>h a b c d
theorem us7 (h:∀ a b c d e f g,M [a,b,c,d,e,f,g]):∀ us:List α,us.length=7→M us | [a,b,c,d,e,f,g],_=>h a b c d e f g
theorem us8 (h:∀ a b c d e f g i,M [a,b,c,d,e,f,g,i]):∀ us:List α,us.length=8→M us | [a,b,c,d,e,f,g,i],_=>h a b c d e f g i
end
structure XB (K:PySem.W.Frag) (C:Addr):Prop where
 hd:PySem.W.hasDictIn K C=true
 ov:((PySem.W.clsIn K C).any fun cd=>FC cd.mro)=true
 sa:PySem.W.findIn K (.ref C) "__setattr__"=some (some (.builtin "object.__setattr__"))
 ga:PySem.W.findIn K (.ref C) "__getattribute__"=some (some (.builtin "BaseException.__getattribute__"))
 gt:PySem.W.findIn K (.ref C) "__getattr__"=some none
structure IB (K:PySem.W.Frag) (C:Addr):Prop where
 ha:PySem.W.findIn K (.ref C) "__class__"=some (some (.builtin "object.__class__"))
 hn:PySem.W.specialIn K (.builtin "object.__class__") "__get__"=some (some (.builtin "getset_descriptor.__get__"))
 htk:PySem.W.takesIn K (.builtin "object.__class__")=some true
 hm:PySem.W.mroIn K C (.type "object")=some true
end L2
namespace L2
open PySem PySem.Spec PyProof.Rows
theorem Ju {ks:List Int}:∀ {its:List Value},Kc (ks.map V.int) its→∃ xs:List (Int × Tok),its=xs.map (fun p=>Value.int p.1 p.2)∧xs.map (·.1)=ks:=by
 induction ks with
 | nil=>intro its r;cases r;exact ⟨[],rfl,rfl⟩
 | cons k ks ih=>
  intro its r
  cases r with
  | cons h t=>
   obtain ⟨xs,e1,e2⟩:=ih t
   obtain ⟨tk,rfl⟩:=(show ∃ t,_=Value.int k t from h)
   exact ⟨(k,tk) :: xs,by rw [List.map_cons,← e1],by rw [List.map_cons,e2]⟩
section
variable {X:Cx}
theorem Cp (hc:X.calm=true):Th X (.builtin "max") (fun xs H Q=>∃ l ks m,xs=[.ref l]∧SqL X.K H l (List.map V.int ks)∧(m ∈ ks∧∀ k ∈ ks,k ≤ m)∧Q (.int m) H):=by
 intro pins s σ H xs us Q I r h
 obtain ⟨l,ks,m,rfl,hq,hm,q⟩:=h
 obtain ⟨u,rfl,ru⟩:=qo r
 cases ru
 obtain ⟨its,rv,pl,hz⟩:=I.list hq
 obtain ⟨xs,e1,e2⟩:=Ju rv
 have hil:its.toArray=intItems xs.toArray:=by rw [e1];unfold intItems;simp
 have hls:s.heap.IsList l (intItems xs.toArray):=by rw [← hil];exact pl.isList
 have hxl:xs.length=ks.length:=by rw [← e2,List.length_map]
 have hne:0 < xs.toArray.size:=by
  rw [List.size_toArray,hxl]
  exact List.length_pos_of_mem hm.1
 refine max_intList (I.ok.hd hc) hls hne fun v h' tk hv hk=>⟨.int m,H,I.kept hk,?_,q⟩
 obtain ⟨tv,rfl⟩:=intItems_at hv
 refine ⟨tv,?_⟩
 have hb:=argBest_gt (numAt xs.toArray) (xs.toArray.size - 1)
 generalize argBest (fun i j=>decide (numAt xs.toArray i > numAt xs.toArray j)) (xs.toArray.size - 1)=j at hb ⊢
 have hn:∀ i,i < ks.length→ks[i]? = some (numAt xs.toArray i):=fun i hi=>by
  rw [numAt_eq,List.getD_eq_getElem?_getD]
  show ks[i]? = some (((xs.map (·.1))[i]?).getD 0)
  rw [e2,List.getElem?_eq_getElem hi];rfl
 rw [List.size_toArray] at hb hne
 have h1:=hm.2 _ (List.mem_of_getElem? (hn j (by omega)))
 obtain ⟨i,hi⟩:=List.getElem?_of_mem hm.1
 have hil:i < ks.length:=(List.getElem?_eq_some_iff.mp hi).1
 have h2:=hb.2 i (by omega)
 have h3:m=numAt xs.toArray i:=Option.some.inj (hi.symm.trans (hn i hil))
 rw [show numAt xs.toArray j=m by omega]
noncomputable def nB (K:PySem.W.Frag):V→List V→Hp→VK→Prop:=fun x vs H Q=>∃ l ks k,x=.ref l∧vs=[.int k]∧SqL K H l (List.map V.int ks)∧k ∈ ks∧ks.length ≤ 1000∧Q (.int (ks.idxOf k:Nat)) H
end
end L2
namespace L2
open PySem PySem.Spec PyProof.Rows
noncomputable def gF (p d:Addr):Heap→Prop:=fun h=>PySem.W.KdlKeysView h p d
noncomputable def uE (p d:Addr):Heap→Prop:=fun h=>h.IsValuesView p d
theorem gF.ok {P:Program} {w:World} {H:Hp} {h:Heap} {p d:Addr} (z:gF p d h):Rc P w H h p (.ext (gF p d)):=
 ⟨z,let ⟨o,ho,_⟩:=z;⟨o,ho⟩,fun _ _ z1 k=>let ⟨o,ho,x⟩:=z1;⟨o,k o ho,x⟩⟩
theorem uE.ok {P:Program} {w:World} {H:Hp} {h:Heap} {p d:Addr} (z:uE p d h):Rc P w H h p (.ext (uE p d)):=
 ⟨z,let ⟨o,ho,_⟩:=z;⟨o,ho⟩,fun _ _ z1 k=>let ⟨o,ho,x⟩:=z1;⟨o,k o ho,x⟩⟩
section
variable {X:Cx}
noncomputable def Dp:V→List V→Hp→VK→Prop:=fun x vs H Q=>∃ d kvs,x=.ref d∧vs=[]∧H d=some (.dK kvs)∧∀ p,H p=none→Q (.ref p) (upd H p (.ext (gF p d)))
noncomputable def ZG:V→List V→Hp→VK→Prop:=fun x vs H Q=>∃ d kvs,x=.ref d∧vs=[]∧H d=some (.dK kvs)∧∀ p,H p=none→Q (.ref p) (upd H p (.ext (uE p d)))
noncomputable def KD (K:PySem.W.Frag):V→List V→Hp→VK→Prop:=fun x vs H Q=>∃ l ys k j,x=.ref l∧vs=[.str k]∧SqL K H l (nc ys)∧ys[j]? = some k∧(∀ m,m < j→ys[m]? ≠ some k)∧ys.length ≤ 1000∧Q (.int (j:Nat)) H
end
end L2
namespace L2
open PySem PySem.Spec PyProof.Rows
noncomputable abbrev TF:=St→Hp→Str→(Str→Hp→Prop)→Prop
noncomputable def tF0:TF:=fun _ H acc Q=>acc.length ≤ sizeLine∧Q acc H
noncomputable def tFC (c:Str) (t:TF):TF:=fun σ H acc Q=>acc.length + c.length ≤ sizeLine∧t σ H (acc ++ c) Q
noncomputable def tFI (te:TE) (t:TF):TF:=fun σ H acc Q=>te σ H fun v H1=>∃ i,v=.int i∧i.natAbs.log2 < 1920∧acc.length + (Str.ofString (toString i)).length ≤ sizeLine∧t σ H1 (acc ++ Str.ofString (toString i)) Q
noncomputable def tFS (te:TE) (t:TF):TF:=fun σ H acc Q=>te σ H fun v H1=>∃ x,v=.str x∧x.length ≤ 1000∧acc.length + x.length ≤ sizeLine∧t σ H1 (acc ++ x) Q
noncomputable def BF (t:TF):TE:=fun σ H Q=>t σ H Str.empty fun y H1=>Q (.str y) H1
section
variable {X:Cx} {e:Expr} {es:List Expr} {t:TF} {te:TE} {pos:Pos}
end
end L2
namespace L2
open PySem PySem.Spec PyProof.Rows
noncomputable def WG (p:Addr) (a b c:Int):Heap→Prop:=fun h=>∃ t u v,IsRange h p a b c t u v
theorem WG.ok {P:Program} {w:World} {H:Hp} {h:Heap} {p:Addr} {a b c:Int} (z:WG p a b c h):Rc P w H h p (.ext (WG p a b c)):=
 ⟨z,let ⟨_,_,_,e⟩:=z;⟨_,e⟩,fun _ _ z1 k=>let ⟨t,u,v,e⟩:=z1;⟨t,u,v,k _ e⟩⟩
section
variable {X:Cx}
end
end L2
namespace L2
open PySem PySem.Spec PyProof.Rows
noncomputable def NG (f:Addr) (qual:Str) (params:Arguments) (body:Expr) (scope:Scope) (clos:List (Str × Addr)) (c':Addr):Heap→Prop:=
 fun h=>∃ pm ctv,h.get? f=some (PySem.W.kla_obj "<lambda>" qual params body scope clos pm c' ctv)
noncomputable def gH (c:Addr) (qual:Str):Heap→Prop:=fun h=>h.CodeRec (.ref c) qual
noncomputable def MG (c:Addr) (v:V):Heap→Prop:=fun h=>∃ u,Qc v u∧h.IsCell c (some u)
noncomputable def Tab (H:Hp) (Pt:Addr) (pos:Pos) (qual:Str):Prop:=
 ∃ ps,H Pt=some (.tbl ps)∧(ps=#[]∨∃ c',ps=#[rawInt pos.line,rawInt pos.col,.ref c']∧H c'=some (.ext (gH c' qual)))
noncomputable def Zq (Pt:Addr) (H H':Hp):Prop:=∀ b o,b ≠ Pt→H b=some o→H' b=some o
theorem Zq.refl (Pt:Addr) (H:Hp):Zq Pt H H:=fun _ _ _ h=>h
theorem Zq.trans {Pt:Addr} {H H1 H2:Hp} (a:Zq Pt H H1) (b:Zq Pt H1 H2):Zq Pt H H2:=fun c o n h=>b c o n (a c o n h)
theorem Xb.p {Pt:Addr} {H H':Hp} (s:Xb H H'):Zq Pt H H':=fun b o _ h=>s b o h
theorem Tab.ne {H:Hp} {Pt b:Addr} {pos:Pos} {qual:Str} {o:HO} (t:Tab H Pt pos qual) (h:H b=some o) (ho:∀ ps,o ≠ .tbl ps):b ≠ Pt:=fun e=>by
 obtain ⟨ps,e1,_⟩:=t
 subst e
 rw [e1] at h
 exact ho ps (Option.some.inj h).symm
theorem Tab.step {H H':Hp} {Pt:Addr} {pos:Pos} {qual:Str} (t:Tab H Pt pos qual) (s:Xb H H'):Tab H' Pt pos qual:=by
 obtain ⟨ps,e,d⟩:=t
 refine ⟨ps,s _ _ e,?_⟩
 rcases d with d | ⟨c',d,e'⟩
 ·exact .inl d
 ·exact .inr ⟨c',d,s _ _ e'⟩
structure dJ (X:Cx) (c Pt:Addr):Prop where
 code:X.env.code=.ref c
 hd:PySem.W.CodeHd X.base c Pt
 bm:X.base.BuiltinsAt X.mg Pt
section
variable {X:Cx} {pins:List (Addr × Obj)} {σ:St} {H:Hp} {s:Shared} {params:Arguments} {body:Expr} {scope:Scope} {pos:Pos} {c Pt:Addr} {clos:List (Str × Addr)} {Q:Value→Shared→Prop}
end
section
variable {P:Program} {w:World} {K:PySem.W.Frag} {mg:Str→Option Value} {base:Heap}
end
noncomputable def qI (H:Hp) (c:Addr):Hp:=fun b=>if b=c then none else H b
structure bJ (p y:Str) (sc:Scope):Prop where
 kind:sc.kind=.function
 co:sc.isCoroutine=false
 gen:sc.isGenerator=false
 ne:p ≠ y
 par:sc.names.lookup p=some .local
 yf:sc.names.lookup y=some .free
 nocell:∀ z ∈ sc.names,z.2 ≠ .cell
 one:∀ z ∈ sc.names,z.2=.free→z.1=y
section
variable {X:Cx} {pins:List (Addr × Obj)} {σ:St} {H:Hp} {s:Shared} {k:Nat} {f c' cl:Addr} {q p y:Str} {params:Arguments} {body:Expr} {scope:Scope} {v:V} {t:TE}
noncomputable def zE (q:Str) (params:Arguments) (body:Expr) (scope:Scope) (y:Str) (t:TE) (tf:TE) (ta:TA):TE:=fun σ H Q=>tf σ H fun x H1=>∃ f,x=.ref f∧(∃ cl c',H1 f=some (.ext (NG f q params body scope [(y,cl)] c')))∧ta σ H1 fun vs H2=>∃ a cl c' v,vs=[a] ∧
 H2 f=some (.ext (NG f q params body scope [(y,cl)] c'))∧H2 c'=some (.ext (gH c' q))∧H2 cl=some (.ext (MG cl v))∧t [some a,some v] (qI H2 cl) fun x H'=>Q x (upd H' cl (.ext (MG cl v)))
end
end L2
namespace L2
open PySem PySem.Spec PyProof.Rows
end L2
namespace L2
open PySem PySem.Spec PyProof.Rows
section
variable {P:Program} {w:World} {A:Around} {E:Value→Shared→Prop} {s:Shared}
structure ND (h:Heap) (d:Addr) (o:Obj) (es:Array DictEntry) (ep:Nat):Prop where
 at_:h.get? d=some o
 ex:o.ExactDict
 dat:o.data=.dict es ep
theorem Jw {d:Addr} {o:Obj} {es:Array DictEntry} {ep:Nat} (r:ND s.heap d o es ep):s.TypeIs (.ref d) "dict" := ⟨o,r.at_,r.ex.1⟩
theorem Vv {d:Addr} {o:Obj} {es:Array DictEntry} {ep:Nat} {Q:Value→Shared→Prop} (hd:(d == sysModules)=false) (r:ND s.heap d o es ep)
  (hQ:Q (.ref s.heap.objs.size) { s with heap:=s.heap.push { cls:=.type "dict_keyiterator",data:=.fields #[.ref d,.int 0 0,.int es.size 0,.int ep 0] } }) :
  wpAny (model P w) A (pyIter (.ref d)) Q E s:=by
 have hT:=Jw r
 refine wpAny_pyIter_slot hT F.slot_dict_iter (wpAny_call_entry F.slot_dict_iter hT F.entry_dict_iter ?_ (F.args_dict_iter_1 _))
 unfold Builtin.«dict.__iter__» Builtin.Dict.dictSlotNone
 refine wpAny_bind (wpAny_bind (wpAny_notOrdered_dict hT (wpAny_pure ?_)))
 show wpAny _ _ (Builtin.Dict.showsAll d >>= _) _ _ s
 unfold Builtin.Dict.showsAll
 rw [if_neg (by rw [hd];exact Bool.false_ne_true)]
 refine wpAny_bind (wpAny_pure (wpAny_bind (wpAny_dictEntries r.at_ r.dat (wpAny_bind (wpAny_dictEpoch r.at_ r.dat ?_)))))
 refine wpAny_bind (wpAny_newObj_type (wpAny_pure ⟨_,rfl,"dict_keyiterator",_,⟨_,Heap.get?_push_size _ rfl,rfl⟩,F.slot_dict_keyiterator_next.lookup,?_⟩))
 simpa [rawInt] using hQ
theorem yw {it d:Addr} {o:Obj} {i ep:Nat} {es:Array DictEntry} {e:DictEntry} {Q:Option Value→Shared→Prop} (hit:s.heap.IsKeyIter it d i es.size ep) (r:ND s.heap d o es ep) (hx:es[i]? = some e)
  (hQ:∀ h',h'.IsKeyIter it d (i + 1) es.size ep→Heap.SameBut it s.heap h'→Q (some e.key) { s with heap:=h' }):wpAny (model P w) A (pyNext (.ref it)) Q E s:=by
 obtain ⟨oi,ho,hc,hd⟩:=id hit
 have hown:Builtin.Dict_items.ownsTuple "dict_keyiterator"=false:=by decide
 have hlt:i < es.size:=by
  rcases Nat.lt_or_ge i es.size with h | h
  ·exact h
  ·rw [Array.getElem?_eq_none h] at hx;cases hx
 unfold pyNext
 refine wpAny_bind (wpAny_attempt (wpAny_callSpecial?_slot (name:=Str.ofString "__next__") hit.typeIs F.slot_dict_keyiterator_next
  (wpAny_call_entry F.slot_dict_keyiterator_next hit.typeIs F.entry_dict_keyiterator_next ?_ (F.args_dict_keyiterator_next_1 _))))
 refine wpAny_bind (wpAny_pure (wpAny_bind (wpAny_bind ?_)))
 first | refine wpAny_bind (wpAny_typeNameOfWhole_keyiter hit.typeIs (wpAny_pure ?_)) | refine wpAny_bind (wpAny_typeNameOf_keyiter hit.typeIs (wpAny_pure ?_))
 refine wpAny_bind (wpAny_fieldsOf ho hd ?_)
 simp only [hown,Bool.false_eq_true,if_false]
 show wpAny _ _ (if (Value.ref d == Value.none)=true then _ else _) _ _ s
 rw [if_neg (show ¬ ((Value.ref d == Value.none)=true) from Bool.false_ne_true)]
 refine wpAny_bind (wpAny_pure (wpAny_bind (wpAny_dictEntries r.at_ r.dat ?_)))
 rw [if_neg (by simp)]
 refine wpAny_bind (wpAny_pure (wpAny_bind (wpAny_dictEpoch r.at_ r.dat ?_)))
 rw [if_neg (by simp)]
 refine wpAny_pure ?_
 simp only [show ¬ ((i:Int) < 0) from by omega,if_false,Int.toNat_natCast,hx]
 refine wpAny_bind ?_
 first | refine wpAny_bind (wpAny_typeNameOfWhole_keyiter hit.typeIs (wpAny_pure ?_)) | refine wpAny_bind (wpAny_typeNameOf_keyiter hit.typeIs (wpAny_pure ?_))
 refine wpAny_bind (wpAny_isOneOf_keyiter hit.typeIs ?_)
 show wpAny _ _ (setField (.ref it) 1 (rawInt ((i:Int) + 1)) >>= _) _ _ s
 refine wpAny_bind (wpAny_setField ho hd (by simp) ?_)
 have hit':(s.heap.update it (Obj.mapFields (·.setIfInBounds 1 (rawInt ((i:Int) + 1))))).IsKeyIter it d (i + 1) es.size ep:=
  ⟨_,Heap.get?_update_self _ ho (Obj.isFreed_of_fields (Obj.data_mapFields hd _)),(Obj.cls_mapFields ..).trans hc,by rw [Obj.data_mapFields hd];simp [rawInt]⟩
 refine wpAny_bind (wpAny_holding (wpAny_bind (wpAny_isOneOf_keyiter (s:={ s with heap:=s.heap.update it (Obj.mapFields (·.setIfInBounds 1 (rawInt ((i:Int) + 1)))) }) hit'.typeIs ?_)))
 show wpAny _ _ (pure e.key) _ _ _
 exact wpAny_pure (wpAny_pure ⟨_,rfl,wpAny_pure (hQ _ hit' (Heap.SameBut.update ..))⟩)
theorem Ty {it d:Addr} {o:Obj} {i ep:Nat} {es:Array DictEntry} {Q:Option Value→Shared→Prop} (hh:A.handled=none) (hit:s.heap.IsKeyIter it d i es.size ep) (r:ND s.heap d o es ep) (hx:es.size ≤ i)
  (hQ:∀ h',Heap.ExtBut it s.heap h'→Q none { s with heap:=h' }):wpAny (model P w) A (pyNext (.ref it)) Q E s:=by
 obtain ⟨oi,ho,hc,hd⟩:=id hit
 have hown:Builtin.Dict_items.ownsTuple "dict_keyiterator"=false:=by decide
 unfold pyNext
 refine wpAny_bind (wpAny_attempt (wpAny_callSpecial?_slot (name:=Str.ofString "__next__") hit.typeIs F.slot_dict_keyiterator_next
  (wpAny_call_entry F.slot_dict_keyiterator_next hit.typeIs F.entry_dict_keyiterator_next ?_ (F.args_dict_keyiterator_next_1 _))))
 refine wpAny_bind (wpAny_pure (wpAny_bind (wpAny_bind ?_)))
 first | refine wpAny_bind (wpAny_typeNameOfWhole_keyiter hit.typeIs (wpAny_pure ?_)) | refine wpAny_bind (wpAny_typeNameOf_keyiter hit.typeIs (wpAny_pure ?_))
 refine wpAny_bind (wpAny_fieldsOf ho hd ?_)
 simp only [hown,Bool.false_eq_true,if_false]
 show wpAny _ _ (if (Value.ref d == Value.none)=true then _ else _) _ _ s
 rw [if_neg (show ¬ ((Value.ref d == Value.none)=true) from Bool.false_ne_true)]
 refine wpAny_bind (wpAny_pure (wpAny_bind (wpAny_dictEntries r.at_ r.dat ?_)))
 rw [if_neg (by simp)]
 refine wpAny_bind (wpAny_pure (wpAny_bind (wpAny_dictEpoch r.at_ r.dat ?_)))
 rw [if_neg (by simp)]
 refine wpAny_pure ?_
 simp only [show ¬ ((i:Int) < 0) from by omega,if_false,Int.toNat_natCast,Array.getElem?_eq_none hx]
 refine wpAny_bind ?_
 first | refine wpAny_bind (wpAny_typeNameOfWhole_keyiter hit.typeIs (wpAny_pure ?_)) | refine wpAny_bind (wpAny_typeNameOf_keyiter hit.typeIs (wpAny_pure ?_))
 show wpAny _ _ (setField (.ref it) 0 .none >>= _) _ _ s
 refine wpAny_bind (wpAny_setField ho hd (by simp) ?_)
 show wpAny _ _ (newExc (.type "StopIteration") [] >>= _) _ _ _
 refine wpAny_bind ?_
 simp only [newExc,newTuple]
 refine wpAny_bind (wpAny_newObj_type ?_ (by size_fits))
 refine wpAny_bind (m:=firstArgMember _ _) (wpAny_of_eq (a:=Value.none) (by first | rfl | (simp only [firstArgMember];rfl)) ?_)
 refine wpAny_newObj_type ?_ (by size_fits)
 simp only [raiseNew]
 refine wpAny_bind (wpAny_handled ?_)
 rw [show A.in1.handled=none from hh]
 refine wpAny_bind (wpAny_pure (wpAny_throw ?_))
 refine wpAny_bind (wpAny_isInstance (T := "StopIteration") (b:=true) ⟨_,Heap.get?_push_size _ rfl,rfl⟩ isSubtype_stop ?_)
 exact wpAny_pure (hQ _ (((Heap.SameBut.update ..).extBut.push _).push _))
end
noncomputable def AtO (a:Addr) (o:Obj):Heap→Prop:=fun h=>h.get? a=some o
theorem yC {α β:Type} {F:α→β→Prop} {l₁:List α} {l₂:List β} (r:Paired F l₁ l₂):∀ {i:Nat} {a:α},l₁[i]? = some a→∃ b,l₂[i]? = some b∧F a b:=by
 induction r with
 | nil=>intro i a e;cases e
 | cons h _ ih=>
  intro i a e
  cases i with
  | zero=>cases e;exact ⟨_,rfl,h⟩
  | succ j=>exact ih (by simpa using e)
theorem qy {α β:Type} {F:α→β→Prop} {l₁:List α} {l₂:List β} (r:Paired F l₁ l₂):l₁.length=l₂.length:=by
 induction r with
 | nil=>rfl
 | cons _ _ ih=>simp [ih]
structure EG (P:Program) (w:World) (H:Hp) (a:Addr) (kvs:List (List Key × V)) (o:Obj) (es:Array DictEntry) (ep:Nat) (xs:List (List Key × Addr × Value)):Prop where
 at_:H a=some (.ext (AtO a o))
 ex:o.ExactDict
 dat:o.data=.dict es ep
 ent:es.toList=xs.map (entryOfKey (tupleKind (vd P w)))
 nd:(xs.map (·.1)).Nodup
 ks:Paired (fun (p:List Key × V) (q:List Key × Addr × Value)=>p.1=q.1∧H q.2.1=some (.tup (p.1.map kV))∧Qc p.2 q.2.2) kvs xs
 sz:kvs.length ≤ sizeLine
 ns:(a == sysModules)=false
noncomputable def Ri (P:Program) (w:World) (H:Hp) (a:Addr) (kvs:List (List Key × V)):Prop:=∃ o es ep xs,EG P w H a kvs o es ep xs
section
variable {P:Program} {w:World} {H H':Hp} {h:Heap} {a:Addr} {kvs:List (List Key × V)}
theorem vh (d:Ri P w H a kvs) (s:Xb H H'):Ri P w H' a kvs:=by
 obtain ⟨o,es,ep,xs,r⟩:=d
 exact ⟨o,es,ep,xs,s _ _ r.at_,r.ex,r.dat,r.ent,r.nd,Paired.mapP r.ks fun p q z=>⟨z.1,s _ _ z.2.1,z.2.2⟩,r.sz,r.ns⟩
theorem mz {p:Addr} {u:HO} (d:Ri P w H a kvs) (hp:p ≠ a) (ht:∀ xs,H p ≠ some (.tup xs)):Ri P w (upd H p u) a kvs:=by
 obtain ⟨o,es,ep,xs,r⟩:=d
 exact ⟨o,es,ep,xs,by rw [qb (Ne.symm hp)];exact r.at_,r.ex,r.dat,r.ent,r.nd,Paired.mapP r.ks fun q q' z=>⟨z.1,by rw [qb (fun e=>ht _ (e ▸ z.2.1))];exact z.2.1,z.2.2⟩,r.sz,r.ns⟩
theorem jp {o:Obj} {es:Array DictEntry} {ep:Nat} {xs:List (List Key × Addr × Value)} (ok:HOk P w H h) (r:EG P w H a kvs o es ep xs):ND h a o es ep:=
 ⟨(ok a _ r.at_).1,r.ex,r.dat⟩
theorem Bw (ok:HOk P w H h) (d:Ri P w H a kvs):Mut (H a)∧(∃ u,h.get? a=some u)∧Rc P w (upd H a (.dT kvs)) h a (.dT kvs):=by
 obtain ⟨o,es,ep,xs,r⟩:=d
 have e:=(jp ok r).at_
 refine ⟨by rw [r.at_];exact True.intro,⟨o,e⟩,r.sz,r.ns,xs,Paired.mapP r.ks fun q q' z=>⟨z.1,?_,z.2.2⟩,o,es,ep,e,r.ex,r.dat,r.ent,r.nd⟩
 rw [qb (fun e=>by have:=z.2.1;rw [e,r.at_] at this;cases this)]
 exact z.2.1
theorem zw (ok:HOk P w H h) (d:Ri P w H a kvs):HOk P w (upd H a (.dT kvs)) h:=
 have z:=Bw ok d
 ok.write z.1 (.inl rfl) (fun _ _ _ q=>q) z.2.1 z.2.2
theorem dD {b:Addr} {xs:List V} (d:Ri P w H a kvs) (e:H b=some (.tup xs)):b ≠ a:=fun z=>by
 obtain ⟨o,es,ep,ys,r⟩:=d
 have:=r.at_
 rw [← z,e] at this
 cases this
end
section
variable {X:Cx} {pins:List (Addr × Obj)} {σ:St} {H:Hp} {s:Shared} {a b:Addr} {kvs:List (List Key × V)} {k:List Key} {v:V} {r:Value} {A:Around} {E:Value→Shared→Prop}
theorem As {o':HO} (I:Inv X pins σ H s) (mu:Mut (H a)) (ex:∃ u,s.heap.get? a=some u) (new:Rc X.prog X.w (upd H a o') s.heap a o'):Inv X pins σ (upd H a o') s:=
 I.un (t':=s.toks) (h':=s.heap) (Un.write mu (.inl rfl) (fun _ _ _ q=>q) ex) (I.hok.write mu (.inl rfl) (fun _ _ _ q=>q) ex new)
theorem Yz (I:Inv X pins σ H s) (d:Ri X.prog X.w H a kvs):Inv X pins σ (upd H a (.dT kvs)) s:=
 have z:=Bw I.hok d
 As I z.1 z.2.1 z.2.2
theorem Qs (I:Inv X pins σ H s) (e:H a=some (.dT kvs)):∃ o,Inv X pins σ (upd H a (.ext (AtO a o))) s∧Ri X.prog X.w (upd H a (.ext (AtO a o))) a kvs:=by
 obtain ⟨z,y,xs,r,o,es,ep,h1,h2,h3,h4,h5⟩:=(show Rc X.prog X.w H s.heap a (.dT kvs) from I.hok a _ e)
 refine ⟨o,As I (by rw [e];exact True.intro) ⟨o,h1⟩ ⟨h1,⟨o,h1⟩,fun _ _ q k=>k o q⟩,o,es,ep,xs,fb ..,h2,h3,h4,h5,Paired.mapP r fun p q z=>⟨z.1,?_,z.2.2⟩,z,y⟩
 rw [qb (fun q=>by have:=z.2.1;rw [q,e] at this;cases this)]
 exact z.2.1
theorem wF {Q:Value→Shared→Prop} (hu:A.units + 1 < cLine) (I:Inv X pins σ H s) (d:Ri X.prog X.w H a kvs) (eb:H b=some (.tup (k.map kV))) (l:Zh kvs k=some v) (h:∀ w' s',Inv X pins σ H s'→Qc v w'→Q w' s') :
  wpAny (model X.prog X.w) A (getItem (.ref a) (.ref b)) Q E s:=by
 obtain ⟨z,hd,xs,rel,dd⟩:=nF (zw I.hok d) (fb ..)
 obtain ⟨w',hw,rw'⟩:=On.some_of (v:=v) (o:=(atKey xs k).map (·.2)) (by rw [← l];exact rel.val k)
 obtain ⟨p,hp,hp2⟩:=Option.map_eq_some_iff.mp hw
 refine wpAny_getItem_heap (tupleKind_room_in1 hu) (Np I.hok eb) dd hp ?_
 rw [hp2]
 exact h w' _ (I.tok _) rw'
theorem sE {Q:Unit→Shared→Prop} (hu:A.units + 1 < cLine) (I:Inv X pins σ H s) (d:Ri X.prog X.w H a kvs) (eb:H b=some (.tup (k.map kV))) (hl:kvs.length < sizeLine) (rv:Qc v r)
  (h:∀ o s',Inv X pins σ (upd H a (.ext (AtO a o))) s'→Ri X.prog X.w (upd H a (.ext (AtO a o))) a (Jm kvs k v)→Q () s'):wpAny (model X.prog X.w) A (setItem (.ref a) (.ref b) r) Q E s:=by
 refine Aq hu (Yz I d) (vx.t (fb ..) (by rw [qb (dD d eb)];exact eb) hl) (show Qc (.ref b) (.ref b) from rfl) rv fun s' I'=>?_
 rw [Hi] at I'
 obtain ⟨o,I2,d2⟩:=Qs I' (fb ..)
 rw [Hi] at I2 d2
 exact h o s' I2 d2
end
noncomputable def iE (P:Program) (w:World) (td ty:TE):TE:=fun σ H Q=>td σ H fun x H1=>ty σ H1 fun y H2=>∃ a b kvs k v,x=.ref a∧y=.ref b∧Ri P w H2 a kvs∧H2 b=some (.tup (k.map kV))∧Zh kvs k=some v∧Q v H2
noncomputable def zI (P:Program) (w:World) (ty td:TE):TE:=fun σ H Q=>ty σ H fun y H1=>td σ H1 fun x H2=>∃ a b kvs k,x=.ref a∧y=.ref b∧Ri P w H2 a kvs∧H2 b=some (.tup (k.map kV))∧Q (.bl (Zh kvs k).isSome) H2
noncomputable def fD (P:Program) (w:World) (ty td:TE):TE:=fun σ H Q=>ty σ H fun y H1=>td σ H1 fun x H2=>∃ a b kvs k,x=.ref a∧y=.ref b∧Ri P w H2 a kvs∧H2 b=some (.tup (k.map kV))∧Q (.bl (!(Zh kvs k).isSome)) H2
noncomputable def CG (P:Program) (w:World) (td ty tv:TE):TS:=fun D σ H=>tv σ H fun v H1=>td σ H1 fun x H2=>ty σ H2 fun y H3=>∃ a b kvs k,x=.ref a∧y=.ref b∧Ri P w H3 a kvs∧H3 b=some (.tup (k.map kV))∧kvs.length < sizeLine∧∀ o,Ri P w (upd H3 a (.ext (AtO a o))) a (Jm kvs k v)→D.nx σ (upd H3 a (.ext (AtO a o)))
noncomputable def yF (P:Program) (w:World):TE:=fun _ H Q=>∀ p o,H p=none→Ri P w (upd H p (.ext (AtO p o))) p []→Q (.ref p) (upd H p (.ext (AtO p o)))
section
variable {X:Cx} {o i e value:Expr} {pos pos' tpos:Pos} {td ty tv:TE}
theorem nD (hu:X.A.units + 1 < cLine) (ho:PE X o td) (hi:PE X i ty) (hs:uH i):PE X (.Subscript o i pos) (iE X.prog X.w td ty):=by
 intro pins s σ H Q I h
 refine Jv PySem.F.slot_dict_getitem.lookup hs (thn (ho pins s σ H _ I h) fun u s1 ⟨x,H1,I1,rx,q1⟩=>thn (hi pins s1 σ H1 _ I1 q1) fun iv s2 hZ1=>?_)
 obtain ⟨y,H2,I2,ry,a,b,kvs,k,v,ex,ey,d,eb,l,q2⟩:=hZ1
 subst ex ey
 obtain rfl:u=Value.ref a:=rx
 obtain rfl:iv=Value.ref b:=ry
 refine ⟨?_,wF hu I2 d eb l fun w' s3 I3 rw'=>⟨v,H2,I3,rw',q2⟩⟩
 obtain ⟨ob,es,ep,xs,r⟩:=d
 exact Jw (jp I2.hok r)
theorem qD (hu:X.A.units + 1 < cLine) (ho:PE X o td) (hi:PE X i ty) (hv:PE X value tv) (hs:swapsWith value (some (.Subscript o i pos')) pos.line X.env=pure false) :
  PS X (.Assign [.Subscript o i pos'] value pos) (CG X.prog X.w td ty tv):=by
 intro pins s σ H D I h
 refine wpAny_Assign_Subscript (thn (hv pins s σ H _ I h) fun r s1 ⟨v,H1,I1,rv,q1⟩=>thn (ho pins s1 σ H1 _ I1 q1) fun u s2 ⟨x,H2,I2,rx,q2⟩=>thn (hi pins s2 σ H2 _ I2 q2) fun iv s3 hZ1=>?_) hs
 obtain ⟨y,H3,I3,ry,a,b,kvs,k,ex,ey,d,eb,hl,q3⟩:=hZ1
 subst ex ey
 obtain rfl:u=Value.ref a:=rx
 obtain rfl:iv=Value.ref b:=ry
 exact sE hu I3 d eb hl rv fun ob s4 I4 d4=>⟨σ,_,I4,q3 ob d4⟩
theorem kC:PE X (.Dict [] [] pos) (yF X.prog X.w):=fun pins s σ H Q I h=>by
 refine thn (yz pins s σ H (fun x H1=>∃ p,x=.ref p∧H p=none∧H1=upd H p (.dT [])) I fun p hp=>⟨p,rfl,hp,rfl⟩) fun v s1 hZ1=>?_
 obtain ⟨x,H1,I1,r1,p,ex,hp,eH⟩:=hZ1
 subst ex eH
 obtain ⟨o,I2,d2⟩:=Qs I1 (fb ..)
 rw [Hi] at I2 d2
 exact ⟨.ref p,_,I2,r1,h p o hp d2⟩
end
noncomputable def Itk (d:Addr) (o:Obj) (kvs:List (List Key × V)) (xs:List (List Key × Addr × Value)):It:=
 ⟨fun i H=>H d=some (.ext (AtO d o))∧i < kvs.length,fun i H x H'=>H'=H∧∃ k b u,xs[i]? = some (k,b,u)∧x=.ref b,fun i H=>H d=some (.ext (AtO d o))∧kvs.length ≤ i⟩
theorem Ey {P:Program} {w:World} {K:PySem.W.Frag} {tg:Expr} {d it:Addr} {o:Obj} {es:Array DictEntry} {ep:Nat} {kvs:List (List Key × V)} {xs:List (List Key × Addr × Value)} (ex:o.ExactDict) (ho:o.data=.dict es ep)
  (ent:es.toList=xs.map (entryOfKey (tupleKind (vd P w)))) (hl:kvs.length=xs.length):Sz P w K tg (Itk d o kvs xs) [it] it (fun i h=>h.IsKeyIter it d i es.size ep) where
 mem:=by simp
 obj:=fun i h st b hb=>by
  have e:b=it:=by simpa using hb
  subst e
  obtain ⟨o,e,c,d⟩:=st
  exact ⟨o,e,fun v z=>by rw [d] at z;cases z⟩
 keep:=fun i h h' st k=>st.at fun o e=>k it (by simp) o e
 item:=by
  intro X hP hw hK hc i pins s σ H E I hf st hg
  subst hP hw hK
  obtain ⟨hq,hx⟩:=hg
  have r:ND s.heap d o es ep:=⟨(I.hok d _ hq).1,ex,ho⟩
  obtain ⟨f0,f1,f2,f3,f4,f5⟩:=hf it (by simp)
  obtain ⟨q,hq2⟩:∃ q,xs[i]? = some q:=⟨_,List.getElem?_eq_getElem (by omega)⟩
  refine yw st r (e:=entryOfKey (tupleKind (vd X.prog X.w)) q) (by rw [entry_at ent,hq2];rfl) fun h' st' sb=>?_
  have I1:Inv X pins σ H { s with heap:=h' }:=I.turned (t':=s.toks) (fun b o hb e=>(sb.2 b hb).trans e) f0 f1 f3 f4 f5
  obtain ⟨o2,e,c,dd⟩:=id st'
  exact ⟨_,rfl,sv (s:={ s with heap:=h' }) e c dd (by decide) ⟨.ref q.2.1,H,I1,rfl,⟨rfl,q.1,q.2.1,q.2.2,hq2,rfl⟩,st',fun b hb=>(hf b hb).1⟩⟩
 done:=by
  intro X hP hw hK hc i pins s σ H E I hf st hg
  subst hP hw hK
  obtain ⟨hq,hx⟩:=hg
  have r:ND s.heap d o es ep:=⟨(I.hok d _ hq).1,ex,ho⟩
  obtain ⟨f0,f1,f2,f3,f4,f5⟩:=hf it (by simp)
  have hz:es.size=xs.length:=size_of_entries ent
  exact Ty (I.ok.hd hc) st r (by omega) fun h' eb=>⟨rfl,I.turned (t':=s.toks) (fun b o hb e=>eb b o hb e) f0 f1 f3 f4 f5⟩
 self:=fun _ _ _ _ _ st h=>wpAny_pyIter_keyiter st h
section
variable {X:Cx} {tg:Expr}
noncomputable def OH (P:Program) (w:World) (tl:TE):TI:=fun σ H R=>tl σ H fun x H1=>∃ d kvs,x=.ref d∧Ri P w H1 d kvs∧∀ o es ep xs,EG P w H1 d kvs o es ep xs→R (Itk d o kvs xs) H1
theorem AE {l:Expr} {tl:TE} (hl:PE X l tl):PI X tg l (OH X.prog X.w tl):=by
 intro pins s σ H R I h
 refine thn (hl pins s σ H _ I h) fun v s1 hZ1=>?_
 obtain ⟨x,H1,I1,r1,q1⟩:=hZ1
 obtain ⟨d,kvs,e,⟨o,es,ep,xs,r⟩,q⟩:=q1
 subst e
 cases r1
 refine Vv r.ns (jp I1.hok r) ?_
 refine ⟨s1.heap.objs.size,[s1.heap.objs.size],_,_,_,rfl,I1.kept (t':=s1.toks) fun b o e=>Heap.get?_push_of_some _ e,Ey r.ex r.dat r.ent (qy r.ks),⟨_,Heap.get?_push_size _ rfl,rfl,rfl⟩,fun b hb=>?_,q o es ep xs r⟩
 have e:b=s1.heap.objs.size:=by simpa using hb
 subst e
 exact I1.fpOk (Nat.le_refl _) (I1.hok.fresh (Nat.le_refl _))
end
end L2
namespace L2
open PySem PySem.Spec PyProof.Rows
theorem vC (i:Nat) (σ:St) (H:Hp) (Q:VK):fH i σ H Q=(∃ v,σ[i]? = some (some v)∧Q v H):=rfl
theorem YG (v:V) (x_0:St) (H:Hp) (Q:VK):tC v x_0 H Q=(Q v H):=rfl
theorem NB (ta tb:TE) (σ:St) (H:Hp) (Q:VK):QI ta tb σ H Q=(t2I ta tb (fun i j H2=>Q (.int (i + j)) H2) σ H):=rfl
theorem CD (ta tb:TE) (σ:St) (H:Hp) (Q:VK):DI ta tb σ H Q=(t2I ta tb (fun i j H2=>Q (.int (i - j)) H2) σ H):=rfl
theorem GB (ta tb:TE) (σ:St) (H:Hp) (Q:VK):SI ta tb σ H Q=(t2I ta tb (fun i j H2=>(-(2 ^ 64) < i∧i < 2 ^ 64)∧Q (.int (i * j)) H2) σ H):=rfl
theorem OD (p:Int→Int→Bool) (ta tb:TE) (σ:St) (H:Hp) (Q:VK):JI p ta tb σ H Q=(t2I ta tb (fun i j H2=>Q (.bl (p i j)) H2) σ H):=rfl
theorem DC (ta:TE) (σ:St) (H:Hp) (Q:VK):VI ta σ H Q=(ta σ H fun x H1=>Q (.bl (decide (x=.non))) H1):=rfl
theorem bA (ta:TE) (σ:St) (H:Hp) (Q:VK):UG ta σ H Q=(ta σ H fun x H1=>Q (.bl (!decide (x=.non))) H1):=rfl
theorem JH (t:TE) (σ:St) (H:Hp) (Q:(Bool→Hp→Prop)):tB t σ H Q=(t σ H fun x H1=>∃ c,x=.bl c∧Q c H1):=rfl
theorem XC (t u:TT) (σ:St) (H:Hp) (Q:(Bool→Hp→Prop)):sI t u σ H Q=(t σ H fun c H1=>if c=true then u σ H1 Q else Q false H1):=rfl
theorem ZF (t u:TT) (σ:St) (H:Hp) (Q:(Bool→Hp→Prop)):tOr t u σ H Q=(t σ H fun c H1=>if c=true then Q true H1 else u σ H1 Q):=rfl
theorem ED (t:TT) (σ:St) (H:Hp) (Q:(Bool→Hp→Prop)):aI t σ H Q=(t σ H fun c H1=>Q (!c) H1):=rfl
theorem lA (ta tb:TE) (σ:St) (H:Hp) (Q:VK):cE ta tb σ H Q=(ta σ H fun x H1=>∃ c,x=.bl c∧if c=true then tb σ H1 Q else Q (.bl false) H1):=rfl
theorem fC (ta tb:TE) (σ:St) (H:Hp) (Q:VK):yI ta tb σ H Q=(ta σ H fun x H1=>∃ c,x=.bl c∧if c=true then Q (.bl true) H1 else tb σ H1 Q):=rfl
theorem kz (ta:TE) (σ:St) (H:Hp) (Q:VK):zH ta σ H Q=(ta σ H fun x H1=>∃ c,x=.bl c∧Q (.bl (!c)) H1):=rfl
theorem PF (t:TT) (ta tb:TE) (σ:St) (H:Hp) (Q:VK):tIf t ta tb σ H Q=(t σ H fun c H1=>if c=true then ta σ H1 Q else tb σ H1 Q):=rfl
theorem qd (D:Te) (σ:St) (H:Hp):eE  D σ H=(D.nx σ H):=rfl
theorem Kb (t u:TS) (D:Te) (σ:St) (H:Hp):QH t u D σ H=(t { D with nx:=u D } σ H):=rfl
theorem tw (D:Te) (σ:St) (H:Hp):rG  D σ H=(D.bk σ H):=rfl
theorem gA (D:Te) (σ:St) (H:Hp):aH  D σ H=(D.ct σ H):=rfl
theorem vz (te:TE) (D:Te) (σ:St) (H:Hp):pF te D σ H=(te σ H fun _ H1=>D.nx σ H1):=rfl
theorem wB (te:TE) (D:Te) (σ:St) (H:Hp):pH te D σ H=(te σ H D.rt):=rfl
theorem qz (D:Te) (x_1:St) (H:Hp):DH  D x_1 H=(D.rt .non H):=rfl
theorem Zw (x_0:Te) (x_1:St) (x_2:Hp):EA  x_0 x_1 x_2=(False):=rfl
theorem Rh (i:Nat) (v:V) (σ:St) (H:Hp) (Q:(St→Hp→Prop)):vp i v σ H Q=(Q (σ.set i (some v)) H):=rfl
theorem VC (vs:List V) (σ:St) (H:Hp) (Q:(St→Hp→Prop)):OG  vs σ H Q=(vs=[]∧Q σ H):=rfl
theorem lz (t:TG) (u:TGs) (vs:List V) (σ:St) (H:Hp) (Q:(St→Hp→Prop)):du t u vs σ H Q=(∃ v r,vs=v :: r∧t v σ H fun σ' H'=>u r σ' H' Q):=rfl
theorem NC (K:PySem.W.Frag) (n:Nat) (t:TGs) (v:V) (σ:St) (H:Hp) (Q:(St→Hp→Prop)):IE K n t v σ H Q=(∃ a xs,v=.ref a∧SqT K H a xs∧xs.length=n∧t xs σ H Q):=rfl
theorem wD (to ti:TE) (t:aE) (v:V) (σ:St) (H:Hp) (Q:(St→Hp→Prop)):XH to ti t v σ H Q=(to σ H fun o H1=>ti σ H1 fun i H2=>t o i v H2 fun H3=>Q σ H3):=rfl
theorem sC (te:TE) (g:TG) (D:Te) (σ:St) (H:Hp):LG te g D σ H=(te σ H fun x H1=>g x σ H1 D.nx):=rfl
theorem CB (i j:Nat) (ta:TA) (D:Te) (σ:St) (H:Hp):XI i j ta D σ H=(ta σ H fun vs H1=>∃ v w,vs=[v,w]∧D.nx ((σ.set i (some v)).set j (some w)) H1):=rfl
theorem cD (i:Nat) (te:TE) (ti:TIp) (D:Te) (σ:St) (H:Hp):II i te ti D σ H=(∃ x,σ[i]? = some (some x)∧te σ H fun y H1=>ti x y H1 fun z H2=>D.nx (σ.set i (some z)) H2):=rfl
theorem bz (to ti te:TE) (tget:V→V→Hp→VK→Prop) (tip:TIp) (tset:aE) (D:Te) (σ:St) (H:Hp):AH to ti te tget tip tset D σ H=(to σ H fun o H1=>ti σ H1 fun i H2=>tget o i H2 fun x H3=>te σ H3 fun y H4=>tip x y H4 fun z H5=>tset o i z H5 fun H6=>D.nx σ H6):=rfl
theorem Oz (K:PySem.W.Frag) (tl:TE) (σ:St) (H:Hp) (R:(It→Hp→Prop)):rE K tl σ H R=(tl σ H fun x H1=>∃ a,x=.ref a∧(∃ xs,SqL K H1 a xs)∧R (Itl K a) H1):=rfl
theorem pC (K:PySem.W.Frag) (tl:TE) (σ:St) (H:Hp) (R:(It→Hp→Prop)):vI K tl σ H R=(tl σ H fun x H1=>∃ a,x=.ref a∧(∃ xs,SqT K H1 a xs)∧R (Itt K a) H1):=rfl
theorem IF (r:R2) (ta tb:TE) (σ:St) (H:Hp) (Q:VK):tOp r ta tb σ H Q=(ta σ H fun x H1=>tb σ H1 fun y H2=>r x y H2 Q):=rfl
theorem NE (r:V→Hp→VK→Prop) (ta:TE) (σ:St) (H:Hp) (Q:VK):tUn r ta σ H Q=(ta σ H fun x H1=>r x H1 Q):=rfl
theorem kH (C:Int→Int→Prop) (g:Int→Int→V) (x:V) (y:V) (H:Hp) (Q:VK):rI C g x y H Q=(∃ i j,x=.int i∧y=.int j∧C i j∧Q (g i j) H):=rfl
theorem tE (g:Int→Int→V) (x:V) (y:V) (H:Hp) (Q:VK):rI0 g x y H Q=(∃ i j,x=.int i∧y=.int j∧Q (g i j) H):=rfl
theorem oH (g:Int→V) (x:V) (H:Hp) (Q:VK):rU g x H Q=(∃ i,x=.int i∧Q (g i) H):=rfl
theorem UF (x:V) (y:V) (H:Hp) (Q:VK):rEq  x y H Q=(RE x y=true∧Q (.bl (decide (x=y))) H):=rfl
theorem YE (x:V) (y:V) (H:Hp) (Q:VK):rNe  x y H Q=(RE x y=true∧Q (.bl (!decide (x=y))) H):=rfl
theorem nz (t:TE) (σ:St) (H:Hp) (Q:(Bool→Hp→Prop)):WE t σ H Q=(t σ H fun x H'=>∃ k,x=.bl k∧Q k H'):=rfl
theorem px (r r':R2) (ta tb tc:TE) (σ:St) (H:Hp) (Q:VK):wE r r' ta tb tc σ H Q=(ta σ H fun x H1=>tb σ H1 fun y H2=>r x y H2 fun z H3=>∃ k,z=.bl k ∧
 (if k=true then tc σ H3 fun w' H4=>r' y w' H4 Q else Q (.bl false) H3)):=rfl
theorem KC (K:PySem.W.Frag) (ta:TE) (f:Str) (σ:St) (H:Hp) (Q:VK):AI K ta f σ H Q=(ta σ H fun x H1=>∃ a C dx fs v u,x=.ref a∧H1 a=some (.ins C dx fs)∧Cls K C∧Con K C f v u∧fs.lookup f=none∧Q v H1):=rfl
theorem ID (K:PySem.W.Frag) (ta tv:TE) (f:Str) (D:Te) (σ:St) (H:Hp):TH K ta tv f D σ H=(tv σ H fun y H1=>ta σ H1 fun x H2=>∃ a C dx fs,x=.ref a∧H2 a=some (.ins C dx fs)∧Cls K C∧Fb K C f∧fs.length < 1000 ∧
 D.nx σ (upd H2 a (.ins C dx (eg f y fs)))):=rfl
theorem Kt (K:PySem.W.Frag) (ta tv:TE) (rd:V→V→Hp→VK→Prop) (f:Str) (D:Te) (σ:St) (H:Hp):zv K ta tv rd f D σ H=(ta σ H fun x H1=>∃ a C dx fs v,x=.ref a∧H1 a=some (.ins C dx fs)∧Cls K C∧Fb K C f∧fs.lookup f=some v ∧
 tv σ H1 fun y H2=>rd v y H2 fun z H3=>∃ dx' fs',H3 a=some (.ins C dx' fs')∧fs'.length < 1000∧D.nx σ (upd H3 a (.ins C dx' (eg f z fs')))):=rfl
theorem xD (x:V) (y:V) (H:Hp) (Q:VK):gI  x y H Q=(∃ i j,x=.int i∧y=.int j∧Q (.int (i + j)) H):=rfl
theorem qB (x:V) (y:V) (H:Hp) (Q:VK):NI  x y H Q=(∃ i j,x=.int i∧y=.int j∧Q (.int (i - j)) H):=rfl
theorem JD (x_0:St) (H:Hp) (Q:(List V→Hp→Prop)):FG  x_0 H Q=(Q [] H):=rfl
theorem Ez (ta:TE) (tr:TA) (σ:St) (H:Hp) (Q:(List V→Hp→Prop)):WF ta tr σ H Q=(ta σ H fun x H1=>tr σ H1 fun xs H2=>Q (x :: xs) H2):=rfl
theorem FD (t:TA) (σ:St) (H:Hp) (Q:VK):WH t σ H Q=(t σ H fun xs H1=>xs.length ≤ sizeLine∧∀ p,H1 p=none→Q (.ref p) (upd H1 p (.tup xs))):=rfl
theorem zB (t:TA) (σ:St) (H:Hp) (Q:VK):lI t σ H Q=(t σ H fun xs H1=>xs.length ≤ sizeLine∧∀ p,H1 p=none→Q (.ref p) (upd H1 p (.lst xs))):=rfl
theorem Fz (sp:Sp) (dvs:List V) (E:XK) (t:TA) (σ:St) (H:Hp) (Q:VK):iD sp dvs E t σ H Q=(t σ H fun vs H1=>sp (vs ++ dvs) H1 Q E):=rfl
theorem ny (C:Addr) (m:Str) (sp:Sp) (dvs:List V) (E:XK) (ta:TE) (t:TA) (σ:St) (H:Hp) (Q:VK):YB C m sp dvs E ta t σ H Q=(ta σ H fun x H1=>∃ a dx fs,x=.ref a∧H1 a=some (.ins C dx fs)∧fs.lookup m=none ∧
 t σ H1 fun vs H2=>sp (x :: (vs ++ dvs)) H2 Q E):=rfl
theorem fz (C:Addr) (sp:Sp) (dvs:List V) (E:XK) (t:TA) (σ:St) (H:Hp) (Q:VK):bF C sp dvs E t σ H Q=(t σ H fun vs H1=>∀ x dx,H1 x=none→H1 dx=none→dx ≠ x →
 sp (.ref x :: (vs ++ dvs)) (upd (upd H1 dx (.own x)) x (.ins C dx [])) (fun v H2=>v=.non∧Q (.ref x) H2) E):=rfl
theorem Ev (sp:Sp) (gV:List V→List V→List V) (E:XK) (t tk:TA) (σ:St) (H:Hp) (Q:VK):dG sp gV E t tk σ H Q=(t σ H fun vs H1=>tk σ H1 fun zs H2=>sp (gV vs zs) H2 Q E):=rfl
theorem BE (r:List V→Hp→VK→Prop) (t:TA) (σ:St) (H:Hp) (Q:VK):tCB r t σ H Q=(t σ H fun vs H1=>r vs H1 Q):=rfl
theorem ou (x_0:St) (H:Hp) (Q:(Option Int→Hp→Prop)):Tu  x_0 H Q=(Q none H):=rfl
theorem cA (t:TE) (σ:St) (H:Hp) (Q:(Option Int→Hp→Prop)):wG t σ H Q=(t σ H fun x H1=>∃ i,x=.int i∧Q (some i) H1):=rfl
theorem RF (r:V→Option Int→Option Int→Hp→VK→Prop) (te:TE) (tl th:TO) (σ:St) (H:Hp) (Q:VK):tSl r te tl th σ H Q=(te σ H fun x H1=>tl σ H1 fun l H2=>th σ H2 fun u H3=>r x l u H3 Q):=rfl
theorem zD (K:PySem.W.Frag) (x:V) (lo:Option Int) (hi:Option Int) (H:Hp) (Q:VK):YH K x lo hi H Q=(∃ a xs,x=.ref a∧SqT K H a xs ∧
 ¬ (HT.sIx xs.length 0 lo=0∧HT.sIx xs.length xs.length hi=xs.length)∧∀ p,H p=none→Q (.ref p) (upd H p (.tup (Pq xs lo hi)))):=rfl
theorem LB (K:PySem.W.Frag) (x:V) (y:V) (H:Hp) (Q:VK):CI K x y H Q=(∃ a b ns ms,x=.ref a∧y=.ref b∧SqT K H a (ns.map V.int)∧SqT K H b (ms.map V.int)∧Q (.bl (HT.lexLt ns ms)) H):=rfl
theorem Mz (K:PySem.W.Frag) (x:V) (y:V) (H:Hp) (Q:VK):VG K x y H Q=(∃ a b xs ys,x=.ref a∧y=.ref b∧SqT K H a xs∧SqT K H b ys∧xs ≠ []∧xs.length + ys.length ≤ sizeLine ∧
 (ys=[]→Q (.ref a) H)∧(ys ≠ []→∀ p,H p=none→Q (.ref p) (upd H p (.tup (xs ++ ys))))):=rfl
theorem IC (K:PySem.W.Frag) (x:V) (y:V) (H:Hp) (Q:VK):JG K x y H Q=(∃ p xs i v,x=.ref p∧y=.int i∧SqL K H p xs∧atI xs i=some v∧Q v H):=rfl
theorem eD (K:PySem.W.Frag) (x:V) (y:V) (H:Hp) (Q:VK):IG K x y H Q=(∃ p xs i v,x=.ref p∧y=.int i∧SqT K H p xs∧atI xs i=some v∧Q v H):=rfl
theorem bD (x:V) (y:V) (H:Hp) (Q:VK):KG  x y H Q=(∃ z i c,x=.str z∧y=.int i∧z.length ≤ sizeLine∧atI z.cps.toList i=some c∧Q (.str ⟨#[c]⟩) H):=rfl
theorem pG (K:PySem.W.Frag) (x:V) (y:V) (H:Hp) (Q:VK):rIx K x y H Q=(JG K x y H Q∨IG K x y H Q∨KG x y H Q):=rfl
theorem Ny (o:V) (i:V) (v:V) (H:Hp) (Q:(Hp→Prop)):sG  o i v H Q=(∃ p xs k j,o=.ref p∧i=.int k∧H p=some (.lst xs)∧ixN xs.length k=some j∧Q (upd H p (.lst (xs.set j v)))):=rfl
theorem wC (K:PySem.W.Frag) (x:V) (lo:Option Int) (hi:Option Int) (H:Hp) (Q:VK):nI K x lo hi H Q=(∃ a xs,x=.ref a∧SqL K H a xs∧∀ p,H p=none→Q (.ref p) (upd H p (.lst (Pq xs lo hi)))):=rfl
theorem bE (K:PySem.W.Frag) (neg:Bool) (x:V) (y:V) (H:Hp) (Q:VK):rIn K neg x y H Q=(∃ p xs,y=.ref p∧(SqL K H p xs∨SqT K H p xs)∧Yg x=true∧xs.all Yg=true∧Q (.bl (if neg then !inV x xs else inV x xs)) H):=rfl
theorem PD (K:PySem.W.Frag) (T:String) (r:V→List V→Hp→VK→Prop) (to:TE) (σ:St) (H:Hp) (Q:VK):ZH K T r to σ H Q=(to σ H fun x H1=>tyV K T x H1∧r x [] H1 Q):=rfl
theorem bG (K:PySem.W.Frag) (T:String) (r:V→List V→Hp→VK→Prop) (to:TE) (t:TA) (σ:St) (H:Hp) (Q:VK):tBM K T r to t σ H Q=(to σ H fun x H1=>tyV K T x H1∧t σ H1 fun xs H2=>r x xs H2 Q):=rfl
theorem au (x:V) (vs:List V) (H:Hp) (Q:VK):Jx  x vs H Q=(∃ l xs y,x=.ref l∧vs=[y]∧H l=some (.lst xs)∧xs.length < sizeLine∧Q .non (upd H l (.lst (xs ++ [y])))):=rfl
theorem gu (x:V) (vs:List V) (H:Hp) (Q:VK):ZB  x vs H Q=(∃ l b xs zs,x=.ref l∧vs=[.ref b]∧H l=some (.lst xs)∧H b=some (.lst zs)∧xs.length + zs.length ≤ sizeLine∧Q .non (upd H l (.lst (xs ++ zs)))):=rfl
theorem UC (x:V) (vs:List V) (H:Hp) (Q:VK):MI  x vs H Q=(∃ l xs y,x=.ref l∧vs=[]∧H l=some (.lst xs)∧xs[xs.length - 1]? = some y∧Q y (upd H l (.lst xs.dropLast))):=rfl
theorem Su (x:V) (vs:List V) (H:Hp) (Q:VK):zF  x vs H Q=(∃ l xs i k y,x=.ref l∧vs=[.int i]∧H l=some (.lst xs)∧-(2 ^ 63) ≤ i∧i < 2 ^ 63∧seqIndex? i xs.length=some k∧xs[k]? = some y∧Q y (upd H l (.lst (xs.eraseIdx k)))):=rfl
theorem Hr (x:V) (vs:List V) (H:Hp) (Q:VK):Vs  x vs H Q=(∃ l xs,x=.ref l∧vs=[]∧H l=some (.lst xs)∧Q .non (upd H l (.lst xs.reverse))):=rfl
theorem iw (x:V) (vs:List V) (H:Hp) (Q:VK):GF  x vs H Q=(∃ l xs,x=.ref l∧vs=[]∧H l=some (.lst xs)∧Q .non (upd H l (.lst []))):=rfl
theorem LD (x:V) (y:V) (H:Hp) (Q:VK):oI  x y H Q=(∃ l b xs zs,x=.ref l∧y=.ref b∧H l=some (.lst xs)∧H b=some (.lst zs)∧xs.length + zs.length ≤ sizeLine∧∀ p,H p=none→Q (.ref p) (upd H p (.lst (xs ++ zs)))):=rfl
theorem TC (x:V) (y:V) (H:Hp) (Q:VK):OI  x y H Q=(∃ l k xs,x=.ref l∧y=.int k∧H l=some (.lst xs)∧-(2 ^ 63) ≤ k∧k < 2 ^ 63∧xs.length * k.toNat ≤ sizeLine ∧
 ∀ p,H p=none→Q (.ref p) (upd H p (.lst (List.replicate k.toNat xs).flatten))):=rfl
theorem pz (td ty:TE) (σ:St) (H:Hp) (Q:VK):LE td ty σ H Q=(td σ H fun x H1=>ty σ H1 fun y H2=>∃ a v,x=.ref a∧Xm H2 a y (some v)∧Q v H2):=rfl
theorem gC (ty td:TE) (σ:St) (H:Hp) (Q:VK):UI ty td σ H Q=(ty σ H fun y H1=>td σ H1 fun x H2=>∃ a o,x=.ref a∧Xm H2 a y o∧Q (.bl o.isSome) H2):=rfl
theorem bu (ty td:TE) (σ:St) (H:Hp) (Q:VK):Kv ty td σ H Q=(ty σ H fun y H1=>td σ H1 fun x H2=>∃ a o,x=.ref a∧Xm H2 a y o∧Q (.bl (!o.isSome)) H2):=rfl
theorem Hz (td ty tv:TE) (D:Te) (σ:St) (H:Hp):xE td ty tv D σ H=(tv σ H fun v H1=>td σ H1 fun x H2=>ty σ H2 fun y H3=>∃ a H4,x=.ref a∧vx H3 a y v H4∧D.nx σ H4):=rfl
theorem Nz (td ty tv:TE) (rd:V→V→Hp→VK→Prop) (D:Te) (σ:St) (H:Hp):mH td ty tv rd D σ H=(td σ H fun x H1=>ty σ H1 fun y H2=>∃ a v,x=.ref a∧Xm H2 a y (some v) ∧
 tv σ H2 fun y2 H3=>rd v y2 H3 fun z H4=>∃ H5,vx H4 a y z H5∧D.nx σ H5):=rfl
theorem Dz (td ty:TE) (D:Te) (σ:St) (H:Hp):tH td ty D σ H=(td σ H fun x H1=>ty σ H1 fun y H2=>∃ a kvs k,x=.ref a∧H2 a=some (.dK kvs)∧y=kV k∧(Zh kvs k).isSome=true∧D.nx σ (upd H2 a (.dK (Mp kvs k)))):=rfl
theorem mw (x_0:St) (H:Hp) (Q:VK):CA  x_0 H Q=(∀ p,H p=none→Q (.ref p) (upd H p (.dK []))):=rfl
theorem Qx (x_0:St) (H:Hp) (Q:VK):RA  x_0 H Q=(∀ p,H p=none→Q (.ref p) (upd H p (.dT []))):=rfl
theorem pA (trs:List (TE × TE)) (σ:St) (H:Hp) (Q:VK):cH trs σ H Q=(∀ p,H p=none→fv trs σ (upd H p (.dK [])) fun ps H2=>H2 p=some (.dK [])∧∃ kvs:List (Key × V),ps=kvs.map (fun kv=>(kV kv.1,kv.2))∧kvs.length ≤ 15∧Q (.ref p) (upd H2 p (.dK (lB [] kvs)))):=rfl
theorem Tx (td ty:TE) (σ:St) (H:Hp) (Q:VK):QE td ty σ H Q=(td σ H fun x H1=>∃ a,x=.ref a∧IsD H1 a∧ty σ H1 fun y H2=>∃ o,Xm H2 a y o∧Q (o.getD .non) H2):=rfl
theorem Aw (td ty tx:TE) (σ:St) (H:Hp) (Q:VK):VE td ty tx σ H Q=(td σ H fun x H1=>∃ a,x=.ref a∧IsD H1 a∧ty σ H1 fun y H2=>tx σ H2 fun z H3=>∃ o,Xm H3 a y o∧Q (o.getD z) H3):=rfl
theorem Kx (td ty:TE) (σ:St) (H:Hp) (Q:VK):iG td ty σ H Q=(td σ H fun x H1=>∃ a,x=.ref a∧IsD H1 a∧ty σ H1 fun y H2=>∃ kvs k v,H2 a=some (.dK kvs)∧y=kV k∧Zh kvs k=some v∧Q v (upd H2 a (.dK (Mp kvs k)))):=rfl
theorem dv (td ty tx:TE) (σ:St) (H:Hp) (Q:VK):hG td ty tx σ H Q=(td σ H fun x H1=>∃ a,x=.ref a∧IsD H1 a∧ty σ H1 fun y H2=>tx σ H2 fun z H3=>∃ kvs k,H3 a=some (.dK kvs)∧y=kV k ∧
 (∀ v,Zh kvs k=some v→Q v (upd H3 a (.dK (Mp kvs k))))∧(Zh kvs k=none→Q z H3)):=rfl
theorem Ly (x_0:St) (H:Hp) (Q:(Bool→Hp→Prop)):mr  x_0 H Q=(Q true H):=rfl
theorem CC (tl:TE) (σ:St) (H:Hp) (R:(It→Hp→Prop)):pI tl σ H R=(tl σ H fun x H1=>∃ z,x=.str z∧R (Its (Vg z)) H1):=rfl
theorem tD (x:V) (lo:Option Int) (hi:Option Int) (H:Hp) (Q:VK):wI  x lo hi H Q=(∃ z,x=.str z∧z.length ≤ sizeLine∧Q (.str (Txt.slice z lo hi)) H):=rfl
theorem Jz (K:PySem.W.Frag) (x:V) (vs:List V) (H:Hp) (Q:VK):GE K x vs H Q=(∃ sep p ys,x=.str sep∧vs=[.ref p]∧SqL K H p (nc ys)∧(ys.map (·.length)).sum + ys.length * sep.length ≤ 16777216∧Q (.str (Txt.join sep ys)) H):=rfl
theorem lv (x:V) (vs:List V) (H:Hp) (Q:VK):BA  x vs H Q=(∃ z y,x=.str z∧vs=[.str y]∧y.length ≠ 0∧z.length + 2 ≤ sizeLine∧(Txt.split z y).length ≤ sizeLine∧∀ p,H p=none→Q (.ref p) (upd H p (.lst (nc (Txt.split z y))))):=rfl
theorem Dt (x:V) (vs:List V) (H:Hp) (Q:VK):xC  x vs H Q=(∃ z y i Oq,x=.str z∧vs=[.str y]∧Builtin.Str.occurrences z y 0 z.length 1=i :: Oq∧Q (.int (i:Nat)) H):=rfl
theorem Xu (OK:Addr→Prop) (m:Str) (SPV:Addr→Sp) (E:XK) (ta:TE) (t:TA) (σ:St) (H:Hp) (Q:VK):AA OK m SPV E ta t σ H Q=(ta σ H fun x H1=>∃ a C dx fs,x=.ref a∧H1 a=some (.ins C dx fs)∧OK C∧fs.lookup m=none ∧
 t σ H1 fun vs H2=>SPV C (x :: vs) H2 Q E):=rfl
theorem jv (kvs:SVs) (ty:TE) (σ:St) (H:Hp) (Q:VK):FF kvs ty σ H Q=(ty σ H fun y H1=>∃ x v,y=.str x∧kvs.lookup x=some v∧Q v H1):=rfl
theorem fA (K:PySem.W.Frag) (ta:TA) (σ:St) (H:Hp) (R:(It→Hp→Prop)):gG K ta σ H R=(ta σ H fun vs H1=>∃ a,vs=[.ref a]∧(∃ xs,SqL K H1 a xs)∧R (Ite K a) H1):=rfl
theorem bC (K:PySem.W.Frag) (ta:TA) (σ:St) (H:Hp) (R:(It→Hp→Prop)):VH K ta σ H R=(ta σ H fun vs H1=>∃ a b,vs=[.ref a,.ref b]∧(∃ xs,SqL K H1 a xs)∧(∃ ys,SqL K H1 b ys)∧R (Itz K a b) H1):=rfl
theorem lC (K:PySem.W.Frag) (ta:TA) (σ:St) (H:Hp) (R:(It→Hp→Prop)):FI K ta σ H R=(ta σ H fun vs H1=>∃ a xs,vs=[.ref a]∧SqL K H1 a xs∧R (Itv K a xs.length) H1):=rfl
theorem Ku (x:V) (vs:List V) (H:Hp) (Q:VK):BC  x vs H Q=(∃ l xs i y,x=.ref l∧vs=[.int i,y]∧H l=some (.lst xs)∧0 ≤ i∧i < 2 ^ 62∧i ≤ (xs.length:Int)∧xs.length < sizeLine∧Q .non (upd H l (.lst (xs.take i.toNat ++ y :: xs.drop i.toNat)))):=rfl
theorem yB (K:PySem.W.Frag) (x:V) (y:V) (H:Hp) (Q:VK):mI K x y H Q=(∃ p q b,x=.ref p∧y=.ref q∧EqH K H 8 (.ref p) (.ref q) b∧Q (.bl (!b)) H):=rfl
theorem OB (K:PySem.W.Frag) (x:V) (y:V) (H:Hp) (Q:VK):GI K x y H Q=(∃ p q b,x=.ref p∧y=.ref q∧EqH K H 8 (.ref p) (.ref q) b∧Q (.bl b) H):=rfl
theorem rF (x_0:St) (H:Hp) (Q:(Hp→Prop)):tJ0  x_0 H Q=(Q H):=rfl
theorem QF (te:TE) (t:TJ) (σ:St) (H:Hp) (Q:(Hp→Prop)):tJI te t σ H Q=(te σ H fun v H1=>∃ i,v=.int i∧i.natAbs.log2 < 1920∧t σ H1 Q):=rfl
theorem oE (te:TE) (t:TJ) (σ:St) (H:Hp) (Q:(Hp→Prop)):tJS te t σ H Q=(te σ H fun v H1=>∃ x,v=.str x∧x.length ≤ 1000∧t σ H1 Q):=rfl
theorem EE (te:TE) (t:TJ) (σ:St) (H:Hp) (Q:(Hp→Prop)):tJR te t σ H Q=(te σ H fun v H1=>∃ x,v=.str x∧x.length ≤ 1000∧(∀ c ∈ x.cps.toList,c < 16 ^ 8)∧t σ H1 Q):=rfl
theorem xu (t:TJ) (σ:St) (H:Hp) (Q:VK):mB t σ H Q=(t σ H fun H1=>∀ y:Str,Q (.str y) H1):=rfl
theorem mv (K:PySem.W.Frag) (t:TA) (σ:St) (H:Hp) (Q:VK):vE K t σ H Q=(t σ H fun vs H1=>∃ x C od v,vs=[.ref x,v]∧H1 x=some (.ext (XF x C od))∧Xw K C∧Q .non H1):=rfl
theorem Nx (C:Addr) (sp:Sp) (t:TA) (σ:St) (H:Hp) (Q:VK):LF C sp t σ H Q=(t σ H fun vs H1=>vs.length ≤ sizeLine∧∀ x,H1 x=none→sp (.ref x :: vs) (upd H1 x (.ext (XF x C none))) (fun v H2=>v=.non∧Q (.ref x) H2) (fun _ _ _=>False)):=rfl
theorem Ow (K:PySem.W.Frag) (ta tv:TE) (f:Str) (D:Te) (σ:St) (H:Hp):lE K ta tv f D σ H=(tv σ H fun y H1=>ta σ H1 fun x H2=>∃ a C,x=.ref a∧H2 a=some (.ext (XF a C none))∧Xw K C∧Fb K C f ∧
 ∀ dx,H2 dx=none→dx ≠ a→D.nx σ (upd (upd H2 a (.ext (XF a C (some dx)))) dx (.ext (XD dx [(f,y)])))):=rfl
theorem Hw (K:PySem.W.Frag) (ta tv:TE) (f:Str) (D:Te) (σ:St) (H:Hp):OF K ta tv f D σ H=(tv σ H fun y H1=>ta σ H1 fun x H2=>∃ a C dx fs,x=.ref a∧H2 a=some (.ext (XF a C (some dx)))∧H2 dx=some (.ext (XD dx fs))∧Xw K C∧Fb K C f∧fs.length < 1000 ∧
 D.nx σ (upd H2 dx (.ext (XD dx (eg f y fs))))):=rfl
theorem dz (K:PySem.W.Frag) (ta:TE) (f:Str) (σ:St) (H:Hp) (Q:VK):EH K ta f σ H Q=(ta σ H fun x H1=>∃ a C dx fs v,x=.ref a∧H1 a=some (.ext (XA a C (some dx)))∧H1 dx=some (.ext (XD dx fs))∧Xw K C∧Fb K C f∧fs.lookup f=some v∧Q v H1):=rfl
theorem aw (sp:Sp) (dvs:List V) (E:St→XK) (t:TA) (σ:St) (H:Hp) (Q:VK):cG sp dvs E t σ H Q=(t σ H fun vs H1=>sp (vs ++ dvs) H1 Q (E σ)):=rfl
theorem Nv (C:Addr) (m:Str) (sp:Sp) (dvs:List V) (E:St→XK) (ta:TE) (t:TA) (σ:St) (H:Hp) (Q:VK):eF C m sp dvs E ta t σ H Q=(ta σ H fun x H1=>∃ a dx fs,x=.ref a∧H1 a=some (.ins C dx fs)∧fs.lookup m=none ∧
 t σ H1 fun vs H2=>sp (x :: (vs ++ dvs)) H2 Q (E σ)):=rfl
theorem Uu (K:PySem.W.Frag) (E:St→XK) (te:TE) (D:Te) (σ:St) (H:Hp):ME K E te D σ H=(te σ H fun v H1=>∃ x C od,v=.ref x∧H1 x=some (.ext (XF x C od))∧Xw K C∧E σ (.ref C) od (upd H1 x (.ext (XA x C od)))):=rfl
theorem Bz (ta:TA) (σ:St) (H:Hp) (R:(It→Hp→Prop)):iH ta σ H R=(ta σ H fun vs H1=>∃ i j:Int,vs=[.int i,.int j,.int (-1)]∧(-1073741824 ≤ i∧i < 1073741824∧-1073741824 ≤ j∧j < 1073741824)∧R (Itd i (i - j).toNat) H1):=rfl
theorem Qr (K:PySem.W.Frag) (ta:TA) (σ:St) (H:Hp) (Q:VK):vA K ta σ H Q=(ta σ H fun vs H1=>∃ a xs,vs=[.ref a]∧SqL K H1 a xs∧∀ l,H1 l=none→Q (.ref l) (upd H1 l (.lst xs.reverse))):=rfl
theorem Gy (K:PySem.W.Frag) (ta:TA) (td:TE) (σ:St) (H:Hp) (Q:VK):KH K ta td σ H Q=(ta σ H fun vs H1=>td σ H1 fun y H2=>∃ l ks,vs=[.ref l]∧SqL K H2 l (List.map V.int ks)∧Q (match ks.min? with | some m=>.int m | none=>y) H2):=rfl
theorem sD (K:PySem.W.Frag) (neg:Bool) (x:V) (y:V) (H:Hp) (Q:VK):LI K neg x y H Q=(∃ p qs f,y=.ref p∧SqL K H p (List.map V.ref qs)∧(∀ q ∈ qs,EqH K H 8 (.ref q) x (f q))∧Q (.bl (if neg then !(qs.any f) else qs.any f)) H):=rfl
theorem Eu (K:PySem.W.Frag) (x:V) (vs:List V) (H:Hp) (Q:VK):nB K x vs H Q=(∃ l ks k,x=.ref l∧vs=[.int k]∧SqL K H l (List.map V.int ks)∧k ∈ ks∧ks.length ≤ 1000∧Q (.int (ks.idxOf k:Nat)) H):=rfl
theorem dA (x:V) (vs:List V) (H:Hp) (Q:VK):Dp  x vs H Q=(∃ d kvs,x=.ref d∧vs=[]∧H d=some (.dK kvs)∧∀ p,H p=none→Q (.ref p) (upd H p (.ext (gF p d)))):=rfl
theorem xy (x:V) (vs:List V) (H:Hp) (Q:VK):ZG  x vs H Q=(∃ d kvs,x=.ref d∧vs=[]∧H d=some (.dK kvs)∧∀ p,H p=none→Q (.ref p) (upd H p (.ext (uE p d)))):=rfl
theorem Xt (K:PySem.W.Frag) (x:V) (vs:List V) (H:Hp) (Q:VK):KD K x vs H Q=(∃ l ys k j,x=.ref l∧vs=[.str k]∧SqL K H l (nc ys)∧ys[j]? = some k∧(∀ m,m < j→ys[m]? ≠ some k)∧ys.length ≤ 1000∧Q (.int (j:Nat)) H):=rfl
theorem AF (x_0:St) (H:Hp) (acc:Str) (Q:(Str→Hp→Prop)):tF0  x_0 H acc Q=(acc.length ≤ sizeLine∧Q acc H):=rfl
theorem NF (c:Str) (t:TF) (σ:St) (H:Hp) (acc:Str) (Q:(Str→Hp→Prop)):tFC c t σ H acc Q=(acc.length + c.length ≤ sizeLine∧t σ H (acc ++ c) Q):=rfl
theorem BG (te:TE) (t:TF) (σ:St) (H:Hp) (acc:Str) (Q:(Str→Hp→Prop)):tFI te t σ H acc Q=(te σ H fun v H1=>∃ i,v=.int i∧i.natAbs.log2 < 1920∧acc.length + (Str.ofString (toString i)).length ≤ sizeLine∧t σ H1 (acc ++ Str.ofString (toString i)) Q):=rfl
theorem aG (te:TE) (t:TF) (σ:St) (H:Hp) (acc:Str) (Q:(Str→Hp→Prop)):tFS te t σ H acc Q=(te σ H fun v H1=>∃ x,v=.str x∧x.length ≤ 1000∧acc.length + x.length ≤ sizeLine∧t σ H1 (acc ++ x) Q):=rfl
theorem uv (t:TF) (σ:St) (H:Hp) (Q:VK):BF t σ H Q=(t σ H Str.empty fun y H1=>Q (.str y) H1):=rfl
theorem Ew (q:Str) (params:Arguments) (body:Expr) (scope:Scope) (y:Str) (t:TE) (tf:TE) (ta:TA) (σ:St) (H:Hp) (Q:VK):zE q params body scope y t tf ta σ H Q=(tf σ H fun x H1=>∃ f,x=.ref f∧(∃ cl c',H1 f=some (.ext (NG f q params body scope [(y,cl)] c')))∧ta σ H1 fun vs H2=>∃ a cl c' v,vs=[a] ∧
 H2 f=some (.ext (NG f q params body scope [(y,cl)] c'))∧H2 c'=some (.ext (gH c' q))∧H2 cl=some (.ext (MG cl v))∧t [some a,some v] (qI H2 cl) fun x H'=>Q x (upd H' cl (.ext (MG cl v)))):=rfl
theorem Py (P:Program) (w:World) (td ty:TE) (σ:St) (H:Hp) (Q:VK):iE P w td ty σ H Q=(td σ H fun x H1=>ty σ H1 fun y H2=>∃ a b kvs k v,x=.ref a∧y=.ref b∧Ri P w H2 a kvs∧H2 b=some (.tup (k.map kV))∧Zh kvs k=some v∧Q v H2):=rfl
theorem JB (P:Program) (w:World) (ty td:TE) (σ:St) (H:Hp) (Q:VK):zI P w ty td σ H Q=(ty σ H fun y H1=>td σ H1 fun x H2=>∃ a b kvs k,x=.ref a∧y=.ref b∧Ri P w H2 a kvs∧H2 b=some (.tup (k.map kV))∧Q (.bl (Zh kvs k).isSome) H2):=rfl
theorem Et (P:Program) (w:World) (ty td:TE) (σ:St) (H:Hp) (Q:VK):fD P w ty td σ H Q=(ty σ H fun y H1=>td σ H1 fun x H2=>∃ a b kvs k,x=.ref a∧y=.ref b∧Ri P w H2 a kvs∧H2 b=some (.tup (k.map kV))∧Q (.bl (!(Zh kvs k).isSome)) H2):=rfl
theorem wy (P:Program) (w:World) (td ty tv:TE) (D:Te) (σ:St) (H:Hp):CG P w td ty tv D σ H=(tv σ H fun v H1=>td σ H1 fun x H2=>ty σ H2 fun y H3=>∃ a b kvs k,x=.ref a∧y=.ref b∧Ri P w H3 a kvs∧H3 b=some (.tup (k.map kV))∧kvs.length < sizeLine∧∀ o,Ri P w (upd H3 a (.ext (AtO a o))) a (Jm kvs k v)→D.nx σ (upd H3 a (.ext (AtO a o)))):=rfl
theorem Uz (P:Program) (w:World) (x_0:St) (H:Hp) (Q:VK):yF P w x_0 H Q=(∀ p o,H p=none→Ri P w (upd H p (.ext (AtO p o))) p []→Q (.ref p) (upd H p (.ext (AtO p o)))):=rfl
theorem SB (P:Program) (w:World) (tl:TE) (σ:St) (H:Hp) (R:(It→Hp→Prop)):OH P w tl σ H R=(tl σ H fun x H1=>∃ d kvs,x=.ref d∧Ri P w H1 d kvs∧∀ o es ep xs,EG P w H1 d kvs o es ep xs→R (Itk d o kvs xs) H1):=rfl
noncomputable def Ni (J:It) (g:TG) (tb:TS) (D:Te) (σ:St) (H:Hp):Prop:=∃ W:Nat→Nat→St→Hp→Prop,(∃ m,W 0 m σ H)∧∀ i m σ H,W i m σ H →
 (J.stop i H∧D.nx σ H)∨(J.go i H∧∃ N:St→Hp→Prop,(∀ σ' H',N σ' H'→∃ m',m' < m∧W (i + 1) m' σ' H')∧∀ x H',J.yld i H x H'→g x σ H' fun σ2 H2=>tb { D with nx:=N,ct:=N,bk:=D.nx } σ2 H2)
theorem MD (wi:TI) (g:TG) (tb:TS) (D:Te) (σ:St) (H:Hp):jI wi g tb D σ H=wi σ H fun J H1=>Ni J g tb D σ H1:=rfl
noncomputable def Wc (J:It) (g:TG) (tc:TT) (te:TE) (σb:St) (Q:VK) (H:Hp):Prop:=∃ W:Nat→Nat→List V→Hp→Prop,(∃ m,W 0 m [] H)∧Qp J g tc te σb Q W
theorem AD (K:PySem.W.Frag) (ta:TE) (f:Str) (σ:St) (H:Hp) (Q:VK):wH K ta f σ H Q=(ta σ H fun x H1=>∃ a v,x=.ref a∧Ci K H1 a f v∧Q v H1):=by
 unfold wH Ci
 congr 1
 funext x H1
 apply propext
 constructor
 ·rintro ⟨a,C,dx,fs,v,h1,h2,h3,h4,h5,h6⟩;exact ⟨a,v,h1,⟨C,dx,fs,h2,h3,h4,h5⟩,h6⟩
 ·rintro ⟨a,v,h1,⟨C,dx,fs,h2,h3,h4,h5⟩,h6⟩;exact ⟨a,C,dx,fs,v,h1,h2,h3,h4,h5,h6⟩
theorem Ov (wi:TI) (g:TG) (tc:TT) (te:XK→TE) (sel:List (Option Nat)) (E:St→XK) (σ:St) (H:Hp) (Q:VK):UE wi g tc te sel E σ H Q=wi σ H fun J H1=>Wc J g tc (te (E σ)) (blk sel σ) Q H1:=rfl
theorem ky (wi:TI) (g:TG) (tc:TT) (te:TE) (sel:List (Option Nat)) (σ:St) (H:Hp) (Q:VK):rD wi g tc te sel σ H Q=wi σ H fun J H1=>Wc J g tc te (blk sel σ) Q H1:=rfl
theorem Wz (ta:TA) (σ:St) (H:Hp) (R:It→Hp→Prop):kF ta σ H R=(ta σ H fun vs H1=>∃ j:Int,vs=[.int j]∧-4611686018427387904 ≤ j∧j < 4611686018427387904∧R (Itr 0 j.toNat) H1):=rfl
theorem Ay (ta:TA) (σ:St) (H:Hp) (R:It→Hp→Prop):fF ta σ H R=(ta σ H fun vs H1=>∃ i j:Int,vs=[.int i,.int j]∧(-4611686018427387904 ≤ i∧i < 4611686018427387904∧-4611686018427387904 ≤ j∧j < 4611686018427387904)∧R (Itr i (j - i).toNat) H1):=rfl
theorem DD (sel:List (Option Nat)) (σ:St):blk sel σ=sel.map fun o=>o.bind fun j=>(σ[j]?).join:=rfl
theorem Mb {c:TT} {t u:TS} {D:Te} {σ:St} {H:Hp} (b:Bool) (hc:∀ Q:Bool→Hp→Prop,Q b H→c σ H Q) (h1:b=true→t D σ H) (h2:b=false→u D σ H):qH c t u D σ H:=by
 refine hc _ ?_
 cases b with
 | true=>exact h1 rfl
 | false=>exact h2 rfl
theorem lj {c:TT} {t u:TS} {D:Te} {σ:St} {H:Hp} (R:Bool→Hp→Prop) (hc:∀ Q:Bool→Hp→Prop,(∀ b H',R b H'→Q b H')→c σ H Q) (h1:∀ H',R true H'→t D σ H') (h2:∀ H',R false H'→u D σ H'):qH c t u D σ H:=by
 refine hc _ fun b H' r=>?_
 cases b with
 | true=>exact h1 H' r
 | false=>exact h2 H' r
theorem dc {t:TS} {D:Te} {σ:St} {H:Hp} (R:St→Hp→Prop) (h:∀ D':Te,(∀ σ H,R σ H→D'.nx σ H)→D'.rt=D.rt→D'.bk=D.bk→D'.ct=D.ct→t D' σ H) (hR:∀ σ H,R σ H→D.nx σ H):t D σ H:=h D hR rfl rfl rfl
theorem QD {te:TE} {D:Te} {σ:St} {H:Hp} (v:V) (hc:∀ Q:VK,Q v H→te σ H Q) (h:D.rt v H):pH te D σ H:=hc _ h
theorem kr (x y:Str):(x ++ y).length=x.length + y.length:=by
 show (x.cps ++ y.cps).size=_
 rw [Array.size_append];rfl
theorem Ni.range {lo:Int} {n:Nat} {g:TG} {tb:TS} {D:Te} {σ:St} {H:Hp} (Pv:Nat→St→Hp→Prop) (h0:Pv 0 σ H)
  (hs:∀ i σ H,i < n→Pv i σ H→g (.int (lo + i)) σ H fun σ2 H2=>tb { D with nx:=Pv (i + 1),ct:=Pv (i + 1),bk:=D.nx } σ2 H2) (hd:∀ σ H,Pv n σ H→D.nx σ H):Ni (Itr lo n) g tb D σ H:=Iw Pv h0 hs hd
theorem Ni.list {K:PySem.W.Frag} {a:Addr} {xs:List V} {g:TG} {tb:TS} {D:Te} {σ:St} {H:Hp} (Pv:Nat→St→Hp→Prop) (h0:Pv 0 σ H) (hl:∀ i σ H,i ≤ xs.length→Pv i σ H→SqL K H a xs)
  (hs:∀ i x σ H,xs[i]? = some x→Pv i σ H→g x σ H fun σ2 H2=>tb { D with nx:=Pv (i + 1),ct:=Pv (i + 1),bk:=D.nx } σ2 H2) (hd:∀ σ H,Pv xs.length σ H→D.nx σ H):Ni (Itl K a) g tb D σ H:=Ry Pv h0 hl hs hd
theorem Ni.its {xs:List V} {g:TG} {tb:TS} {D:Te} {σ:St} {H:Hp} (Pv:Nat→St→Hp→Prop) (h0:Pv 0 σ H)
  (hs:∀ i x σ H,xs[i]? = some x→Pv i σ H→g x σ H fun σ2 H2=>tb { D with nx:=Pv (i + 1),ct:=Pv (i + 1),bk:=D.nx } σ2 H2) (hd:∀ σ H,Pv xs.length σ H→D.nx σ H):Ni (Its xs) g tb D σ H:=WC Pv h0 hs hd
theorem Wc.list {K:PySem.W.Frag} {a:Addr} {xs:List V} {g:TG} {tc:TT} {te:TE} {σb:St} {Q:VK} {H:Hp} (Pv:Nat→List V→Hp→Prop) (hz:xs.length ≤ sizeLine) (h0:Pv 0 [] H) (hl:∀ i ys H,i ≤ xs.length→Pv i ys H→SqL K H a xs∧ys.length ≤ i)
  (hs:∀ i x ys H,xs[i]? = some x→Pv i ys H→ke Pv g tc te σb i x ys H) (hd:∀ ys H,Pv xs.length ys H→∀ p,H p=none→Q (.ref p) (upd H p (.lst ys))):Wc (Itl K a) g tc te σb Q H:=bx Pv hz h0 hl hs hd
theorem Wc.its {xs:List V} {g:TG} {tc:TT} {te:TE} {σb:St} {Q:VK} {H:Hp} (Pv:Nat→List V→Hp→Prop) (hz:xs.length ≤ sizeLine) (h0:Pv 0 [] H) (hl:∀ i ys H,i ≤ xs.length→Pv i ys H→ys.length ≤ i)
  (hs:∀ i x ys H,xs[i]? = some x→Pv i ys H→ke Pv g tc te σb i x ys H) (hd:∀ ys H,Pv xs.length ys H→∀ p,H p=none→Q (.ref p) (upd H p (.lst ys))):Wc (Its xs) g tc te σb Q H:=jA Pv hz h0 hl hs hd
theorem Wc.range {lo:Int} {n:Nat} {g:TG} {tc:TT} {te:TE} {σb:St} {Q:VK} {H:Hp} (Pv:Nat→List V→Hp→Prop) (hz:n ≤ sizeLine) (h0:Pv 0 [] H) (hl:∀ i ys H,i ≤ n→Pv i ys H→ys.length ≤ i)
  (hs:∀ i ys H,i < n→Pv i ys H→ke Pv g tc te σb i (.int (lo + i)) ys H) (hd:∀ ys H,Pv n ys H→∀ p,H p=none→Q (.ref p) (upd H p (.lst ys))):Wc (Itr lo n) g tc te σb Q H:=Bu Pv hz h0 hl hs hd
theorem Bo {α β:Type} {xs:List α} {i:Nat} {x:α} (f:α→β) (h:xs[i]? = some x):(xs.take (i + 1)).map f=(xs.take i).map f ++ [f x]:=by
 rw [List.take_add_one,h,List.map_append];rfl
theorem Wc.its_map {xs:List V} {g:TG} {te:TE} {σb:St} {Q:VK} {H:Hp} (f:V→V) (hz:xs.length ≤ sizeLine) (hs:∀ (i:Nat) (x:V) (N:V→Hp→Prop),xs[i]? = some x→N (f x) H→g x σb H fun σ2 H2=>Sub σb σ2∧te σ2 H2 N)
  (hd:∀ p,H p=none→Q (.ref p) (upd H p (.lst (xs.map f)))):Wc (Its xs) g mr te σb Q H:=by
 refine Wc.its (fun i ys H'=>H'=H∧ys=(xs.take i).map f) hz ⟨rfl,rfl⟩ (fun i ys H' hi ⟨_,e⟩=>?_) (fun i x ys H' hx ⟨e1,e2⟩ N hN=>?_) (fun ys H' ⟨e1,e2⟩ p hp=>?_)
 ·rw [e,List.length_map,List.length_take];omega
 ·subst e1
  exact hs i x (fun y H4=>N (ys ++ [y]) H4) hx (hN _ _ ⟨rfl,by rw [e2,Bo f hx]⟩)
 ·subst e1
  rw [e2,List.take_length]
  exact hd p hp
theorem Wc.range_map {lo:Int} {n:Nat} {g:TG} {te:TE} {σb:St} {Q:VK} {H:Hp} (f:Nat→V) (hz:n ≤ sizeLine) (hs:∀ (i:Nat) (N:V→Hp→Prop),i < n→N (f i) H→g (.int (lo + i)) σb H fun σ2 H2=>Sub σb σ2∧te σ2 H2 N)
  (hd:∀ p,H p=none→Q (.ref p) (upd H p (.lst ((List.range n).map f)))):Wc (Itr lo n) g mr te σb Q H:=by
 refine Wc.range (fun i ys H'=>H'=H∧ys=(List.range i).map f) hz ⟨rfl,rfl⟩ (fun i ys H' hi ⟨_,e⟩=>?_) (fun i ys H' hi ⟨e1,e2⟩ N hN=>?_) (fun ys H' ⟨e1,e2⟩ p hp=>?_)
 ·rw [e,List.length_map,List.length_range];exact Nat.le_refl _
 ·subst e1
  exact hs i (fun y H4=>N (ys ++ [y]) H4) hi (hN _ _ ⟨rfl,by rw [e2,List.range_succ,List.map_append];rfl⟩)
 ·subst e1
  rw [e2]
  exact hd p hp
theorem Wc.list_mk {K:PySem.W.Frag} {a:Addr} {xs:List V} {g:TG} {te:TE} {σb:St} {Q:VK} {H:Hp} (f:V→HO) (hl:SqL K H a xs) (hz:xs.length ≤ sizeLine) (hn:∀ x,noT (f x)=true)
  (hs:∀ (i:Nat) (x:V) (H1:Hp) (N:V→Hp→Prop),xs[i]? = some x→Xb H H1→(NoT H→NoT H1)→(∀ q,H1 q=none→N (.ref q) (upd H1 q (f x)))→g x σb H1 fun σ2 H2=>Sub σb σ2∧te σ2 H2 N)
  (hd:∀ (qs:List Addr) (H1:Hp),Xb H H1→(NoT H→NoT H1)→qs.length=xs.length→(∀ (j:Nat) (q:Addr) (x:V),qs[j]? = some q→xs[j]? = some x→H1 q=some (f x)∧H q=none)→∀ p,H1 p=none→Q (.ref p) (upd H1 p (.lst (qs.map V.ref)))):Wc (Itl K a) g mr te σb Q H:=by
 refine Wc.list (fun i ys H'=>∃ qs:List Addr,ys=qs.map V.ref∧qs.length=i∧Xb H H'∧(NoT H→NoT H')∧∀ (j:Nat) (q:Addr) (x:V),qs[j]? = some q→xs[j]? = some x→H' q=some (f x)∧H q=none) hz
  ⟨[],rfl,rfl,Xb.refl H,id,fun j q x h _=>by simp at h⟩ ?_ ?_ ?_
 ·rintro i ys H' hi ⟨qs,e,e2,sm,_,_⟩
  exact ⟨hl.same sm,by rw [e,List.length_map];omega⟩
 ·rintro i x ys H' hx ⟨qs,e1,e2,sm,nt,al⟩ N hN
  refine hs i x H' (fun y H4=>N (ys ++ [y]) H4) hx sm nt fun q hq=>hN _ _ ⟨qs ++ [q],by rw [e1,List.map_append];rfl,by rw [List.length_append,e2];rfl,sm.updN (sm.free hq),fun n=>(nt n).upd (hn x),fun j q' x' h1 h2=>?_⟩
  by_cases hj:j < qs.length
  ·rw [List.getElem?_append_left hj] at h1
   obtain ⟨z1,z2⟩:=al j q' x' h1 h2
   exact ⟨by rw [qb (zb z1 hq)];exact z1,z2⟩
  ·rw [List.getElem?_append_right (by omega)] at h1
   have hj0:j - qs.length=0:=by
    cases hh:j - qs.length with
    | zero=>rfl
    | succ n=>rw [hh] at h1;simp at h1
   rw [hj0] at h1
   have e3:q=q':=by simpa using h1
   subst e3
   have e4:j=i:=by omega
   subst e4
   rw [hx] at h2
   cases h2
   exact ⟨fb,sm.free hq⟩
 ·rintro ys H' ⟨qs,e1,e2,sm,nt,al⟩ p hp
  subst e1
  exact hd qs H' sm nt e2 al p hp
theorem Ni.of {J:It} {n:Nat} {g:TG} {tb:TS} {D:Te} {σ:St} {H:Hp} (Pv:Nat→St→Hp→Prop) (h0:Pv 0 σ H) (hgo:∀ i σ H,i < n→Pv i σ H→J.go i H) (hst:∀ σ H,Pv n σ H→J.stop n H)
  (hs:∀ i σ H x H',i < n→Pv i σ H→J.yld i H x H'→g x σ H' fun σ2 H2=>tb { D with nx:=Pv (i + 1),ct:=Pv (i + 1),bk:=D.nx } σ2 H2) (hd:∀ σ H,Pv n σ H→D.nx σ H):Ni J g tb D σ H:=by
 refine ⟨fun i m σ H=>m=n - i∧i ≤ n∧Pv i σ H,⟨n,by simp,Nat.zero_le _,h0⟩,?_⟩
 rintro i m σ H ⟨rfl,hi,p⟩
 by_cases hlt:i < n
 ·exact .inr ⟨hgo i σ H hlt p,Pv (i + 1),fun σ' H' p'=>⟨n - (i + 1),by omega,rfl,hlt,p'⟩,fun x H' y=>hs i σ H x H' hlt p y⟩
 ·have e:i=n:=by omega
  subst e
  exact .inl ⟨hst σ H p,hd σ H p⟩
theorem Wc.of {J:It} {n:Nat} {g:TG} {tc:TT} {te:TE} {σb:St} {Q:VK} {H:Hp} (Pv:Nat→List V→Hp→Prop) (hz:n ≤ sizeLine) (h0:Pv 0 [] H) (hgo:∀ i ys H,i < n→Pv i ys H→J.go i H) (hst:∀ ys H,Pv n ys H→J.stop n H) (hl:∀ i ys H,i < n→Pv i ys H→ys.length ≤ i)
  (hs:∀ i ys H x H',i < n→Pv i ys H→J.yld i H x H'→ke Pv g tc te σb i x ys H') (hd:∀ ys H,Pv n ys H→∀ p,H p=none→Q (.ref p) (upd H p (.lst ys))):Wc J g tc te σb Q H:=by
 refine ⟨fun i m ys H=>m=n - i∧i ≤ n∧Pv i ys H,⟨n,by simp,Nat.zero_le _,h0⟩,?_⟩
 rintro i m ys H ⟨rfl,hi,p⟩
 by_cases hlt:i < n
 ·have hyl:=hl i ys H hlt p
  refine .inr ⟨hgo i ys H hlt p,by omega,fun x H' y=>?_⟩
  exact hs i ys H x H' hlt p y (fun ys' H'=>∃ m',m' < n - i∧m'=n - (i + 1)∧i + 1 ≤ n∧Pv (i + 1) ys' H') fun ys' H' r=>⟨n - (i + 1),by omega,rfl,hlt,r⟩
 ·have e:i=n:=by omega
  subst e
  exact .inl ⟨hst ys H p,hd ys H p⟩
section
variable {K:PySem.W.Frag} {a b:Addr} {xs ys:List V} {g:TG} {tb:TS} {D:Te} {σ σb:St} {H:Hp} {tc:TT} {te:TE} {Q:VK}
theorem Ni.enum (Pv:Nat→St→Hp→Prop) (h0:Pv 0 σ H) (hl:∀ i σ H,i ≤ xs.length→Pv i σ H→SqL K H a xs)
  (hs:∀ i x σ H p,xs[i]? = some x→Pv i σ H→H p=none→g (.ref p) σ (upd H p (.tup [.int i,x])) fun σ2 H2=>tb { D with nx:=Pv (i + 1),ct:=Pv (i + 1),bk:=D.nx } σ2 H2) (hd:∀ σ H,Pv xs.length σ H→D.nx σ H):Ni (Ite K a) g tb D σ H:=by
 refine Ni.of (n:=xs.length) Pv h0 (fun i σ H hi p=>⟨xs,xs[i],hl i σ H (Nat.le_of_lt hi) p,by simp [hi]⟩) (fun σ H p=>⟨xs,hl _ σ H (Nat.le_refl _) p,Nat.le_refl _⟩) (fun i σ H v H' hi p y=>?_) hd
 obtain ⟨q,x,hq,rfl,hx,rfl⟩:=y
 exact hs i x σ H q (hx xs (hl i σ H (Nat.le_of_lt hi) p)) p hq
theorem Ni.zip (Pv:Nat→St→Hp→Prop) (h0:Pv 0 σ H) (hl:∀ i σ H,i ≤ xs.length→Pv i σ H→SqL K H a xs∧SqL K H b ys) (n:Nat) (hn:n=min xs.length ys.length)
  (hs:∀ i x y σ H p,xs[i]? = some x→ys[i]? = some y→Pv i σ H→H p=none→g (.ref p) σ (upd H p (.tup [x,y])) fun σ2 H2=>tb { D with nx:=Pv (i + 1),ct:=Pv (i + 1),bk:=D.nx } σ2 H2) (hd:∀ σ H,Pv n σ H→D.nx σ H):Ni (Itz K a b) g tb D σ H:=by
 subst hn
 refine Ni.of (n:=min xs.length ys.length) Pv h0 (fun i σ H hi p=>?_) (fun σ H p=>?_) (fun i σ H v H' hi p y=>?_) hd
 ·obtain ⟨z1,z2⟩:=hl i σ H (by omega) p
  exact ⟨xs,ys,xs[i],ys[i],z1,z2,by rw [List.getElem?_eq_getElem (by omega)],by rw [List.getElem?_eq_getElem (by omega)]⟩
 ·obtain ⟨z1,z2⟩:=hl _ σ H (by omega) p
  exact ⟨xs,ys,z1,z2,by omega⟩
 ·obtain ⟨q,x,y,hq,rfl,hx,hy,rfl⟩:=y
  obtain ⟨z1,z2⟩:=hl i σ H (by omega) p
  exact hs i x y σ H q (hx xs z1) (hy ys z2) p hq
theorem Wc.enum (Pv:Nat→List V→Hp→Prop) (hz:xs.length ≤ sizeLine) (h0:Pv 0 [] H) (hl:∀ i ys H,i ≤ xs.length→Pv i ys H→SqL K H a xs∧ys.length ≤ i)
  (hs:∀ i x ys H p,xs[i]? = some x→Pv i ys H→H p=none→ke Pv g tc te σb i (.ref p) ys (upd H p (.tup [.int i,x]))) (hd:∀ ys H,Pv xs.length ys H→∀ p,H p=none→Q (.ref p) (upd H p (.lst ys))):Wc (Ite K a) g tc te σb Q H:=by
 refine Wc.of (n:=xs.length) Pv hz h0 (fun i ys H hi p=>⟨xs,xs[i],(hl i ys H (Nat.le_of_lt hi) p).1,by simp [hi]⟩) (fun ys H p=>⟨xs,(hl _ ys H (Nat.le_refl _) p).1,Nat.le_refl _⟩) (fun i ys H hi p=>(hl i ys H (Nat.le_of_lt hi) p).2) (fun i zs H v H' hi p y=>?_) hd
 obtain ⟨q,x,hq,rfl,hx,rfl⟩:=y
 exact hs i x zs H q (hx xs (hl i zs H (Nat.le_of_lt hi) p).1) p hq
theorem lp {i j:Nat} {p:Addr} {x y:V} {R:St→Hp→Prop} (h:SqT K H p [x,y]) (q:R ((σ.set i (some x)).set j (some y)) H):IE K 2 (du (vp i) (du (vp j) OG)) (.ref p) σ H R:=
 ⟨p,_,rfl,h,rfl,x,_,rfl,y,_,rfl,rfl,q⟩
theorem rh {i j:Nat} {p:Addr} {x y:V} {R:St→Hp→Prop} (q:R ((σ.set i (some x)).set j (some y)) (upd H p (.tup [x,y]))):IE K 2 (du (vp i) (du (vp j) OG)) (.ref p) σ (upd H p (.tup [x,y])) R:=
 lp (.inl (.inl fb)) q
end
theorem Sub.name2 {r:St} {v w:Option V}:Sub (none :: none :: r) (v :: w :: r):=by
 refine ⟨rfl,fun i u h=>?_⟩
 match i with
 | 0=>cases h
 | 1=>cases h
 | i + 2=>exact h
theorem Wc.list_zs {K:PySem.W.Frag} {a:Addr} {xs zs:List V} {g:TG} {te:TE} {σb:St} {Q:VK} {H:Hp} (hl:SqL K H a xs) (hz:xs.length ≤ sizeLine) (he:zs.length=xs.length)
  (hs:∀ (i:Nat) (x z:V) (N:V→Hp→Prop),xs[i]? = some x→zs[i]? = some z→N z H→g x σb H fun σ2 H2=>Sub σb σ2∧te σ2 H2 N) (hd:∀ p,H p=none→Q (.ref p) (upd H p (.lst zs))):Wc (Itl K a) g mr te σb Q H:=by
 refine Wc.list (fun i ys H'=>H'=H∧ys=zs.take i) hz ⟨rfl,rfl⟩ (fun i ys H' hi ⟨e0,e⟩=>?_) (fun i x ys H' hx ⟨e1,e2⟩ N hN=>?_) (fun ys H' ⟨e1,e2⟩ p hp=>?_)
 ·subst e0
  exact ⟨hl,by rw [e,List.length_take];omega⟩
 ·subst e1
  have hi:i < zs.length:=by rw [he];exact (List.getElem?_eq_some_iff.mp hx).1
  have hz':zs[i]? = some zs[i]:=List.getElem?_eq_getElem hi
  exact hs i x zs[i] (fun y H4=>N (ys ++ [y]) H4) hx hz' (hN _ _ ⟨rfl,by rw [e2,List.take_add_one,hz'];rfl⟩)
 ·subst e1
  rw [e2,← he,List.take_length]
  exact hd p hp
theorem Wc.tup_zs {K:PySem.W.Frag} {a:Addr} {xs zs:List V} {g:TG} {te:TE} {σb:St} {Q:VK} {H:Hp} (hl:SqT K H a xs) (hz:xs.length ≤ sizeLine) (he:zs.length=xs.length)
  (hs:∀ (i:Nat) (x z:V) (N:V→Hp→Prop),xs[i]? = some x→zs[i]? = some z→N z H→g x σb H fun σ2 H2=>Sub σb σ2∧te σ2 H2 N) (hd:∀ p,H p=none→Q (.ref p) (upd H p (.lst zs))):Wc (Itt K a) g mr te σb Q H:=by
 refine Yy (xs:=xs) (fun i ys H'=>H'=H∧ys=zs.take i) hz ⟨rfl,rfl⟩ (fun i ys H' hi ⟨e0,e⟩=>?_) (fun i x ys H' hx ⟨e1,e2⟩ N hN=>?_) (fun ys H' ⟨e1,e2⟩ p hp=>?_)
 ·subst e0
  exact ⟨hl,by rw [e,List.length_take];omega⟩
 ·subst e1
  have hi:i < zs.length:=by rw [he];exact (List.getElem?_eq_some_iff.mp hx).1
  have hz':zs[i]? = some zs[i]:=List.getElem?_eq_getElem hi
  exact hs i x zs[i] (fun y H4=>N (ys ++ [y]) H4) hx hz' (hN _ _ ⟨rfl,by rw [e2,List.take_add_one,hz'];rfl⟩)
 ·subst e1
  rw [e2,← he,List.take_length]
  exact hd p hp
theorem Sub.name {r:St} {v:Option V}:Sub (none :: r) (v :: r):=by
 refine ⟨rfl,fun i w h=>?_⟩
 cases i with
 | zero=>cases h
 | succ i=>exact h
end L2
local macro_rules | `(tactic| walk_at "RD")=>`(tactic| ((try dsimp only [L2.BB,L2.rH,L2.Cx.nox,L2.Cx.wish,L2.Cx.block,L2.Cx.tr,L2.Cx.hn]);(try simp only [L2.vC,L2.YG,L2.NB,L2.CD,L2.GB,L2.OD,L2.DC,L2.bA,L2.JH,L2.XC,L2.ZF,L2.ED,L2.lA,L2.fC,L2.kz,L2.PF,L2.qd,L2.Kb,L2.tw,L2.gA,L2.vz,L2.wB,L2.qz,L2.Zw,L2.Rh,L2.VC,L2.lz,L2.NC,L2.wD,L2.sC,L2.CB,L2.cD,L2.bz,L2.Oz,L2.pC,L2.IF,L2.NE,L2.kH,L2.tE,L2.oH,L2.UF,L2.YE,L2.nz,L2.px,L2.KC,L2.ID,L2.Kt,L2.xD,L2.qB,L2.JD,L2.Ez,L2.FD,L2.zB,L2.Fz,L2.ny,L2.fz,L2.Ev,L2.BE,L2.ou,L2.cA,L2.RF,L2.zD,L2.LB,L2.Mz,L2.IC,L2.eD,L2.bD,L2.pG,L2.Ny,L2.wC,L2.bE,L2.PD,L2.bG,L2.au,L2.gu,L2.UC,L2.Su,L2.Hr,L2.iw,L2.LD,L2.TC,L2.pz,L2.gC,L2.bu,L2.Hz,L2.Nz,L2.Dz,L2.mw,L2.Qx,L2.pA,L2.Tx,L2.Aw,L2.Kx,L2.dv,L2.Ly,L2.CC,L2.tD,L2.Jz,L2.lv,L2.Dt,L2.Xu,L2.jv,L2.fA,L2.bC,L2.lC,L2.Ku,L2.yB,L2.OB,L2.rF,L2.QF,L2.oE,L2.EE,L2.xu,L2.mv,L2.Nx,L2.Ow,L2.Hw,L2.dz,L2.aw,L2.Nv,L2.Uu,L2.Bz,L2.Qr,L2.Gy,L2.sD,L2.Eu,L2.dA,L2.xy,L2.Xt,L2.AF,L2.NF,L2.BG,L2.aG,L2.uv,L2.Ew,L2.Py,L2.JB,L2.Et,L2.wy,L2.Uz,L2.SB,L2.MD,L2.ky,L2.Wz,L2.Ay,L2.AD,L2.UB,L2.lD,L2.Ov,L2.mD,L2.jC,L2.start,L2.DD,List.map_cons,List.map_nil,Option.bind_none,Option.bind_some,Option.join_some,Option.join_none,List.length_cons,List.length_nil,Nat.reduceAdd,Nat.reduceSub,Nat.zero_add,List.replicate,List.cons_append,List.nil_append,List.append_nil,List.set_cons_zero,List.set_cons_succ,List.getElem?_cons_zero,List.getElem?_cons_succ,Option.some.injEq,L2.V.int.injEq,L2.V.bl.injEq,L2.V.str.injEq,L2.V.ref.injEq,L2.V.ty.injEq,exists_eq_left',exists_eq_left,exists_and_left,List.cons.injEq,and_true,true_and,and_assoc,Int.zero_add,reduceCtorEq,false_and,exists_false,and_false,ite_true,ite_false,if_true,if_false,Bool.false_eq_true,L2.RE,L2.tyV,false_or,or_false,Bool.not_true,Bool.not_false,decide_true,decide_false])))
local macro_rules | `(tactic| walk_at "F")=>`(tactic| exact ⟨rfl,rfl,rfl,by decide +kernel,rfl,by decide +kernel,by decide +kernel⟩)
namespace My
open PySem L2
noncomputable def top (i:Nat):Stmt:=PySem.Challenge.pw_lampway_k60_begins_that_do.main.body.getD i (.Pass ⟨0,0,0,0⟩)
noncomputable abbrev xt:Stmt:=top 2
theorem Gq:Ab ["places","way","place","steps"] ["places","way","place"] (lb xt):=(by walk_at "F")
noncomputable abbrev Dk:Stmt:=top 3
theorem Go:Ab ["places","way","second"] ["places","way","second"] (lb Dk):=(by walk_at "F")
noncomputable abbrev YA:Stmt:=top 4
theorem Xr:Ab ["crossing","one","other","way","second"] ["crossing","one","other"] (lb YA):=(by walk_at "F")
noncomputable abbrev EF:Stmt:=top 5
theorem Lv:Ab ["crossing","one","other","way","second"] ["crossing","one","other"] (lb EF):=(by walk_at "F")
noncomputable abbrev Rl:Stmt:=top 9
theorem Ff:Ab ["crossing","wants","size","begins","wanted","one","other"] ["crossing","wants","size","begins"] (lb Rl):=(by walk_at "F")
noncomputable abbrev Mr:Stmt:=top 19
theorem Gz:Ab ["text"] ["text"] (lb Mr):=(by walk_at "F")
noncomputable abbrev fh:Stmt:=top 20
theorem Ho:Ab ["word","signs","most"] ["word","signs","most"] (lb fh):=(by walk_at "F")
noncomputable abbrev um:Stmt:=top 21
theorem Wp:Ab ["word","most_figures"] ["word","most_figures"] (lb um):=(by walk_at "F")
noncomputable abbrev Pp:Stmt:=top 22
theorem Fn:Ab ["word","low","high","number"] ["word","low","high"] (lb Pp):=(by walk_at "F")
noncomputable abbrev bq:Stmt:=top 23
theorem Hu:Ab ["word"] ["word"] (lb bq):=(by walk_at "F")
noncomputable abbrev dm:Stmt:=top 26
theorem fu:Ab ["text"] ["text"] (lb dm):=(by walk_at "F")
noncomputable abbrev Bl:Stmt:=top 40
theorem yk:Ab ["reader","places"] ["reader"] (lb Bl):=(by walk_at "F")
noncomputable abbrev lf:Stmt:=top 41
theorem Qg:Ab ["reader","ways","name"] ["reader","ways"] (lb lf):=(by walk_at "F")
noncomputable abbrev xn:Stmt:=top 42
theorem er:Ab ["reader","places","start"] ["reader","places","start"] (lb xn):=(by walk_at "F")
noncomputable abbrev En:Stmt:=top 43
theorem Sq:Ab ["sort","name","start","end","off","near","least"] ["sort","name","start","end","off","near","least"] (lb En):=(by walk_at "F")
noncomputable abbrev Dn:Stmt:=top 44
theorem yd:Ab ["reader","places","ways","sort","name","start","end","off","near","least"] ["reader","places","ways"] (lb Dn):=(by walk_at "F")
noncomputable abbrev Dh:Stmt:=top 45
theorem md:Ab ["text","rows","places","ways","reader"] ["text"] (lb Dh):=(by walk_at "F")
noncomputable abbrev tm:Stmt:=top 47
theorem Bh:Ab ["_law_script","_law_k","_law_many","_law_cell","_law_seed"] ["_law_script","_law_k","_law_many"] (lb tm):=(by walk_at "F")
noncomputable abbrev Oj:Stmt:=top 48
theorem Um:Ab ["_law_script"] ["_law_script"] (lb Oj):=(by walk_at "F")
noncomputable abbrev ph:Stmt:=top 49
theorem cc:Ab ["_law_script","_law_many","_law_letters","_law_word","_law_size","_law_at","_law_first","_law_some","_law_k","_law_name","_law_sign"] ["_law_script","_law_many"] (lb ph):=(by walk_at "F")
noncomputable abbrev ql:Stmt:=top 50
theorem Pb:Ab ["_law_script","_law_many","_law_places_here","_law_names_here","_law_one_end","_law_ways_here","_law_k","_law_start","_law_end","_law_off","_law_near","_law_sort","_law_least"] ["_law_script","_law_many","_law_places_here"] (lb ql):=(by walk_at "F")
noncomputable abbrev Ji:Stmt:=top 51
theorem dh:Ab ["_law_places_here","_law_ways_here","_law_rows","_law_way"] ["_law_places_here","_law_ways_here"] (lb Ji):=(by walk_at "F")
noncomputable abbrev Aj:Stmt:=top 52
theorem Uf:Ab ["_law_one","_law_other","_law_places_here","_law_far","_law_is_in"] ["_law_one","_law_other","_law_places_here"] (lb Aj):=(by walk_at "F")
noncomputable abbrev Dj:Stmt:=top 53
theorem Ic:Ab ["_law_script","_law_ways_here","_law_many","_law_first","_law_wanted_here","_law_k","_law_turns"] ["_law_script","_law_ways_here"] (lb Dj):=(by walk_at "F")
noncomputable abbrev zm:Stmt:=top 54
theorem Xp:Ab ["_law_way","_law_turns"] ["_law_way","_law_turns"] (lb zm):=(by walk_at "F")
noncomputable abbrev Qd:Stmt:=top 55
theorem Gc:Ab ["_law_script","_law_wanted_here","_law_size","_law_begins_here","_law_at","_law_one","_law_k"] ["_law_script","_law_wanted_here"] (lb Qd):=(by walk_at "F")
noncomputable abbrev Op:Stmt:=top 56
theorem ge:Ab ["_law_wanted_here","_law_places_here","_law_size","_law_begins_here","_law_one","_law_i","_law_j","_law_wide","_law_turn","_law_back"] ["_law_wanted_here","_law_places_here","_law_size","_law_begins_here"] (lb Op):=(by walk_at "F")
noncomputable abbrev tz:Stmt:=top 57
theorem Og:Ab ["_law_script","_law_places_here","_law_ways_here","_law_crossing","_law_wanted_here","_law_wants","_law_size","_law_begins_here","_law_due","_law_handed","_law_found","_law_other"] ["_law_script"] (lb tz):=(by walk_at "F")
noncomputable abbrev We:Stmt:=Lc (top 7) 0
theorem wc:Ab ["self","crossing","wants","ways","one","want","other","second"] ["self","crossing","wants"] (lb We):=(by walk_at "F")
noncomputable abbrev Xg:Stmt:=Lc (top 25) 0
theorem Hh:Ab ["self","row","told"] ["self","row","told"] (lb Xg):=(by walk_at "F")
noncomputable abbrev kg:Stmt:=Lc (top 25) 1
theorem cj:Ab ["self"] ["self"] (lb kg):=(by walk_at "F")
noncomputable abbrev Ee:Stmt:=Lc (top 25) 2
theorem xh:Ab ["self"] ["self"] (lb Ee):=(by walk_at "F")
noncomputable abbrev Fj:Stmt:=Lc (top 25) 3
noncomputable abbrev Rg:Stmt:=Lc (top 25) 4
theorem jk:Ab ["self","good"] ["self","good"] (lb Rg):=(by walk_at "F")
noncomputable abbrev Bf:Stmt:=Lc (top 25) 5
theorem zf:Ab ["self","choices","found"] ["self","choices"] (lb Bf):=(by walk_at "F")
noncomputable abbrev cf:Stmt:=Lc (top 25) 6
theorem Fe:Ab ["self","low","high","found"] ["self","low","high"] (lb cf):=(by walk_at "F")
noncomputable abbrev Pf:Stmt:=Lc (top 25) 7
theorem Ei:Ab ["self"] ["self"] (lb Pf):=(by walk_at "F")
noncomputable abbrev ao:Stmt:=Lc (top 28) 0
theorem yl:Ab ["self","kind","name","start","end","off","near","least"] ["self","kind","name","start","end","off","near","least"] (lb ao):=(by walk_at "F")
noncomputable abbrev sj:Stmt:=Lc (top 29) 0
theorem Gj:Ab ["self","name","start","end","off","near","least"] ["self","name","start","end","off","near","least"] (lb sj):=(by walk_at "F")
noncomputable abbrev mi:Stmt:=Lc (top 29) 1
theorem kl:Ab ["self"] ["self"] (lb mi):=(by walk_at "F")
noncomputable abbrev Mj:Stmt:=Lc (top 29) 2
theorem gn:Ab ["self"] ["self"] (lb Mj):=(by walk_at "F")
noncomputable abbrev yi:Stmt:=Lc (top 30) 0
theorem Li:Ab ["self","name","start","end","off","near","least"] ["self","name","start","end","off","near","least"] (lb yi):=(by walk_at "F")
noncomputable abbrev gh:Stmt:=Lc (top 30) 1
theorem Nk:Ab ["self"] ["self"] (lb gh):=(by walk_at "F")
noncomputable abbrev Yh:Stmt:=Lc (top 30) 2
theorem vm:Ab ["self"] ["self"] (lb Yh):=(by walk_at "F")
noncomputable abbrev gi:Stmt:=Lc (top 31) 0
theorem Gi:Ab ["self","name","start","end","off","near","least"] ["self","name","start","end","off","near","least"] (lb gi):=(by walk_at "F")
noncomputable abbrev mh:Stmt:=Lc (top 31) 1
theorem Fk:Ab ["self"] ["self"] (lb mh):=(by walk_at "F")
noncomputable abbrev vi:Stmt:=Lc (top 31) 2
theorem Ll:Ab ["self"] ["self"] (lb vi):=(by walk_at "F")
noncomputable abbrev kh:Stmt:=Lc (top 39) 0
theorem Id:Ab ["self","places","ways","number","way"] ["self","places","ways"] (lb kh):=(by walk_at "F")
noncomputable abbrev fg:Stmt:=Lc (top 39) 2
theorem Pi:Ab ["self","name"] ["self","name"] (lb fg):=(by walk_at "F")
noncomputable abbrev bg:Stmt:=Lc (top 39) 3
theorem Ij:Ab ["self","name"] ["self","name"] (lb bg):=(by walk_at "F")
set_option genInjectivity false in
set_option genInjectivity false in
structure Adr where
 {Yk Jf Js Iy vf oo we yg xj gj Ti wg Pd Kh Lh Mh Zd gd Pe Cf Bg Dg Qe Se mf Le dj OC Xd ld Ub Bc ee yc vc Sb xc je Td re Ie Ld Yd me Kd Wd se Ad Yc ic Gb xb Kj Ec Yb ac Hb:Addr}
 {Uk Qf ot Tz kf yo ue Eg ij Lj mj Mg Ud Ph Qh Nh ce jd Ue Kf Fg Lg Je Me jf Oe zj Iz Ve Md gc Uc Qi Mc Pc jc Oc Ye Re Yf Jg qe wf Wf pe qf ag ae Fd Jc:FuncData}
 {aq si wp ii Bk ci Il Tn Bj Am:Value}
structure Txt (w:World) (K:PySem.W.Frag) (mg:Str→Option Value) (t:Adr):Prop where
 Ys:mg "in_bow"=some (.ref t.Yk)
 Vk:Fun K "in_bow" "in_bow" xt t.Yk t.Uk
 Ip:mg "bows_cross"=some (.ref t.Jf)
 ah:Fun K "bows_cross" "bows_cross" Dk t.Jf t.Qf
 uG:mg "meet"=some (.ref t.Js)
 Ww:Fun K "meet" "meet" YA t.Js t.ot
 BH:mg "gap"=some (.ref t.Iy)
 PB:Fun K "gap" "gap" EF t.Iy t.Tz
 zi:mg "begins_do"=some (.ref t.vf)
 bf:Fun K "begins_do" "begins_do" Rl t.vf t.kf
 uB:mg "words"=some (.ref t.oo)
 Tr:Fun K "words" "words" Mr t.oo t.yo
 Ak:mg "is_made_of"=some (.ref t.we)
 Af:Fun K "is_made_of" "is_made_of" fh t.we t.ue
 dr:mg "is_number"=some (.ref t.yg)
 Bi:Fun K "is_number" "is_number" um t.yg t.Eg
 xx:mg "figured"=some (.ref t.xj)
 xl:Fun K "figured" "figured" Pp t.xj t.ij
 Ex:mg "is_name"=some (.ref t.gj)
 rm:Fun K "is_name" "is_name" bq t.gj t.Lj
 Wv:mg "readers"=some (.ref t.Ti)
 am:Fun K "readers" "readers" dm t.Ti t.mj
 ar:mg "read_ring"=some (.ref t.wg)
 Mi:Fun K "read_ring" "read_ring" Bl t.wg t.Mg
 Fm:mg "read_new_name"=some (.ref t.Pd)
 gf:Fun K "read_new_name" "read_new_name" lf t.Pd t.Ud
 ku:mg "read_end"=some (.ref t.Kh)
 qk:Fun K "read_end" "read_end" xn t.Kh t.Ph
 Tt:mg "made_way"=some (.ref t.Lh)
 Sj:Fun K "made_way" "made_way" En t.Lh t.Qh
 yu:mg "read_way"=some (.ref t.Mh)
 wk:Fun K "read_way" "read_way" Dn t.Mh t.Nh
 Dm:mg "read_crossing"=some (.ref t.Zd)
 Ze:Fun K "read_crossing" "read_crossing" Dh t.Zd t.ce
 rb:mg "_law_draw"=some (.ref t.gd)
 pb:Fun K "_law_draw" "_law_draw" tm t.gd t.jd
 Vo:mg "_law_places"=some (.ref t.Pe)
 Gg:Fun K "_law_places" "_law_places" Oj t.Pe t.Ue
 iq:mg "_law_names"=some (.ref t.Cf)
 Zg:Fun K "_law_names" "_law_names" ph t.Cf t.Kf
 Gr:mg "_law_ways"=some (.ref t.Bg)
 Fi:Fun K "_law_ways" "_law_ways" ql t.Bg t.Fg
 Wq:mg "_law_text"=some (.ref t.Dg)
 Ki:Fun K "_law_text" "_law_text" Ji t.Dg t.Lg
 ap:mg "_law_is_met"=some (.ref t.Qe)
 Ng:Fun K "_law_is_met" "_law_is_met" Aj t.Qe t.Je
 Wo:mg "_law_wanted"=some (.ref t.Se)
 xg:Fun K "_law_wanted" "_law_wanted" Dj t.Se t.Me
 Gm:mg "_law_room"=some (.ref t.mf)
 Hg:Fun K "_law_room" "_law_room" zm t.mf t.jf
 so:mg "_law_begins"=some (.ref t.Le)
 Ig:Fun K "_law_begins" "_law_begins" Qd t.Le t.Oe
 Gp:mg "_law_do"=some (.ref t.dj)
 Hj:Fun K "_law_do" "_law_do" Op t.dj t.zj
 lH:mg "law"=some (.ref t.OC)
 bH:Fun K "law" "law" tz t.OC t.Iz
 oA:mg "Wanted"=some (.ref t.Gb)
 aA:PySem.W.findIn K (.ref t.Gb) "__init__"=some (some (.ref t.Xd))
 Zi:Fun K "__init__" "Wanted.__init__" We t.Xd t.Ve
 Tq:mg "RowReader"=some (.ref t.xb)
 Qu:PySem.W.findIn K (.ref t.xb) "__init__"=some (some (.ref t.ld))
 Wg:Fun K "__init__" "RowReader.__init__" Xg t.ld t.Md
 cu:PySem.W.findIn K (.ref t.xb) "ahead"=some (some (.ref t.Ub))
 cg:Fun K "ahead" "RowReader.ahead" kg t.Ub t.gc
 Nq:PySem.W.findIn K (.ref t.xb) "has_more"=some (some (.ref t.Bc))
 He:Fun K "has_more" "RowReader.has_more" Ee t.Bc t.Uc
 Ts:PySem.W.findIn K (.ref t.xb) "refuse"=some (some (.ref t.ee))
 Us:Fun K "refuse" "RowReader.refuse" Fj t.ee t.Qi
 Ou:PySem.W.findIn K (.ref t.xb) "take"=some (some (.ref t.yc))
 Ug:Fun K "take" "RowReader.take" Rg t.yc t.Mc
 Ps:PySem.W.findIn K (.ref t.xb) "one_of"=some (some (.ref t.vc))
 Lf:Fun K "one_of" "RowReader.one_of" Bf t.vc t.Pc
 Ar:PySem.W.findIn K (.ref t.xb) "figures"=some (some (.ref t.Sb))
 af:Fun K "figures" "RowReader.figures" cf t.Sb t.jc
 ss:PySem.W.findIn K (.ref t.xb) "finish"=some (some (.ref t.xc))
 Rf:Fun K "finish" "RowReader.finish" Pf t.xc t.Oc
 iC:mg "Way"=some (.ref t.Kj)
 UD:PySem.W.findIn K (.ref t.Kj) "__init__"=some (some (.ref t.je))
 Hn:Fun K "__init__" "Way.__init__" ao t.je t.Ye
 xA:mg "CarWay"=some (.ref t.Ec)
 rA:PySem.W.findIn K (.ref t.Ec) "__init__"=some (some (.ref t.Td))
 rj:Fun K "__init__" "CarWay.__init__" sj t.Td t.Re
 Zx:PySem.W.findIn K (.ref t.Ec) "ready"=some (some (.ref t.re))
 xi:Fun K "ready" "CarWay.ready" mi t.re t.Yf
 Jy:PySem.W.findIn K (.ref t.Ec) "fade"=some (some (.ref t.Ie))
 Si:Fun K "fade" "CarWay.fade" Mj t.Ie t.Jg
 Sw:mg "FootWay"=some (.ref t.Yb)
 cy:PySem.W.findIn K (.ref t.Yb) "__init__"=some (some (.ref t.Ld))
 ji:Fun K "__init__" "FootWay.__init__" yi t.Ld t.qe
 Ru:PySem.W.findIn K (.ref t.Yb) "ready"=some (some (.ref t.Yd))
 Ah:Fun K "ready" "FootWay.ready" gh t.Yd t.wf
 Wx:PySem.W.findIn K (.ref t.Yb) "fade"=some (some (.ref t.me))
 di:Fun K "fade" "FootWay.fade" Yh t.me t.Wf
 av:mg "TramWay"=some (.ref t.ac)
 iy:PySem.W.findIn K (.ref t.ac) "__init__"=some (some (.ref t.Kd))
 ei:Fun K "__init__" "TramWay.__init__" gi t.Kd t.pe
 ox:PySem.W.findIn K (.ref t.ac) "ready"=some (some (.ref t.Wd))
 oh:Fun K "ready" "TramWay.ready" mh t.Wd t.qf
 ay:PySem.W.findIn K (.ref t.ac) "fade"=some (some (.ref t.se))
 li:Fun K "fade" "TramWay.fade" vi t.se t.ag
 Qt:mg "Crossing"=some (.ref t.Hb)
 Px:PySem.W.findIn K (.ref t.Hb) "__init__"=some (some (.ref t.Ad))
 lh:Fun K "__init__" "Crossing.__init__" kh t.Ad t.ae
 Gu:PySem.W.findIn K (.ref t.Hb) "number"=some (some (.ref t.Yc))
 rg:Fun K "number" "Crossing.number" fg t.Yc t.Fd
 Mu:PySem.W.findIn K (.ref t.Hb) "called"=some (some (.ref t.ic))
 lg:Fun K "called" "Crossing.called" bg t.ic t.Jc
 uh:Cls K t.Gb
 Qz:Mk K t.Gb t.Xd
 mn:Fb K t.Gb "many"
 Tg:Fb K t.Gb "alones"
 qh:Fb K t.Gb "steps"
 wb:Cls K t.xb
 Ur:Mk K t.xb t.ld
 Cd:Fo K t.xb "ahead" t.Ub
 Xh:Fo K t.xb "has_more" t.Bc
 Is:Fo K t.xb "refuse" t.ee
 Ae:Fo K t.xb "take" t.yc
 Ef:Fo K t.xb "one_of" t.vc
 lc:Fo K t.xb "figures" t.Sb
 Gf:Fo K t.xb "finish" t.xc
 Rk:Fb K t.xb "row"
 ig:Fb K t.xb "told"
 Vd:Fb K t.xb "place"
 cI:Cls K t.Kj
 KB:Fb K t.Kj "kind"
 dC:Fb K t.Kj "name"
 kB:Fb K t.Kj "start"
 YD:Fb K t.Kj "end"
 TD:Fb K t.Kj "off"
 xB:Fb K t.Kj "near"
 fB:Fb K t.Kj "least"
 km:Cls K t.Ec
 iA:Mk K t.Ec t.Td
 bn:Fo K t.Ec "ready" t.re
 So:Fo K t.Ec "fade" t.Ie
 Ym:Fb K t.Ec "kind"
 Hm:Fb K t.Ec "name"
 xm:Fb K t.Ec "start"
 Zo:Fb K t.Ec "end"
 Xo:Fb K t.Ec "off"
 Lm:Fb K t.Ec "near"
 jm:Fb K t.Ec "least"
 rk:Cls K t.Yb
 Dv:Mk K t.Yb t.Ld
 im:Fo K t.Yb "ready" t.Yd
 Km:Fo K t.Yb "fade" t.me
 qm:Fb K t.Yb "kind"
 Sl:Fb K t.Yb "name"
 Lk:Fb K t.Yb "start"
 Vm:Fb K t.Yb "end"
 Nm:Fb K t.Yb "off"
 Pl:Fb K t.Yb "near"
 Gk:Fb K t.Yb "least"
 xk:Cls K t.ac
 Nw:Mk K t.ac t.Kd
 El:Fo K t.ac "ready" t.Wd
 jn:Fo K t.ac "fade" t.se
 cm:Fb K t.ac "kind"
 zl:Fb K t.ac "name"
 Kk:Fb K t.ac "start"
 Im:Fb K t.ac "end"
 Tm:Fb K t.ac "off"
 lm:Fb K t.ac "near"
 Qk:Fb K t.ac "least"
 zc:Cls K t.Hb
 Lu:Mk K t.Hb t.Ad
 ak:Fo K t.Hb "number" t.Yc
 Vc:Fo K t.Hb "called" t.ic
 Mf:Fb K t.Hb "places"
 Pg:Fb K t.Hb "ways"
 ef:Fb K t.Hb "numbers"
 oy:t.Kj ≠ t.Ec
 Yx:t.Kj ≠ t.Yb
 Xx:t.Kj ≠ t.ac
 qg:t.Ec ≠ t.Yb
 gg:t.Ec ≠ t.ac
 Nf:t.Yb ≠ t.ac
 sk:eI K t.Kj "__init__" t.je
 ax:mg "FIGURES"=some t.aq
 Gx:Qc (.str (Str.ofString "0123456789")) t.aq
 Rm:mg "LEAST_PLACES"=some t.si
 Wm:Qc (.int 2) t.si
 zx:mg "LETTERS"=some t.wp
 ix:Qc (.str (Str.ofString "abcdefghijklmnopqrstuvwxyz")) t.wp
 kn:mg "MOST_FIGURES"=some t.ii
 wn:Qc (.int 3) t.ii
 Hq:mg "MOST_LEAST"=some t.Bk
 nq:Qc (.int 60) t.Bk
 Pm:mg "MOST_LETTERS"=some t.ci
 sn:Qc (.int 8) t.ci
 Vr:mg "MOST_NEAR"=some t.Il
 gr:Qc (.int 30) t.Il
 qu:mg "MOST_OFF"=some t.Tn
 Vt:Qc (.int 30) t.Tn
 Yo:mg "MOST_PLACES"=some t.Bj
 Ao:Qc (.int 99) t.Bj
 Xq:mg "MOST_WAYS"=some t.Am
 lr:Qc (.int 12) t.Am
 QG:mg "all"=none
 yG:mg "bool"=none
 zg:mg "enumerate"=none
 CH:mg "int"=none
 lq:mg "isinstance"=none
 Vi:mg "len"=none
 up:mg "list"=none
 Iu:mg "max"=none
 yH:mg "min"=none
 vg:mg "range"=none
 BD:mg "str"=none
 XG:mg "zip"=none
 SE:∀ (s:Shared) (u:Value),BindsTo s t.Iz ⟨[u],[]⟩ [("_law_script",u)]
section
variable {w:World} {K:PySem.W.Frag} {mg:Str→Option Value} {t:Adr} (T:Txt w K mg t)
include T
theorem Txt.ut:bc K t.Uk ["places","way","place"] []:=T.Vk.binds fun _ _ _ _ _ _=>us3 fun _ _ _=>rfl
theorem Txt.zq:bc K t.Qf ["places","way","second"] []:=T.ah.binds fun _ _ _ _ _ _=>us3 fun _ _ _=>rfl
theorem Txt.kG:bc K t.ot ["crossing","one","other"] []:=T.Ww.binds fun _ _ _ _ _ _=>us3 fun _ _ _=>rfl
theorem Txt.jH:bc K t.Tz ["crossing","one","other"] []:=T.PB.binds fun _ _ _ _ _ _=>us3 fun _ _ _=>rfl
theorem Txt.Ai:bc K t.kf ["crossing","wants","size","begins"] []:=T.bf.binds fun _ _ _ _ _ _=>us4 fun _ _ _ _=>rfl
theorem Txt.QC:bc K t.yo ["text"] []:=T.Tr.binds fun _ _ _ _ _ _=>us1 fun _=>rfl
theorem Txt.Ek:bc K t.ue ["word","signs","most"] []:=T.Af.binds fun _ _ _ _ _ _=>us3 fun _ _ _=>rfl
theorem Txt.Er:bc K t.Eg ["word","most_figures"] []:=T.Bi.binds fun _ _ _ _ _ _=>us2 fun _ _=>rfl
theorem Txt.Vx:bc K t.ij ["word","low","high"] []:=T.xl.binds fun _ _ _ _ _ _=>us3 fun _ _ _=>rfl
theorem Txt.lw:bc K t.Lj ["word"] []:=T.rm.binds fun _ _ _ _ _ _=>us1 fun _=>rfl
theorem Txt.Lx:bc K t.mj ["text"] []:=T.am.binds fun _ _ _ _ _ _=>us1 fun _=>rfl
theorem Txt.Cr:bc K t.Mg ["reader"] []:=T.Mi.binds fun _ _ _ _ _ _=>us1 fun _=>rfl
theorem Txt.Hl:bc K t.Ud ["reader","ways"] []:=T.gf.binds fun _ _ _ _ _ _=>us2 fun _ _=>rfl
theorem Txt.Mt:bc K t.Ph ["reader","places","start"] []:=T.qk.binds fun _ _ _ _ _ _=>us3 fun _ _ _=>rfl
theorem Txt.Bt:bc K t.Qh ["sort","name","start","end","off","near","least"] []:=T.Sj.binds fun _ _ _ _ _ _=>us7 fun _ _ _ _ _ _ _=>rfl
theorem Txt.Nu:bc K t.Nh ["reader","places","ways"] []:=T.wk.binds fun _ _ _ _ _ _=>us3 fun _ _ _=>rfl
theorem Txt.Cl:bc K t.ce ["text"] []:=T.Ze.binds fun _ _ _ _ _ _=>us1 fun _=>rfl
theorem Txt.ub:bc K t.jd ["_law_script","_law_k","_law_many"] []:=T.pb.binds fun _ _ _ _ _ _=>us3 fun _ _ _=>rfl
theorem Txt.Eo:bc K t.Ue ["_law_script"] []:=T.Gg.binds fun _ _ _ _ _ _=>us1 fun _=>rfl
theorem Txt.yq:bc K t.Kf ["_law_script","_law_many"] []:=T.Zg.binds fun _ _ _ _ _ _=>us2 fun _ _=>rfl
theorem Txt.ur:bc K t.Fg ["_law_script","_law_many","_law_places_here"] []:=T.Fi.binds fun _ _ _ _ _ _=>us3 fun _ _ _=>rfl
theorem Txt.sr:bc K t.Lg ["_law_places_here","_law_ways_here"] []:=T.Ki.binds fun _ _ _ _ _ _=>us2 fun _ _=>rfl
theorem Txt.Po:bc K t.Je ["_law_one","_law_other","_law_places_here"] []:=T.Ng.binds fun _ _ _ _ _ _=>us3 fun _ _ _=>rfl
theorem Txt.Co:bc K t.Me ["_law_script","_law_ways_here"] []:=T.xg.binds fun _ _ _ _ _ _=>us2 fun _ _=>rfl
theorem Txt.fm:bc K t.jf ["_law_way","_law_turns"] []:=T.Hg.binds fun _ _ _ _ _ _=>us2 fun _ _=>rfl
theorem Txt.Uo:bc K t.Oe ["_law_script","_law_wanted_here"] []:=T.Ig.binds fun _ _ _ _ _ _=>us2 fun _ _=>rfl
theorem Txt.Bq:bc K t.zj ["_law_wanted_here","_law_places_here","_law_size","_law_begins_here"] []:=T.Hj.binds fun _ _ _ _ _ _=>us4 fun _ _ _ _=>rfl
theorem Txt.jo:bc K t.Ve ["self","crossing","wants"] []:=T.Zi.binds fun _ _ _ _ _ _=>us3 fun _ _ _=>rfl
theorem Txt.Ik:bc K t.Md ["self","row","told"] []:=T.Wg.binds fun _ _ _ _ _ _=>us3 fun _ _ _=>rfl
theorem Txt.Gd:bc K t.gc ["self"] []:=T.cg.binds fun _ _ _ _ _ _=>us1 fun _=>rfl
theorem Txt.Uh:bc K t.Uc ["self"] []:=T.He.binds fun _ _ _ _ _ _=>us1 fun _=>rfl
theorem Txt.Be:bc K t.Mc ["self","good"] []:=T.Ug.binds fun _ _ _ _ _ _=>us2 fun _ _=>rfl
theorem Txt.Hf:bc K t.Pc ["self","choices"] []:=T.Lf.binds fun _ _ _ _ _ _=>us2 fun _ _=>rfl
theorem Txt.kc:bc K t.jc ["self","low","high"] []:=T.af.binds fun _ _ _ _ _ _=>us3 fun _ _ _=>rfl
theorem Txt.Of:bc K t.Oc ["self"] []:=T.Rf.binds fun _ _ _ _ _ _=>us1 fun _=>rfl
theorem Txt.Qj:bc K t.Ye ["self","kind","name","start","end","off","near","least"] []:=T.Hn.binds fun _ _ _ _ _ _=>us8 fun _ _ _ _ _ _ _ _=>rfl
theorem Txt.Mo:bc K t.Re ["self","name","start","end","off","near","least"] []:=T.rj.binds fun _ _ _ _ _ _=>us7 fun _ _ _ _ _ _ _=>rfl
theorem Txt.Qm:bc K t.Yf ["self"] []:=T.xi.binds fun _ _ _ _ _ _=>us1 fun _=>rfl
theorem Txt.Ko:bc K t.Jg ["self"] []:=T.Si.binds fun _ _ _ _ _ _=>us1 fun _=>rfl
theorem Txt.rn:bc K t.qe ["self","name","start","end","off","near","least"] []:=T.ji.binds fun _ _ _ _ _ _=>us7 fun _ _ _ _ _ _ _=>rfl
theorem Txt.wm:bc K t.wf ["self"] []:=T.Ah.binds fun _ _ _ _ _ _=>us1 fun _=>rfl
theorem Txt.Mm:bc K t.Wf ["self"] []:=T.di.binds fun _ _ _ _ _ _=>us1 fun _=>rfl
theorem Txt.dn:bc K t.pe ["self","name","start","end","off","near","least"] []:=T.ei.binds fun _ _ _ _ _ _=>us7 fun _ _ _ _ _ _ _=>rfl
theorem Txt.gl:bc K t.qf ["self"] []:=T.oh.binds fun _ _ _ _ _ _=>us1 fun _=>rfl
theorem Txt.Sm:bc K t.ag ["self"] []:=T.li.binds fun _ _ _ _ _ _=>us1 fun _=>rfl
theorem Txt.om:bc K t.ae ["self","places","ways"] []:=T.lh.binds fun _ _ _ _ _ _=>us3 fun _ _ _=>rfl
theorem Txt.Tj:bc K t.Fd ["self","name"] []:=T.rg.binds fun _ _ _ _ _ _=>us2 fun _ _=>rfl
theorem Txt.Xc:bc K t.Jc ["self","name"] []:=T.lg.binds fun _ _ _ _ _ _=>us2 fun _ _=>rfl
end
noncomputable def fe (ns:List Int) (k m:Int):Int:=
 ((((if 0 < (ns.length:Int) then ns.getD (k % (ns.length:Int)).toNat 0 else 0) % 1000003 + 31 * k * k + 1) * 48271 % 999983 * 7919) % 524287) % m
theorem Fc (ns:List Int) (k:Int) {m:Int} (h:0 < m):0 ≤ fe ns k m:=Int.emod_nonneg _ (by omega)
theorem Cc (ns:List Int) (k:Int) {m:Int} (h:0 < m):fe ns k m < m:=Int.emod_lt_of_pos _ h
noncomputable def qc (K:PySem.W.Frag) (a:Addr) (ns:List Int):Sp:=fun vs H Q _=>∃ k m,vs=[.ref a,.int k,.int m]∧Sc K a ns H∧(0 ≤ k∧k < 1000000)∧0 < m∧Q (.int (fe ns k m)) H
section
variable {P:Program} {w:World} {K:PySem.W.Frag} {mg:Str→Option Value} {base:Heap} {t:Adr}
theorem Pj (T:Txt w K mg t) (a:Addr) (ns:List Int) (h63:ns.length ≤ 63):Lb P w K mg base CX0 1 t.gd t.jd ["_law_script","_law_k","_law_many"] (qc K a ns):=by
 refine T.pb.ok Bh (fun vs H Q E h=>?_) (fun cdv A outer s H vs Q E hr h=>?_)
 ·obtain ⟨k,m,rfl,_⟩:=h;rfl
 obtain ⟨k,m,rfl,S,⟨h0,h1⟩,hm,q⟩:=h
 refine ⟨_,(cb (Bb (i:=3) Bh.nd rfl (Or.inl rfl) (kt (Jb wv (Zb Vb rfl T.Vi uc (ab (pv 0) gb)) db (Ob _)) (Qb Dc (pv 0) (Db ve (pv 1) (Zb Vb rfl T.Vi uc (ab (pv 0) gb))) (fun _ _=>rfl)) db))
   (cb (Bb (i:=4) Bh.nd rfl (Or.inl rfl) (Db Rb (Db Rb (Db ve (pv 3) db) (Db pf (Db pf db (pv 1)) (pv 1))) db))
   (ib (Eb (Db ve (Db ve (Db pf (Db ve (Db pf (pv 4) db) db) db) db) (pv 2)))))),?_⟩
 (walk_at "RD")
 refine ⟨_,.inl S.seq,?_⟩
 rw [List.length_map]
 have hkk:(0:Int) ≤ k * k∧k * k < 1000000 * 1000000:=⟨Int.mul_nonneg h0 h0,Int.mul_lt_mul' (by omega) h1 h0 (by decide)⟩
 have fin:∀ i:Int,(0:Int) < 1000003∧VB 31 k∧VB (31 * k) k∧VB (i % 1000003 + 31 * k * k + 1) 48271∧(0:Int) < 999983∧VB ((i % 1000003 + 31 * k * k + 1) * 48271 % 999983) 7919∧(0:Int) < 524287∧0 < m:=by
  intro i
  refine ⟨by decide,.inl (by decide),.inr (by omega),.inr (by decide),by decide,.inr (by decide),by decide,hm⟩
 by_cases c:(0:Int) < (ns.length:Int)
 ·rw [if_pos (decide_eq_true c)]
  have hk:0 ≤ k % (ns.length:Int)∧k % (ns.length:Int) < (ns.length:Int):=⟨Int.emod_nonneg _ (by omega),Int.emod_lt_of_pos _ c⟩
  refine ⟨_,.inl S.seq,by rw [List.length_map];exact c,_,S.seq,?_⟩
  rw [List.length_map]
  have hj:(k % (ns.length:Int)).toNat < ns.length:=by omega
  refine ⟨.int ns[(k % (ns.length:Int)).toNat],?_,_,rfl,?_⟩
  ·have e:=yb (xs:=ns.map V.int) (j:=(k % (ns.length:Int)).toNat) (v:=.int ns[(k % (ns.length:Int)).toNat]) (by rw [List.getElem?_map,List.getElem?_eq_getElem hj] <;> rfl)
   rwa [Int.toNat_of_nonneg hk.1] at e
  ·obtain ⟨f1,f2,f3,f4,f5,f6,f7,f8⟩:=fin ns[(k % (ns.length:Int)).toNat]
   refine ⟨f1,f2,f3,f4,f5,f6,f7,f8,?_⟩
   have e:fe ns k m=(((ns[(k % (ns.length:Int)).toNat] % 1000003 + 31 * k * k + 1) * 48271 % 999983 * 7919) % 524287) % m:=by
    unfold fe
    rw [if_pos c,List.getD_eq_getElem?_getD,List.getElem?_eq_getElem hj]
    rfl
   rw [← e];exact q
 ·rw [if_neg (by simpa using c)]
  obtain ⟨f1,f2,f3,f4,f5,f6,f7,f8⟩:=fin 0
  refine ⟨f1,f2,f3,f4,f5,f6,f7,f8,?_⟩
  have e:fe ns k m=(((0 % 1000003 + 31 * k * k + 1) * 48271 % 999983 * 7919) % 524287) % m:=by
   unfold fe
   rw [if_neg c]
  rw [← e];exact q
end
theorem DG {w:Str}:w=Str.ofString "" ↔ w.length=0:=by
 constructor
 ·rintro rfl;decide +kernel
 ·intro h
  have e:w.cps=#[]:=Array.eq_empty_of_size_eq_zero h
  have e2:(Str.ofString "").cps=#[]:=by decide +kernel
  cases w
  cases h2:Str.ofString ""
  rw [h2] at e2
  simp only at e e2
  rw [e,e2]
noncomputable def inL (sg:Str) (c:Nat):Bool:=!(Builtin.Str.occurrences sg (Kq c) 0 sg.length 1).isEmpty
theorem Kr (sg:Str) (c:Nat):inL sg c=decide (c ∈ sg.cps.toList):=StrLaws.found_one sg c
noncomputable def made (w sg:Str) (m:Int):Bool:=if w=Str.ofString "" then false else if m < (w.length:Int) then false else w.cps.toList.all (inL sg)
noncomputable def ll:Sp:=fun vs H Q _=>∃ w sg m,vs=[.str w,.str sg,.int m]∧w.length ≤ 1000∧NoT H∧Q (.bl (made w sg m)) H
noncomputable def zz:Sp:=fun vs H Q _=>∃ w sg m,vs=[.str w,.str sg,.int m]∧w.length ≤ 1000∧∀ H',Xb H H'→Q (.bl (made w sg m)) H'
section
variable {P:Program} {w:World} {K:PySem.W.Frag} {mg:Str→Option Value} {base:Heap} {t:Adr}
theorem nv (T:Txt w K mg t):Lb P w K mg base CX0 1 t.we t.ue ["word","signs","most"] ll:=by
 refine Lb.forget (sp:=zz) ?_ fun vs H Q E h=>?_
 ·refine T.Af.ok Ho (fun vs H Q E h=>?_) (fun cdv A outer s H vs Q E hr h=>?_)
  ·obtain ⟨w,sg,m,rfl,_⟩:=h;rfl
  obtain ⟨w,sg,m,rfl,hz,q⟩:=h
  have hz':w.length ≤ sizeLine:=Nat.le_trans hz (by decide)
  refine ⟨_,(cb (Dd (PW.pt (Ct (Jb Tf (pv 0) pd (Ob _)) (Rp (Jb wv (Zb Up rfl T.Vi uc (ab (pv 0) gb)) (pv 2) (Ob _))))) (ib (Eb Xj)) Nb)
   (ib (Eb (Zb (sy rfl) rfl T.QG Nt (ab (df rfl (dF (pv 0)) (Zc (sc:=lb fh) rfl (by decide +kernel)) (N:=["sign","signs"]) (sel:=[none,some 1]) (Ed (M:=["word","signs","most"]) (by decide +kernel)) (Blk.of (fun _ _ _ _=>(Ib (i:=0) (Vh (N:=["sign","signs"]) (by decide +kernel) rfl) rfl (Or.inl rfl))) (fun _ _ _ _=>⟨_,ie,by first | rfl | (dsimp only [Cx.block];done) | (dsimp only [Cx.block];exact rfl)⟩) (fun _ _ _ _=>⟨_,(Nd Tw (pv 0) (pv 1) (by with_unfolding_all rfl)),by first | rfl | (dsimp only [Cx.block];done) | (dsimp only [Cx.block];exact rfl)⟩))) gb))))),?_⟩
  (walk_at "RD")
  refine Mb (decide (w=Str.ofString "") || decide (m < (w.length:Int))) (fun Q hQ=>?_) (fun hb=>?_) (fun hb=>?_)
  ·(walk_at "RD")
   by_cases c:w=Str.ofString ""
   ·rw [if_pos (decide_eq_true c)]
    rw [decide_eq_true c,Bool.true_or] at hQ
    exact hQ
   ·rw [if_neg (by simpa using c)]
    rw [decide_eq_false c,Bool.false_or] at hQ
    exact ⟨hz',hQ⟩
  ·(walk_at "RD")
   have e:made w sg m=false:=by
    unfold made
    simp only [Bool.or_eq_true,decide_eq_true_eq] at hb
    by_cases c:w=Str.ofString ""
    ·rw [if_pos c]
    ·rw [if_neg c,if_pos (hb.resolve_left c)]
   have:=q H (Xb.refl H)
   rw [e] at this
   exact this
  ·(walk_at "RD")
   have e:made w sg m=w.cps.toList.all (inL sg):=by
    unfold made
    simp only [Bool.or_eq_false_iff,decide_eq_false_iff_not] at hb
    rw [if_neg hb.1,if_neg hb.2]
   refine Wc.its_map (fun x=>match x with | .str y=>.bl (!(Builtin.Str.occurrences sg y 0 sg.length 1).isEmpty) | _=>.non) (by rw [jj];exact hz') (fun i x N hx hN=>?_) (fun p hp=>?_)
   ·unfold Vg at hx
    rw [List.getElem?_map] at hx
    cases hc:w.cps.toList[i]? with
    | none=>rw [hc] at hx;cases hx
    | some c=>
     rw [hc] at hx
     have hx':V.str (Kq c)=x:=Option.some.inj hx
     subst hx'
     (walk_at "RD")
     exact ⟨Sub.name,hN⟩
   ·refine ⟨p,rfl,w.cps.toList.map (inL sg),SqL.of ?_,?_⟩
    ·rw [fb]
     unfold Vg
     rw [List.map_map,List.map_map]
     rfl
    ·have:=q (upd H p (.lst (List.map (fun x=>match x with | .str y=>.bl (!(Builtin.Str.occurrences sg y 0 sg.length 1).isEmpty) | _=>.non) (Vg w)))) (jb hp)
     rw [e] at this
     rw [List.all_map]
     exact this
 ·obtain ⟨w,sg,m,e,hz,nt,q⟩:=h
  exact ⟨nt,w,sg,m,e,hz,fun H' sm=>⟨sm,q⟩⟩
end
noncomputable abbrev kD:Str:=Str.ofString "0123456789"
noncomputable def Pk (c:Nat):Bool:=decide (48 ≤ c∧c ≤ 57)
theorem cx:kD.cps.toList=[48,49,50,51,52,53,54,55,56,57]:=by decide +kernel
theorem Rz (c:Nat):inL kD c=Pk c:=by
 rw [Kr,cx]
 unfold Pk
 rw [Bool.eq_iff_iff]
 simp only [decide_eq_true_eq,List.mem_cons,List.not_mem_nil,or_false]
 omega
noncomputable abbrev cs (w:Str):List Nat:=w.cps.toList
theorem Dw (w:Str):(cs w).length=w.length:=by simp [cs,Str.length]
noncomputable def okB (w:Str):Bool:=decide (1 ≤ (cs w).length) && decide ((cs w).length ≤ 3) && (cs w).all Pk && (decide ((cs w).length ≤ 1) || decide ((cs w).headD 0 ≠ 48))
noncomputable abbrev val (w:Str):Int:=((NumText.digitsVal (cs w):Nat):Int)
noncomputable def gy (w:Str) (lo hi:Int):V:=if okB w && !(decide (val w < lo) || decide (hi < val w)) then .int (val w) else .non
theorem Tv {w:Str} {c:Nat}:w=⟨#[c]⟩↔cs w=[c]:=by
 constructor
 ·rintro rfl;rfl
 ·intro h
  cases w with
  | mk a=>
   have e:a=#[c]:=Array.toList_inj.mp h
   rw [e]
theorem ir:Str.ofString "0"=⟨#[48]⟩:=by decide +kernel
theorem vq (w:Str):made w kD 3=(decide (1 ≤ (cs w).length) && decide ((cs w).length ≤ 3) && (cs w).all Pk):=by
 unfold made
 have e:(inL kD)=Pk:=funext Rz
 rw [e]
 by_cases h1:w=Str.ofString ""
 ·have h2:=DG.mp h1
  rw [if_pos h1,Dw,h2];rfl
 ·have h2:¬ w.length=0:=fun z=>h1 (DG.mpr z)
  rw [if_neg h1,Dw]
  by_cases h3:(3:Int) < (w.length:Int)
  ·rw [if_pos h3,decide_eq_false (show ¬ w.length ≤ 3 by omega),Bool.and_false,Bool.false_and]
  ·rw [if_neg h3,decide_eq_true (show 1 ≤ w.length by omega),decide_eq_true (show w.length ≤ 3 by omega)];rfl
theorem zo {l:List Nat} (h:l.all Pk=true):NumText.AllDigits l:=fun c hc=>by
 have:=List.all_eq_true.mp h c hc
 simpa [Pk] using this
theorem tF {w:Str} (h:okB w=true):(1 ≤ (cs w).length∧(cs w).length ≤ 3)∧(cs w).all Pk=true:=by
 unfold okB at h
 simp only [Bool.and_eq_true,decide_eq_true_eq] at h
 exact h.1
noncomputable def Yu:Sp:=fun vs H Q _=>∃ w,vs=[.str w,.int 3]∧w.length ≤ 1000∧NoT H∧Q (.bl (okB w)) H
noncomputable def ZA:Sp:=fun vs H Q _=>∃ w lo hi,vs=[.str w,.int lo,.int hi]∧w.length ≤ 1000∧NoT H∧Q (gy w lo hi) H
section
variable {P:Program} {w:World} {K:PySem.W.Frag} {mg:Str→Option Value} {base:Heap} {t:Adr}
theorem SF (T:Txt w K mg t):Lb P w K mg base CX0 2 t.yg t.Eg ["word","most_figures"] Yu:=by
 have G_is_made_of:Lb P w K mg base CX0 1 t.we t.ue ["word","signs","most"] ll:=nv T
 refine T.Bi.ok Wp (fun vs H Q E h=>?_) (fun cdv A outer s H vs Q E hr h=>?_)
 ·obtain ⟨w,rfl,_⟩:=h;rfl
 obtain ⟨w,rfl,hz,nt,q⟩:=h
 have hz':w.length ≤ sizeLine:=Nat.le_trans hz (by decide)
 refine ⟨_,(cb (Dd (pq (em (vb G_is_made_of hr rfl T.Ak T.Af.kp T.Ek .nil Cb (ab (pv 0) (ab (Sf rfl T.ax T.Gx) (ab (pv 1) gb)))))) (ib (Eb Xj)) Nb)
   (ib (Eb (lF (Nd Tf (pv 0) pd (Ob _)) (js (Nd Lp (Qb kx (pv 0) db (fun _ _=>rfl)) pd (Ob _))))))),?_⟩
 refine Mb (!made w kD 3) (fun Q hQ=>?_) (fun hb=>?_) (fun hb=>?_)
 ·(walk_at "RD"; repeat (simp only [ll];walk_at "RD"))
  exact ⟨hz,nt,hQ⟩
 ·(walk_at "RD")
  have e:okB w=false:=by
   have hb':made w kD 3=false:=by simpa using hb
   rw [vq] at hb'
   unfold okB
   rw [hb'];rfl
  rw [e] at q
  exact q
 ·have hb':made w kD 3=true:=by simpa using hb
  rw [vq] at hb'
  rw [qd]
  dsimp only
  refine QD (.bl (okB w)) (fun Q hQ=>?_) ?_
  case refine_2=>exact q
  (walk_at "RD")
  have hb2:(1 ≤ (cs w).length∧(cs w).length ≤ 3)∧(cs w).all Pk=true:=by
   simpa only [Bool.and_eq_true,decide_eq_true_eq] using hb'
  obtain ⟨c,r,hcr⟩:∃ c r,cs w=c :: r:=by
   cases h:cs w with
   | nil=>rw [h] at hb2;exact absurd hb2.1.1 (by decide)
   | cons c r=>exact ⟨c,r,rfl⟩
  have ok:okB w=(decide ((cs w).length ≤ 1) || decide ((cs w).headD 0 ≠ 48)):=by
   unfold okB
   rw [hb',Bool.true_and]
  by_cases c0:w=Str.ofString "0"
  ·rw [if_pos (decide_eq_true c0)]
   have e:cs w=[48]:=by rw [c0,ir]
   rw [ok,e] at hQ
   exact hQ
  ·rw [if_neg (by simpa using c0)]
   refine ⟨hz',c,?_,?_⟩
   ·have:=yb (xs:=cs w) (j:=0) (v:=c) (by rw [hcr];rfl)
    exact this
   ·have e2:decide ((⟨#[c]⟩:Str)=Str.ofString "0")=decide (c=48):=by
     rw [ir]
     by_cases h48:c=48
     ·rw [h48];simp
     ·rw [decide_eq_false h48,decide_eq_false]
      intro z
      have z2:=Tv.mp z
      exact h48 (List.cons.inj z2).1
    rw [e2]
    have e3:okB w = !decide (c=48):=by
     rw [ok,hcr]
     show (decide ((c :: r).length ≤ 1) || decide (c ≠ 48))=_
     by_cases h48:c=48
     ·have hr:r ≠ []:=fun z=>c0 (by rw [ir];exact Tv.mpr (by rw [hcr,z,h48]))
      have:¬ (c :: r).length ≤ 1:=by
       cases r with
       | nil=>exact absurd rfl hr
       | cons d r=>simp
      rw [decide_eq_false this,h48];rfl
     ·rw [decide_eq_true h48,Bool.or_true,decide_eq_false h48];rfl
    rw [← e3]
    exact hQ
theorem gE (T:Txt w K mg t):Lb P w K mg base CX0 3 t.xj t.ij ["word","low","high"] ZA:=by
 have G_is_number:Lb P w K mg base CX0 2 t.yg t.Eg ["word","most_figures"] Yu:=SF T
 refine T.xl.ok Fn (fun vs H Q E h=>?_) (fun cdv A outer s H vs Q E hr h=>?_)
 ·obtain ⟨w,lo,hi,rfl,_⟩:=h;rfl
 obtain ⟨w,lo,hi,rfl,hz,nt,q⟩:=h
 refine ⟨_,(cb (Dd (pq (em (vb G_is_number hr rfl T.dr T.Bi.kp T.Er .nil Cb (ab (pv 0) (ab (Sf rfl T.kn T.wn) gb))))) (ib (Eb dw)) Nb)
   (cb (Bb (i:=3) Fn.nd rfl (Or.inl rfl) (de Fx rfl T.CH Au (ab (pv 0) gb)))
   (cb (Dd (PW.pt (Ct (Jb Lq (pv 3) (pv 1) (Ob _)) (Rp (Jb wv (pv 3) (pv 2) (Ob _))))) (ib (Eb dw)) Nb)
   (ib (Eb (pv 3)))))),?_⟩
 refine Mb (!okB w) (fun Q hQ=>?_) (fun hb=>?_) (fun hb=>?_)
 ·(walk_at "RD"; repeat (simp only [Yu];walk_at "RD"))
  exact ⟨hz,nt,hQ⟩
 ·(walk_at "RD")
  have hb':okB w=false:=by simpa using hb
  have e:gy w lo hi=.non:=by unfold gy;rw [hb'];rfl
  rw [e] at q;exact q
 ·have hb':okB w=true:=by simpa using hb
  have h3:(1 ≤ (cs w).length∧(cs w).length ≤ 3)∧(cs w).all Pk=true:=by
   have:=hb'
   unfold okB at this
   simp only [Bool.and_eq_true,decide_eq_true_eq] at this
   exact this.1
  have hl:=Dw w
  have hi':intText? w=some (val w):=intText_digits (zo h3.2) (fun z=>by have z':cs w=[]:=z;rw [z'] at h3;exact absurd h3.1.1 (by decide)) (by omega)
  (walk_at "RD")
  refine ⟨val w,hi',by omega,?_⟩
  refine Mb (decide (val w < lo) || decide (hi < val w)) (fun Q hQ=>?_) (fun hc=>?_) (fun hc=>?_)
  ·(walk_at "RD")
   by_cases c:val w < lo
   ·rw [if_pos (decide_eq_true c)]
    rw [decide_eq_true c,Bool.true_or] at hQ
    exact hQ
   ·rw [if_neg (by simpa using c)]
    rw [decide_eq_false c,Bool.false_or] at hQ
    exact hQ
  ·(walk_at "RD")
   have e:gy w lo hi=.non:=by unfold gy;rw [hb',hc];rfl
   rw [e] at q;exact q
  ·(walk_at "RD")
   have e:gy w lo hi=.int (val w):=by unfold gy;rw [hb',hc];rfl
   rw [e] at q;exact q
end
theorem Em {n:Nat} (h:n < 1000):n.log2 < 1920:=by
 by_cases h0:n=0
 ·subst h0;decide
 ·rw [Nat.log2_lt h0]
  exact Nat.lt_of_lt_of_le h (Nat.le_trans (show 1000 ≤ 2 ^ 10 by decide) (Nat.pow_le_pow_right (by decide) (by decide)))
theorem ly:∀ n,n < 1000→(Nat.toDigits 10 n).length ≤ 3:=by decide +kernel
theorem oC {n:Int} (h0:0 ≤ n) (h1:n ≤ 999):(Str.ofString (toString n)).length ≤ 3:=by
 have e:=PySem.W.KIN.signs_num n.toNat
 rw [Int.toNat_of_nonneg h0] at e
 have l:(Str.ofString (toString n)).length=(Str.ofString (toString n)).cps.toList.length:=by simp [Str.length]
 rw [l,e,List.length_map]
 exact ly _ (by omega)
noncomputable abbrev Vf:Str:=Str.ofString "abcdefghijklmnopqrstuvwxyz"
noncomputable def Gv:Sp:=fun vs H Q _=>∃ w,vs=[.str w]∧w.length ≤ 1000∧NoT H∧Q (.bl (made w Vf 8)) H
section
variable {P:Program} {w:World} {K:PySem.W.Frag} {mg:Str→Option Value} {base:Heap} {t:Adr}
theorem SD (T:Txt w K mg t):Lb P w K mg base CX0 2 t.gj t.Lj ["word"] Gv:=by
 have G_is_made_of:Lb P w K mg base CX0 1 t.we t.ue ["word","signs","most"] ll:=nv T
 refine T.rm.ok Hu (fun vs H Q E h=>?_) (fun cdv A outer s H vs Q E hr h=>?_)
 ·obtain ⟨w,rfl,_⟩:=h;rfl
 obtain ⟨w,rfl,hz,nt,q⟩:=h
 refine ⟨_,(ib (Eb (vb G_is_made_of hr rfl T.Ak T.Af.kp T.Ek .nil Cb (ab (pv 0) (ab (Sf rfl T.zx T.ix) (ab (Sf rfl T.Pm T.sn) gb)))))),?_⟩
 (walk_at "RD"; repeat (simp only [ll];walk_at "RD"))
 exact ⟨hz,nt,q⟩
end
noncomputable abbrev nl:Str:=Str.ofString "\n"
noncomputable abbrev bk:Str:=Str.ofString " "
theorem vH:nl=⟨#[10]⟩:=by decide +kernel
theorem OE:bk=⟨#[32]⟩:=by decide +kernel
noncomputable def Sg (x:Str):List (List Str):=(Txt.split x nl).map fun r=>Txt.split r bk
theorem Bn:∀ {ys:List Str} {y:Str},y ∈ ys→y.length ≤ (ys.map (·.length)).sum
 | [],_,h=>nomatch h
 | a :: r,y,h=>by
  rw [List.map_cons,List.sum_cons]
  rcases List.mem_cons.mp h with rfl | h
  ·omega
  ·have:=Bn h;omega
theorem WB {x y r:Str} (hy:1 ≤ y.length) (h:r ∈ Txt.split x y):r.length ≤ x.length + 1:=by
 have h1:=PyProof.Rows.split_weight x y hy
 have h2:=Bn h
 omega
theorem Yl {x y:Str} (hy:1 ≤ y.length):(Txt.split x y).length ≤ x.length + 1:=by
 have h1:=PyProof.Rows.split_weight x y hy
 omega
theorem By (x y:Str):Txt.split x y ≠ []:=by
 unfold Txt.split
 split
 ·simp
 ·split
  ·simp
  ·rw [StrLaws.partsBetween_eq]
   obtain ⟨p,r,e⟩:=StrLaws.partsFrom_ne x y.length 0 (Builtin.Str.occurrences x y 0 x.length (x.length + 1))
   rw [e];simp
noncomputable def LL (H0 H:Hp) (p:Addr) (rows:List (List Str)):Prop:=∃ qs:List Addr,H p=some (.lst (qs.map V.ref))∧H0 p=none∧p ∉ qs∧qs.length=rows.length∧∀ (i:Nat) (q:Addr) (r:List Str),qs[i]? = some q→rows[i]? = some r→H q=some (.lst (nc r))∧H0 q=none
noncomputable def Bs:Sp:=fun vs H Q _=>∃ x,vs=[.str x]∧x.length ≤ 20000∧NoT H∧∀ p H',Xb H H'→NoT H'→LL H H' p (Sg x)→Q (.ref p) H'
theorem Zs:nl.length=1:=by decide +kernel
theorem tt:bk.length=1:=by decide +kernel
section
variable {P:Program} {w:World} {K:PySem.W.Frag} {mg:Str→Option Value} {base:Heap} {t:Adr}
theorem Kz (T:Txt w K mg t):Lb P w K mg base CX0 1 t.oo t.yo ["text"] Bs:=by
 refine T.Tr.ok Gz (fun vs H Q E h=>?_) (fun cdv A outer s H vs Q E hr h=>?_)
 ·obtain ⟨x,rfl,_⟩:=h;rfl
 obtain ⟨x,rfl,hz,nt,q⟩:=h
 have hzz:∀ n:Nat,n ≤ 40000→n ≤ sizeLine:=fun n h=>Nat.le_trans h (by decide)
 refine ⟨_,(ib (Eb (df rfl (ff (Ol PySem.F.plainAttrs_str PySem.F.slot_str_split PySem.F.type_str_split Ms (pv 0) (ab pd gb))) (Zc (sc:=lb Mr) rfl (by decide +kernel)) (N:=["row"]) (sel:=[none]) (Ed (M:=["text"]) (by decide +kernel)) (Blk.of (fun _ _ _ _=>(Ib (i:=0) (Vh (N:=["row"]) (by decide +kernel) rfl) rfl (Or.inl rfl))) (fun _ _ _ _=>⟨_,ie,by first | rfl | (dsimp only [Cx.block];done) | (dsimp only [Cx.block];exact rfl)⟩) (fun _ _ _ _=>⟨_,(Ol PySem.F.plainAttrs_str PySem.F.slot_str_split PySem.F.type_str_split Ms (pv 0) (ab pd gb)),by first | rfl | (dsimp only [Cx.block];done) | (dsimp only [Cx.block];exact rfl)⟩))))),?_⟩
 (walk_at "RD")
 have hy:1 ≤ nl.length:=by rw [Zs];exact Nat.le_refl _
 have hy2:1 ≤ bk.length:=by rw [tt];exact Nat.le_refl _
 have hs:=Yl (x:=x) hy
 have hs':(nc (Txt.split x nl)).length ≤ sizeLine:=by unfold nc;rw [List.length_map];exact hzz _ (by omega)
 refine ⟨by rw [Zs];decide,hzz _ (by omega),hzz _ (show (Txt.split x nl).length ≤ 40000 by omega),fun p hp=>⟨⟨_,SqL.of fb⟩,?_⟩⟩
 refine Wc.list_mk (xs:=nc (Txt.split x nl)) (fun v=>match v with | .str r=>.lst (nc (Txt.split r bk)) | _=>.lst []) (SqL.of fb) hs' (fun v=>by cases v <;> rfl) (fun i v H1 N hx sm nt1 hN=>?_) (fun qs H1 sm nt1 hl al p2 hp2=>?_)
 ·unfold nc at hx
  rw [List.getElem?_map] at hx
  cases hr:(Txt.split x nl)[i]? with
  | none=>rw [hr] at hx;cases hx
  | some r=>
   rw [hr] at hx
   have e:=Option.some.inj hx
   subst e
   have hm:=WB hy (List.mem_of_getElem? hr)
   have hs2:=Yl (x:=r) hy2
   (walk_at "RD")
   exact ⟨Sub.name,by rw [tt];decide,hzz _ (by omega),hzz _ (show (Txt.split r bk).length ≤ 40000 by omega),hN⟩
 ·have sm0:Xb H H1:=(jb hp).trans sm
  refine q _ _ (sm0.updN (sm0.free hp2)) ((nt1 (nt.upd)).upd) ⟨qs,fb,sm0.free hp2,fun hm=>?_,?_,fun i q' r h1 h2=>?_⟩
  ·obtain ⟨j,hj,e⟩:=List.getElem_of_mem hm
   have hj2:j < (nc (Txt.split x nl)).length:=by omega
   have:=al j p2 _ (by rw [List.getElem?_eq_getElem hj,e]) (List.getElem?_eq_getElem hj2)
   rw [hp2] at this
   cases this.1
  ·rw [hl];unfold Sg nc;rw [List.length_map,List.length_map]
  ·unfold Sg at h2
   rw [List.getElem?_map] at h2
   cases hr:(Txt.split x nl)[i]? with
   | none=>rw [hr] at h2;cases h2
   | some r0=>
    rw [hr] at h2
    have e:=Option.some.inj h2
    subst e
    have z:=al i q' (.str r0) h1 (by unfold nc;rw [List.getElem?_map,hr];rfl)
    refine ⟨by rw [qb (zb z.1 hp2)];exact z.1,?_⟩
    have:=z.2
    by_cases hq:q'=p
    ·rw [hq];exact hp
    ·rwa [qb hq] at this
end
end My
namespace My
open PySem L2
structure WD where
 k:Nat
 name:Str
 start:Int
 fin:Int
 off:Int
 near:Int
 least:Int
noncomputable def ad:Nat→Str
 | 0=>Str.ofString "car"
 | 1=>Str.ofString "foot"
 | _=>Str.ofString "tram"
noncomputable def Adr.cw (t:Adr):Nat→Addr
 | 0=>t.Ec
 | 1=>t.Yb
 | _=>t.ac
noncomputable def cn (d:WD):List (Str × V):=[(Str.ofString "kind",.str (ad d.k)),(Str.ofString "name",.str d.name),(Str.ofString "start",.int d.start),(Str.ofString "end",.int d.fin),(Str.ofString "off",.int d.off),(Str.ofString "near",.int d.near),(Str.ofString "least",.int d.least)]
noncomputable abbrev Zm:List Str:=[Str.ofString "kind",Str.ofString "name",Str.ofString "start",Str.ofString "end",Str.ofString "off",Str.ofString "near",Str.ofString "least"]
theorem yn (d:WD):(cn d).map (·.1)=Zm:=rfl
noncomputable def Bd (t:Adr) (H:Hp) (p:Addr) (d:WD):Prop:=d.k < 3∧∃ dx,H p=some (.ins (t.cw d.k) dx (cn d))
theorem Bd.same {t:Adr} {H H':Hp} {p:Addr} {d:WD} (h:Bd t H p d) (s:Xb H H'):Bd t H' p d:=⟨h.1,h.2.imp fun dx e=>s _ _ e⟩
noncomputable def isW (t:Adr) (C:Addr):Prop:=∃ k,k < 3∧C=t.cw k
noncomputable def Eh (d:WD):Int:=match d.k with | 0=>1 | 1=>0 | _=>2
noncomputable def Fl (d:WD):Int:=match d.k with | 0=>2 | 1=>d.off | _=>1
section
variable {w:World} {K:PySem.W.Frag} {mg:Str→Option Value} {t:Adr}
theorem Txt.clw (T:Txt w K mg t):∀ k,Cls K (t.cw k)
 | 0=>T.km
 | 1=>T.rk
 | _ + 2=>T.xk
theorem Txt.naw (T:Txt w K mg t) {f:Str} (hf:f ∈ Zm):∀ k,Fb K (t.cw k) f:=by
 intro k
 simp only [Zm,List.mem_cons,List.not_mem_nil,or_false] at hf
 rcases hf with rfl | rfl | rfl | rfl | rfl | rfl | rfl
 ·match k with
  | 0=>exact T.Ym
  | 1=>exact T.qm
  | _ + 2=>exact T.cm
 ·match k with
  | 0=>exact T.Hm
  | 1=>exact T.Sl
  | _ + 2=>exact T.zl
 ·match k with
  | 0=>exact T.xm
  | 1=>exact T.Lk
  | _ + 2=>exact T.Kk
 ·match k with
  | 0=>exact T.Zo
  | 1=>exact T.Vm
  | _ + 2=>exact T.Im
 ·match k with
  | 0=>exact T.Xo
  | 1=>exact T.Nm
  | _ + 2=>exact T.Tm
 ·match k with
  | 0=>exact T.Lm
  | 1=>exact T.Pl
  | _ + 2=>exact T.lm
 ·match k with
  | 0=>exact T.jm
  | 1=>exact T.Gk
  | _ + 2=>exact T.Qk
theorem Txt.cw_inj (T:Txt w K mg t) {j k:Nat} (hj:j < 3) (hk:k < 3) (e:t.cw j=t.cw k):j=k:=by
 match j,k,hj,hk with
 | 0,0,_,_=>rfl
 | 0,1,_,_=>exact absurd e T.qg
 | 0,2,_,_=>exact absurd e T.gg
 | 1,0,_,_=>exact absurd e.symm T.qg
 | 1,1,_,_=>rfl
 | 1,2,_,_=>exact absurd e T.Nf
 | 2,0,_,_=>exact absurd e.symm T.gg
 | 2,1,_,_=>exact absurd e.symm T.Nf
 | 2,2,_,_=>rfl
 | j + 3,_,h,_=>omega
 | _,k + 3,_,h=>omega
theorem Bd.fld (T:Txt w K mg t) {H:Hp} {p:Addr} {d:WD} (h:Bd t H p d) {f:Str} {v:V} (i:Nat) (hi:Zm.findIdx? (· == f)=some i) (hv:(cn d)[i]? = some (f,v)):Ci K H p f v:=by
 obtain ⟨_,dx,e⟩:=h
 have hm:f ∈ Zm:=by
  obtain ⟨hlt,h1,_⟩:=List.findIdx?_eq_some_iff_getElem.mp hi
  have:Zm[i]=f:=by simpa using h1
  rw [← this];exact List.getElem_mem hlt
 exact ⟨_,dx,_,e,T.clw _,T.naw hm _,Jd Zm i (yn d) hi hv⟩
theorem Bd.f_name (T:Txt w K mg t) {H:Hp} {p:Addr} {d:WD} (h:Bd t H p d):Ci K H p (Str.ofString "name") (.str d.name):=h.fld T 1 (by decide +kernel) rfl
theorem Bd.f_start (T:Txt w K mg t) {H:Hp} {p:Addr} {d:WD} (h:Bd t H p d):Ci K H p (Str.ofString "start") (.int d.start):=h.fld T 2 (by decide +kernel) rfl
theorem Bd.f_end (T:Txt w K mg t) {H:Hp} {p:Addr} {d:WD} (h:Bd t H p d):Ci K H p (Str.ofString "end") (.int d.fin):=h.fld T 3 (by decide +kernel) rfl
theorem Bd.f_off (T:Txt w K mg t) {H:Hp} {p:Addr} {d:WD} (h:Bd t H p d):Ci K H p (Str.ofString "off") (.int d.off):=h.fld T 4 (by decide +kernel) rfl
theorem Bd.f_near (T:Txt w K mg t) {H:Hp} {p:Addr} {d:WD} (h:Bd t H p d):Ci K H p (Str.ofString "near") (.int d.near):=h.fld T 5 (by decide +kernel) rfl
end
noncomputable def wo (t:Adr):Sp:=fun vs H Q _=>∃ (p dx:Addr) (d:WD),vs=[.ref p,.str (ad d.k),.str d.name,.int d.start,.int d.fin,.int d.off,.int d.near,.int d.least]∧d.k < 3∧H p=some (.ins (t.cw d.k) dx [])∧Q .non (upd H p (.ins (t.cw d.k) dx (cn d)))
noncomputable def Jh (t:Adr) (k:Nat):Sp:=fun vs H Q _=>∃ (p dx:Addr) (d:WD),vs=[.ref p,.str d.name,.int d.start,.int d.fin,.int d.off,.int d.near,.int d.least]∧d.k=k∧H p=some (.ins (t.cw d.k) dx [])∧Q .non (upd H p (.ins (t.cw d.k) dx (cn d)))
section
variable {P:Program} {w:World} {K:PySem.W.Frag} {mg:Str→Option Value} {base:Heap} {t:Adr}
theorem Dr (T:Txt w K mg t):Lb P w K mg base CX0 1 t.je t.Ye ["self","kind","name","start","end","off","near","least"] (wo t):=by
 refine T.Hn.ok yl (fun vs H Q E h=>?_) (fun cdv A outer s H vs Q E hr h=>?_)
 ·obtain ⟨p,dx,d,rfl,_⟩:=h;rfl
 obtain ⟨p,dx,d,rfl,hk,hp,q⟩:=h
 refine ⟨_,(cb (De (pv 0) (pv 1) rfl)
   (cb (De (pv 0) (pv 2) rfl)
   (cb (De (pv 0) (pv 3) rfl)
   (cb (De (pv 0) (pv 4) rfl)
   (cb (De (pv 0) (pv 5) rfl)
   (cb (De (pv 0) (pv 6) rfl)
   (ib (De (pv 0) (pv 7) rfl)))))))),?_⟩
 (walk_at "RD")
 have na:∀ {f:Str},f ∈ Zm→Fb K (t.cw d.k) f:=fun hf=>T.naw hf d.k
 refine ⟨_,_,_,hp,T.clw _,na (by decide +kernel),by decide,?_⟩
 refine ⟨_,_,_,fb,T.clw _,na (by decide +kernel),Hk (n:=999) (by decide),?_⟩
 refine ⟨_,_,_,fb,T.clw _,na (by decide +kernel),Hk (n:=999) (Hk (n:=998) (by decide)),?_⟩
 refine ⟨_,_,_,fb,T.clw _,na (by decide +kernel),Hk (n:=999) (Hk (n:=998) (Hk (n:=997) (by decide))),?_⟩
 refine ⟨_,_,_,fb,T.clw _,na (by decide +kernel),Hk (n:=999) (Hk (n:=998) (Hk (n:=997) (Hk (n:=996) (by decide)))),?_⟩
 refine ⟨_,_,_,fb,T.clw _,na (by decide +kernel),Hk (n:=999) (Hk (n:=998) (Hk (n:=997) (Hk (n:=996) (Hk (n:=995) (by decide))))),?_⟩
 refine ⟨_,_,_,fb,T.clw _,na (by decide +kernel),Hk (n:=999) (Hk (n:=998) (Hk (n:=997) (Hk (n:=996) (Hk (n:=995) (Hk (n:=994) (by decide)))))),?_⟩
 simp only [Hi]
 rw [show eg (Str.ofString "kind") (V.str (ad d.k)) ([]:List (Str × V))=[(Str.ofString "kind",V.str (ad d.k))] from ed [] rfl (by decide +kernel),
  show eg (Str.ofString "name") (V.str d.name) ([(Str.ofString "kind",V.str (ad d.k))]:List (Str × V))=[(Str.ofString "kind",V.str (ad d.k)),(Str.ofString "name",V.str d.name)] from ed [Str.ofString "kind"] rfl (by decide +kernel),
  show eg (Str.ofString "start") (V.int d.start) ([(Str.ofString "kind",V.str (ad d.k)),(Str.ofString "name",V.str d.name)]:List (Str × V))=[(Str.ofString "kind",V.str (ad d.k)),(Str.ofString "name",V.str d.name),(Str.ofString "start",V.int d.start)] from ed [Str.ofString "kind",Str.ofString "name"] rfl (by decide +kernel),
  show eg (Str.ofString "end") (V.int d.fin) ([(Str.ofString "kind",V.str (ad d.k)),(Str.ofString "name",V.str d.name),(Str.ofString "start",V.int d.start)]:List (Str × V))=[(Str.ofString "kind",V.str (ad d.k)),(Str.ofString "name",V.str d.name),(Str.ofString "start",V.int d.start),(Str.ofString "end",V.int d.fin)] from ed [Str.ofString "kind",Str.ofString "name",Str.ofString "start"] rfl (by decide +kernel),
  show eg (Str.ofString "off") (V.int d.off) ([(Str.ofString "kind",V.str (ad d.k)),(Str.ofString "name",V.str d.name),(Str.ofString "start",V.int d.start),(Str.ofString "end",V.int d.fin)]:List (Str × V))=[(Str.ofString "kind",V.str (ad d.k)),(Str.ofString "name",V.str d.name),(Str.ofString "start",V.int d.start),(Str.ofString "end",V.int d.fin),(Str.ofString "off",V.int d.off)] from ed [Str.ofString "kind",Str.ofString "name",Str.ofString "start",Str.ofString "end"] rfl (by decide +kernel),
  show eg (Str.ofString "near") (V.int d.near) ([(Str.ofString "kind",V.str (ad d.k)),(Str.ofString "name",V.str d.name),(Str.ofString "start",V.int d.start),(Str.ofString "end",V.int d.fin),(Str.ofString "off",V.int d.off)]:List (Str × V))=[(Str.ofString "kind",V.str (ad d.k)),(Str.ofString "name",V.str d.name),(Str.ofString "start",V.int d.start),(Str.ofString "end",V.int d.fin),(Str.ofString "off",V.int d.off),(Str.ofString "near",V.int d.near)] from ed [Str.ofString "kind",Str.ofString "name",Str.ofString "start",Str.ofString "end",Str.ofString "off"] rfl (by decide +kernel),
  show eg (Str.ofString "least") (V.int d.least) ([(Str.ofString "kind",V.str (ad d.k)),(Str.ofString "name",V.str d.name),(Str.ofString "start",V.int d.start),(Str.ofString "end",V.int d.fin),(Str.ofString "off",V.int d.off),(Str.ofString "near",V.int d.near)]:List (Str × V))=[(Str.ofString "kind",V.str (ad d.k)),(Str.ofString "name",V.str d.name),(Str.ofString "start",V.int d.start),(Str.ofString "end",V.int d.fin),(Str.ofString "off",V.int d.off),(Str.ofString "near",V.int d.near),(Str.ofString "least",V.int d.least)] from ed [Str.ofString "kind",Str.ofString "name",Str.ofString "start",Str.ofString "end",Str.ofString "off",Str.ofString "near"] rfl (by decide +kernel)]
 exact q
theorem SC (T:Txt w K mg t):Lb P w K mg base CX0 2 t.Td t.Re ["self","name","start","end","off","near","least"] (Jh t 0):=by
 have G_Way_init:Lb P w K mg base CX0 1 t.je t.Ye ["self","kind","name","start","end","off","near","least"] (wo t):=Dr T
 refine T.rj.ok Gj (fun vs H Q E h=>?_) (fun cdv A outer s H vs Q E hr h=>?_)
 ·obtain ⟨p,dx,d,rfl,_⟩:=h;rfl
 obtain ⟨p,dx,d,rfl,hk,hp,q⟩:=h
 refine ⟨_,(ib (Hd (ip rfl T.iC T.sk G_Way_init hr T.Qj .nil Cb (ab (pv 0) (ab pd (ab (pv 1) (ab (pv 2) (ab (pv 3) (ab (pv 4) (ab (pv 5) (ab (pv 6) gb))))))))))),?_⟩
 (walk_at "RD")
 exact ⟨p,dx,d,by rw [hk];rfl,by omega,hp,q⟩
theorem Lz (T:Txt w K mg t):Lb P w K mg base CX0 2 t.Ld t.qe ["self","name","start","end","off","near","least"] (Jh t 1):=by
 have G_Way_init:Lb P w K mg base CX0 1 t.je t.Ye ["self","kind","name","start","end","off","near","least"] (wo t):=Dr T
 refine T.ji.ok Li (fun vs H Q E h=>?_) (fun cdv A outer s H vs Q E hr h=>?_)
 ·obtain ⟨p,dx,d,rfl,_⟩:=h;rfl
 obtain ⟨p,dx,d,rfl,hk,hp,q⟩:=h
 refine ⟨_,(ib (Hd (ip rfl T.iC T.sk G_Way_init hr T.Qj .nil Cb (ab (pv 0) (ab pd (ab (pv 1) (ab (pv 2) (ab (pv 3) (ab (pv 4) (ab (pv 5) (ab (pv 6) gb))))))))))),?_⟩
 (walk_at "RD")
 exact ⟨p,dx,d,by rw [hk];rfl,by omega,hp,q⟩
theorem uA (T:Txt w K mg t):Lb P w K mg base CX0 2 t.Kd t.pe ["self","name","start","end","off","near","least"] (Jh t 2):=by
 have G_Way_init:Lb P w K mg base CX0 1 t.je t.Ye ["self","kind","name","start","end","off","near","least"] (wo t):=Dr T
 refine T.ei.ok Gi (fun vs H Q E h=>?_) (fun cdv A outer s H vs Q E hr h=>?_)
 ·obtain ⟨p,dx,d,rfl,_⟩:=h;rfl
 obtain ⟨p,dx,d,rfl,hk,hp,q⟩:=h
 refine ⟨_,(ib (Hd (ip rfl T.iC T.sk G_Way_init hr T.Qj .nil Cb (ab (pv 0) (ab pd (ab (pv 1) (ab (pv 2) (ab (pv 3) (ab (pv 4) (ab (pv 5) (ab (pv 6) gb))))))))))),?_⟩
 (walk_at "RD")
 exact ⟨p,dx,d,by rw [hk];rfl,by omega,hp,q⟩
end
noncomputable def zh (t:Adr) (C:Addr):Sp:=fun vs H Q _=>∃ p d,vs=[.ref p]∧Bd t H p d∧C=t.cw d.k∧Q (.int (Eh d)) H
noncomputable def Xi (t:Adr) (C:Addr):Sp:=fun vs H Q _=>∃ p d,vs=[.ref p]∧Bd t H p d∧C=t.cw d.k∧Q (.int (Fl d)) H
section
variable {P:Program} {w:World} {K:PySem.W.Frag} {mg:Str→Option Value} {base:Heap} {t:Adr}
theorem Tl (T:Txt w K mg t):Lb P w K mg base CX0 1 t.re t.Yf ["self"] (zh t (t.cw 0)):=by
 refine T.xi.ok kl (fun vs H Q E h=>?_) (fun cdv A outer s H vs Q E hr h=>?_)
 ·obtain ⟨p,d,rfl,_⟩:=h;rfl
 obtain ⟨p,d,rfl,W,hC,q⟩:=h
 have hk:=(T.cw_inj (by decide) W.1 hC).symm
 refine ⟨_,(ib (Eb db)),?_⟩
 rw [show Eh d=1 by unfold Eh;simp only [hk]] at q
 (walk_at "RD")
 exact q
theorem Tk (T:Txt w K mg t):Lb P w K mg base CX0 1 t.Yd t.wf ["self"] (zh t (t.cw 1)):=by
 refine T.Ah.ok Nk (fun vs H Q E h=>?_) (fun cdv A outer s H vs Q E hr h=>?_)
 ·obtain ⟨p,d,rfl,_⟩:=h;rfl
 obtain ⟨p,d,rfl,W,hC,q⟩:=h
 have hk:=(T.cw_inj (by decide) W.1 hC).symm
 refine ⟨_,(ib (Eb db)),?_⟩
 rw [show Eh d=0 by unfold Eh;simp only [hk]] at q
 (walk_at "RD")
 exact q
theorem Jk (T:Txt w K mg t):Lb P w K mg base CX0 1 t.Wd t.qf ["self"] (zh t (t.cw 2)):=by
 refine T.oh.ok Fk (fun vs H Q E h=>?_) (fun cdv A outer s H vs Q E hr h=>?_)
 ·obtain ⟨p,d,rfl,_⟩:=h;rfl
 obtain ⟨p,d,rfl,W,hC,q⟩:=h
 have hk:=(T.cw_inj (by decide) W.1 hC).symm
 refine ⟨_,(ib (Eb db)),?_⟩
 rw [show Eh d=2 by unfold Eh;simp only [hk]] at q
 (walk_at "RD")
 exact q
theorem uD (T:Txt w K mg t):rB P w K mg base CX0 1 (isW t) "ready" ["self"] (zh t):=by
 refine ⟨fun C hC=>?_⟩
 obtain ⟨k,hk,rfl⟩:=hC
 match k,hk with
 | 0,_=>exact ⟨_,_,T.km,T.bn,Tl T,T.Qm⟩
 | 1,_=>exact ⟨_,_,T.rk,T.im,Tk T,T.wm⟩
 | 2,_=>exact ⟨_,_,T.xk,T.El,Jk T,T.gl⟩
theorem Om (T:Txt w K mg t):Lb P w K mg base CX0 1 t.Ie t.Jg ["self"] (Xi t (t.cw 0)):=by
 refine T.Si.ok gn (fun vs H Q E h=>?_) (fun cdv A outer s H vs Q E hr h=>?_)
 ·obtain ⟨p,d,rfl,_⟩:=h;rfl
 obtain ⟨p,d,rfl,W,hC,q⟩:=h
 have hk:=(T.cw_inj (by decide) W.1 hC).symm
 refine ⟨_,(ib (Eb db)),?_⟩
 rw [show Fl d=2 by unfold Fl;simp only [hk]] at q
 (walk_at "RD")
 exact q
theorem gm (T:Txt w K mg t):Lb P w K mg base CX0 1 t.me t.Wf ["self"] (Xi t (t.cw 1)):=by
 refine T.di.ok vm (fun vs H Q E h=>?_) (fun cdv A outer s H vs Q E hr h=>?_)
 ·obtain ⟨p,d,rfl,_⟩:=h;rfl
 obtain ⟨p,d,rfl,W,hC,q⟩:=h
 have hk:=(T.cw_inj (by decide) W.1 hC).symm
 refine ⟨_,(ib (Eb (Ac (pv 0) rfl))),?_⟩
 rw [show Fl d=d.off by unfold Fl;simp only [hk]] at q
 (walk_at "RD")
 exact ⟨_,W.f_off T,q⟩
theorem il (T:Txt w K mg t):Lb P w K mg base CX0 1 t.se t.ag ["self"] (Xi t (t.cw 2)):=by
 refine T.li.ok Ll (fun vs H Q E h=>?_) (fun cdv A outer s H vs Q E hr h=>?_)
 ·obtain ⟨p,d,rfl,_⟩:=h;rfl
 obtain ⟨p,d,rfl,W,hC,q⟩:=h
 have hk:=(T.cw_inj (by decide) W.1 hC).symm
 refine ⟨_,(ib (Eb db)),?_⟩
 rw [show Fl d=1 by unfold Fl;simp only [hk]] at q
 (walk_at "RD")
 exact q
theorem jF (T:Txt w K mg t):rB P w K mg base CX0 1 (isW t) "fade" ["self"] (Xi t):=by
 refine ⟨fun C hC=>?_⟩
 obtain ⟨k,hk,rfl⟩:=hC
 match k,hk with
 | 0,_=>exact ⟨_,_,T.km,T.So,Om T,T.Ko⟩
 | 1,_=>exact ⟨_,_,T.rk,T.Km,gm T,T.Mm⟩
 | 2,_=>exact ⟨_,_,T.xk,T.jn,il T,T.Sm⟩
end
noncomputable def jl (c:Nat):List (List Nat)→List Nat
 | []=>[]
 | [a]=>a
 | a :: b :: r=>a ++ c :: jl c (b :: r)
theorem Mw {c:Nat}:∀ {a b X Y:List Nat},c ∉ a→c ∉ b→a ++ c :: X=b ++ c :: Y→a=b∧X=Y
 | [],[],X,Y,_,_,h=>⟨rfl,(List.cons.inj h).2⟩
 | [],d :: b,X,Y,_,hb,h=>absurd (List.cons.inj h).1 (fun z=>hb (by simp [← z]))
 | d :: a,[],X,Y,ha,_,h=>absurd (List.cons.inj h).1 (fun z=>ha (by simp [z]))
 | d :: a,e :: b,X,Y,ha,hb,h=>by
  obtain ⟨h1,h2⟩:=List.cons.inj h
  obtain ⟨e1,e2⟩:=Mw (fun z=>ha (List.mem_cons_of_mem _ z)) (fun z=>hb (List.mem_cons_of_mem _ z)) h2
  exact ⟨by rw [h1,e1],e2⟩
theorem OA {c:Nat}:∀ {ps qs:List (List Nat)},(∀ p ∈ ps,c ∉ p)→(∀ q ∈ qs,c ∉ q)→ps ≠ []→qs ≠ []→jl c ps=jl c qs→ps=qs
 | [a],[b],_,_,_,_,h=>by rw [show a=b from h]
 | [a],b :: b' :: r,ha,_,_,_,h=>absurd (show c ∈ a by rw [show a=b ++ c :: jl c (b' :: r) from h];simp) (ha a (by simp))
 | a :: a' :: r,[b],_,hb,_,_,h=>absurd (show c ∈ b by rw [show b=a ++ c :: jl c (a' :: r) from h.symm];simp) (hb b (by simp))
 | a :: a' :: r,b :: b' :: s,ha,hb,_,_,h=>by
  obtain ⟨e1,e2⟩:=Mw (ha a (by simp)) (hb b (by simp)) (show a ++ c :: jl c (a' :: r)=b ++ c :: jl c (b' :: s) from h)
  rw [e1,OA (fun p hp=>ha p (List.mem_cons_of_mem _ hp)) (fun q hq=>hb q (List.mem_cons_of_mem _ hq)) (by simp) (by simp) e2]
 | [],_,_,_,h,_,_=>absurd rfl h
 | _ :: _,[],_,_,_,h,_=>absurd rfl h
theorem dB {c d:Nat}:∀ {ps:List (List Nat)},d ∈ jl c ps→d=c∨∃ p ∈ ps,d ∈ p
 | [],h=>nomatch h
 | [a],h=>.inr ⟨a,by simp,h⟩
 | a :: b :: r,h=>by
  rcases List.mem_append.mp (show d ∈ a ++ c :: jl c (b :: r) from h) with h | h
  ·exact .inr ⟨a,by simp,h⟩
  ·rcases List.mem_cons.mp h with h | h
   ·exact .inl h
   ·rcases dB h with h | ⟨p,hp,h⟩
    ·exact .inl h
    ·exact .inr ⟨p,List.mem_cons_of_mem _ hp,h⟩
theorem xo (c:Nat):∀ ys:List Str,(Str.join ⟨#[c]⟩ ys).cps.toList=jl c (ys.map (·.cps.toList))
 | []=>rfl
 | [a]=>rfl
 | a :: b :: r=>by
  show (a ++ ⟨#[c]⟩ ++ Str.join ⟨#[c]⟩ (b :: r)).cps.toList=_
  rw [Str.cps_append,Array.toList_append,Str.cps_append,Array.toList_append,xo c (b :: r)]
  simp [jl]
theorem jw {x y:Str} (h:x.cps.toList=y.cps.toList):x=y:=by
 cases x;cases y
 exact congrArg Str.mk (Array.toList_inj.mp h)
theorem Sn {c:Nat} {ys:List Str} (hn:ys ≠ []) (hf:∀ y ∈ ys,c ∉ y.cps.toList):Txt.split (Str.join ⟨#[c]⟩ ys) ⟨#[c]⟩=ys:=by
 have e:=congrArg (·.cps.toList) (StrLaws.join_split (Str.join ⟨#[c]⟩ ys) ⟨#[c]⟩)
 simp only [xo] at e
 have e2:=OA (c:=c) (ps:=(Txt.split (Str.join ⟨#[c]⟩ ys) ⟨#[c]⟩).map (·.cps.toList)) (qs:=ys.map (·.cps.toList)) (fun p hp=>by
  obtain ⟨y,hy,rfl⟩:=List.mem_map.mp hp
  exact StrLaws.split_free _ c y hy) (fun p hp=>by
  obtain ⟨y,hy,rfl⟩:=List.mem_map.mp hp
  exact hf y hy) (by simp [By]) (by simpa using hn) e
 exact (List.map_inj_right fun x y h=>jw h).mp e2
noncomputable abbrev num (v:Int):Str:=Str.ofString (toString v)
theorem vD:∀ n,n < 1000→(decide (1 ≤ ((Nat.toDigits 10 n).map Char.toNat).length) && decide (((Nat.toDigits 10 n).map Char.toNat).length ≤ 3) && ((Nat.toDigits 10 n).map Char.toNat).all Pk && (decide (((Nat.toDigits 10 n).map Char.toNat).length ≤ 1) || decide (((Nat.toDigits 10 n).map Char.toNat).headD 0 ≠ 48)) &&
  decide (NumText.digitsVal ((Nat.toDigits 10 n).map Char.toNat)=n))=true:=by decide +kernel
theorem ls {v:Int} (h0:0 ≤ v) (h1:v < 1000):okB (num v)=true∧val (num v)=v:=by
 have e:=PySem.W.KIN.signs_num v.toNat
 rw [Int.toNat_of_nonneg h0] at e
 have a:=vD v.toNat (by omega)
 rw [← e,Bool.and_eq_true,decide_eq_true_eq] at a
 exact ⟨a.1,by show ((NumText.digitsVal (cs (num v)):Nat):Int)=v;rw [a.2];omega⟩
theorem vk {v lo hi:Int} (h0:0 ≤ v) (h1:v < 1000) (hl:lo ≤ v) (hh:v ≤ hi):gy (num v) lo hi=.int v:=by
 obtain ⟨a,b⟩:=ls h0 h1
 unfold gy
 rw [a,b,decide_eq_false (by omega:¬ v < lo),decide_eq_false (by omega:¬ hi < v)];rfl
theorem EC {u v:Int} (h0:0 ≤ u) (h1:u < 1000) (h2:0 ≤ v) (h3:v < 1000) (e:num u=num v):u=v:=by
 rw [← (ls h0 h1).2,e,(ls h2 h3).2]
theorem dt {v:Int} (h0:0 ≤ v) (h1:v < 1000):∀ c ∈ (num v).cps.toList,48 ≤ c∧c ≤ 57:=fun c hc=>by
 have:=List.all_eq_true.mp (tF (ls h0 h1).1).2 c hc
 simpa [Pk] using this
theorem tG:∀ c ∈ Vf.cps.toList,97 ≤ c∧c ≤ 122:=by decide +kernel
theorem DF:∀ k,k < 26→97 + k ∈ Vf.cps.toList:=by decide +kernel
theorem Ch {x:Str} (h:made x Vf 8=true):(1 ≤ x.length∧x.length ≤ 8)∧∀ c ∈ x.cps.toList,97 ≤ c∧c ≤ 122:=by
 unfold made at h
 split at h
 ·cases h
 ·rename_i h1
  split at h
  ·cases h
  ·rename_i h2
   have h3:¬ x.length=0:=fun z=>h1 (DG.mpr z)
   refine ⟨by omega,fun c hc=>?_⟩
   have:=List.all_eq_true.mp h c hc
   rw [Kr] at this
   exact tG c (of_decide_eq_true this)
theorem Fq {x:Str} (h0:1 ≤ x.length) (h1:x.length ≤ 8) (h:∀ c ∈ x.cps.toList,97 ≤ c∧c ≤ 122):made x Vf 8=true:=by
 unfold made
 rw [if_neg (fun z=>by have:=DG.mp z;omega),if_neg (by omega)]
 refine List.all_eq_true.mpr fun c hc=>?_
 have:=h c hc
 rw [Kr]
 have e:=DF (c - 97) (by omega)
 rw [show 97 + (c - 97)=c by omega] at e
 exact decide_eq_true e
structure WOk (n:Int) (d:WD):Prop where
 k:d.k < 3
 nm:made d.name Vf 8=true
 st:0 ≤ d.start∧d.start < n
 fi:0 ≤ d.fin∧d.fin < n
 ne:d.start ≠ d.fin
 of:0 ≤ d.off∧d.off ≤ 30
 nr:0 ≤ d.near∧d.near ≤ 30
 le:1 ≤ d.least∧d.least ≤ 60
structure COk (n:Int) (ds:List WD):Prop where
 nn:2 ≤ n∧n ≤ 99
 ln:1 ≤ ds.length∧ds.length ≤ 12
 al:∀ d ∈ ds,WOk n d
 nd:(ds.map (·.name)).Nodup
noncomputable def ug (d:WD):List Str:=[ad d.k,d.name,num d.start,num d.fin,num d.off,num d.near,num d.least]
noncomputable def Xf (n:Int) (ds:List WD):List (List Str):=[Str.ofString "ring",num n] :: ds.map ug
noncomputable def Oo (n:Int) (ds:List WD):Str:=Str.join nl ((Xf n ds).map (Str.join bk))
noncomputable def xr (x:Str):Prop:=x.length ≤ 8∧(32:Nat) ∉ x.cps.toList∧(10:Nat) ∉ x.cps.toList
theorem Nn (k:Nat):xr (ad k):=by
 match k with
 | 0=>exact ⟨by decide +kernel,by decide +kernel,by decide +kernel⟩
 | 1=>exact ⟨by decide +kernel,by decide +kernel,by decide +kernel⟩
 | _ + 2=>exact ⟨show (Str.ofString "tram").length ≤ 8 by decide +kernel,show (32:Nat) ∉ (Str.ofString "tram").cps.toList by decide +kernel,show (10:Nat) ∉ (Str.ofString "tram").cps.toList by decide +kernel⟩
theorem kd {v:Int} (h0:0 ≤ v) (h1:v < 1000):xr (num v):=
 ⟨Nat.le_trans (oC h0 (by omega)) (by decide),fun z=>by have:=dt h0 h1 _ z;omega,fun z=>by have:=dt h0 h1 _ z;omega⟩
theorem Rn {x:Str} (h:made x Vf 8=true):xr x:=
 ⟨(Ch h).1.2,fun z=>by have:=(Ch h).2 _ z;omega,fun z=>by have:=(Ch h).2 _ z;omega⟩
theorem WOk.plain {n:Int} {d:WD} (h:WOk n d) (hn:n ≤ 99):∀ x ∈ ug d,xr x:=fun x hx=>by
 have h1:=h.st;have h2:=h.fi;have h3:=h.of;have h4:=h.nr;have h5:=h.le
 simp only [ug,List.mem_cons,List.not_mem_nil,or_false] at hx
 rcases hx with rfl | rfl | rfl | rfl | rfl | rfl | rfl
 ·exact Nn _
 ·exact Rn h.nm
 ·exact kd (by omega) (by omega)
 ·exact kd (by omega) (by omega)
 ·exact kd (by omega) (by omega)
 ·exact kd (by omega) (by omega)
 ·exact kd (by omega) (by omega)
theorem COk.plain {n:Int} {ds:List WD} (h:COk n ds):∀ r ∈ Xf n ds,∀ x ∈ r,xr x:=fun r hr x hx=>by
 have hn:=h.nn
 rcases List.mem_cons.mp hr with rfl | hr
 ·simp only [List.mem_cons,List.not_mem_nil,or_false] at hx
  rcases hx with rfl | rfl
  ·exact ⟨by decide +kernel,by decide +kernel,by decide +kernel⟩
  ·exact kd (by omega) (by omega)
 ·obtain ⟨d,hd,rfl⟩:=List.mem_map.mp hr
  exact (h.al d hd).plain hn.2 x hx
theorem Mv {rs:List (List Str)} (h0:rs ≠ []) (h1:∀ r ∈ rs,r ≠ []) (h2:∀ r ∈ rs,∀ x ∈ r,xr x):Sg (Str.join nl (rs.map (Str.join bk)))=rs:=by
 unfold Sg
 rw [vH,OE]
 rw [Sn (by simpa using h0) (fun y hy=>by
  obtain ⟨r,hr,rfl⟩:=List.mem_map.mp hy
  rw [xo]
  intro z
  rcases dB z with z | ⟨p,hp,z⟩
  ·cases z
  ·obtain ⟨x,hx,rfl⟩:=List.mem_map.mp hp
   exact (h2 r hr x hx).2.2 z)]
 rw [List.map_map]
 have:∀ r ∈ rs,((fun r=>Txt.split r ⟨#[32]⟩) ∘ Str.join ⟨#[32]⟩) r=r:=fun r hr=>Sn (h1 r hr) fun x hx=>(h2 r hr x hx).2.1
 exact (List.map_congr_left this).trans (List.map_id rs)
theorem Du {n:Int} {ds:List WD} (h:COk n ds):Sg (Oo n ds)=Xf n ds:=Mv (by simp [Xf]) (fun r hr=>by
 rcases List.mem_cons.mp hr with rfl | hr
 ·simp
 ·obtain ⟨d,hd,rfl⟩:=List.mem_map.mp hr
  simp [ug]) h.plain
theorem Qo (sep:Str) (B:Nat):∀ ys:List Str,(∀ y ∈ ys,y.length ≤ B)→(Str.join sep ys).length ≤ ys.length * (B + sep.length)
 | [],_=>by show (Str.empty).length ≤ _;exact Nat.zero_le _
 | [a],h=>by
  have:=h a (by simp)
  show a.length ≤ _
  simp only [List.length_cons,List.length_nil];omega
 | a :: b :: r,h=>by
  have h1:=h a (by simp)
  have h2:=Qo sep B (b :: r) fun y hy=>h y (List.mem_cons_of_mem _ hy)
  show (a ++ sep ++ Str.join sep (b :: r)).length ≤ _
  rw [kr,kr,List.length_cons,Nat.succ_mul]
  omega
theorem ww {n:Int} {ds:List WD} (h:COk n ds):(Oo n ds).length ≤ 1000:=by
 have h1:∀ y ∈ (Xf n ds).map (Str.join bk),y.length ≤ 63:=fun y hy=>by
  obtain ⟨r,hr,rfl⟩:=List.mem_map.mp hy
  have:=Qo bk 8 r fun x hx=>(h.plain r hr x hx).1
  rw [tt] at this
  have hl:r.length ≤ 7:=by
   rcases List.mem_cons.mp hr with rfl | hr
   ·simp
   ·obtain ⟨d,hd,rfl⟩:=List.mem_map.mp hr
    simp [ug]
  omega
 have h2:=Qo nl 63 _ h1
 rw [Zs] at h2
 have h3:((Xf n ds).map (Str.join bk)).length ≤ 13:=by
  have:=h.ln
  simp [Xf];omega
 unfold Oo
 omega
end My
namespace My
open PySem L2
noncomputable abbrev Dp:List Str:=[Str.ofString "row",Str.ofString "told",Str.ofString "place"]
noncomputable def rdF (row:Int) (ta:Addr) (pl:Int):List (Str × V):=[(Str.ofString "row",.int row),(Str.ofString "told",.ref ta),(Str.ofString "place",.int pl)]
theorem Nj (row:Int) (ta:Addr) (pl:Int):(rdF row ta pl).map (·.1)=Dp:=rfl
theorem GD (row:Int) (ta:Addr) (pl v:Int):eg (Str.ofString "place") (.int v) (rdF row ta pl)=rdF row ta v:=by
 unfold rdF
 simp only [eg]
 rw [if_neg (by decide +kernel),if_neg (by decide +kernel)];rfl
noncomputable def rf (t:Adr) (H:Hp) (p:Addr) (row:Int) (ws:List Str) (pl:Nat):Prop:=
 (ws.length ≤ 1000∧∀ x ∈ ws,x.length ≤ 1000)∧∃ dx ta,H p=some (.ins t.xb dx (rdF row ta pl))∧H ta=some (.lst (nc ws))
noncomputable def ud (p:Addr) (H H':Hp):Prop:=∀ b u,b ≠ p→H b=some u→H' b=some u
theorem ud.trans {p:Addr} {H H1 H2:Hp} (a:ud p H H1) (b:ud p H1 H2):ud p H H2:=fun c u n e=>b c u n (a c u n e)
theorem ud.of {p:Addr} {H H1:Hp} (a:Xb H H1):ud p H H1:=fun c u _ e=>a c u e
theorem ud.put {p:Addr} {H:Hp} {o:HO}:ud p H (upd H p o):=fun c u n e=>by rw [qb n];exact e
theorem Ul (ws:List Str):(nc ws).length=ws.length:=by unfold nc;rw [List.length_map]
theorem Qy {ws:List Str} {i:Nat} {x:Str} (h:ws[i]? = some x):(nc ws)[i]? = some (.str x):=by unfold nc;rw [List.getElem?_map,h];rfl
theorem io (ws:List Str):(nc ws).all Yg=true:=by unfold nc;simp [Yg]
theorem wt (x:Str) (xs:List Str):inV (.str x) (nc xs)=decide (x ∈ xs):=by
 unfold inV nc
 rw [List.any_map,Bool.eq_iff_iff]
 simp only [List.any_eq_true,Function.comp,eqV,beq_iff_eq,decide_eq_true_eq]
 constructor
 ·rintro ⟨y,hy,rfl⟩;exact hy
 ·intro h;exact ⟨x,h,rfl⟩
section
variable {w:World} {K:PySem.W.Frag} {mg:Str→Option Value} {t:Adr} {H H':Hp} {p:Addr} {row:Int} {ws:List Str} {pl:Nat}
theorem rf.same (h:rf t H p row ws pl) (s:Xb H H'):rf t H' p row ws pl:=by
 obtain ⟨hz,dx,ta,e1,e2⟩:=h
 exact ⟨hz,dx,ta,s _ _ e1,s _ _ e2⟩
theorem rf.sameX {q:Addr} (h:rf t H p row ws pl) (s:ud q H H') (n:p ≠ q) (k:∃ C dx fs,H q=some (.ins C dx fs)):rf t H' p row ws pl:=by
 obtain ⟨hz,dx,ta,e1,e2⟩:=h
 obtain ⟨C,dq,fs,e3⟩:=k
 exact ⟨hz,dx,ta,s _ _ n e1,s _ _ (dg e2 e3 (by intro z;cases z)) e2⟩
theorem rf.ins (h:rf t H p row ws pl):∃ C dx fs,H p=some (.ins C dx fs):=by
 obtain ⟨hz,dx,ta,e1,e2⟩:=h
 exact ⟨_,_,_,e1⟩
theorem rf.no {m:Str} (row:Int) (ta:Addr) (pl:Int) (h:Dp.contains m=false):(rdF row ta pl).lookup m=none:=Wi Dp (Nj ..) h
theorem vo (T:Txt w K mg t) {dx ta:Addr} {pl:Int} (e:H p=some (.ins t.xb dx (rdF row ta pl))):Ci K H p (Str.ofString "place") (.int pl):=
 ⟨_,dx,_,e,T.wb,T.Vd,Jd Dp 2 (Nj ..) (by decide +kernel) rfl⟩
theorem Nr (T:Txt w K mg t) {dx ta:Addr} {pl:Int} (e:H p=some (.ins t.xb dx (rdF row ta pl))):Ci K H p (Str.ofString "told") (.ref ta):=
 ⟨_,dx,_,e,T.wb,T.ig,Jd Dp 1 (Nj ..) (by decide +kernel) rfl⟩
end
noncomputable def bB (t:Adr):Sp:=fun vs H Q _=>∃ (p dx ta:Addr) (row:Int),vs=[.ref p,.int row,.ref ta]∧H p=some (.ins t.xb dx [])∧Q .non (upd H p (.ins t.xb dx (rdF row ta 0)))
noncomputable def Yi (t:Adr):Sp:=fun vs H Q _=>∃ p row ws pl,vs=[.ref p]∧rf t H p row ws pl∧pl ≤ ws.length∧Q (.str (ws.getD pl (Str.ofString ""))) H
noncomputable def Qv (t:Adr):Sp:=fun vs H Q _=>∃ p row ws pl,vs=[.ref p]∧rf t H p row ws pl∧Q (.bl (decide (pl < ws.length))) H
noncomputable def FH (t:Adr) (H:Hp) (p:Addr) (row:Int) (ws:List Str) (pl:Nat) (R:Hp→Prop):Prop:=∀ H',ud p H H'→(NoT H→NoT H')→rf t H' p row ws pl→R H'
noncomputable def uo (t:Adr):Sp:=fun vs H Q _=>∃ p row ws pl,vs=[.ref p,.bl true]∧rf t H p row ws pl∧FH t H p row ws (pl + 1) (Q .non)
noncomputable def bp (K:PySem.W.Frag) (t:Adr):Sp:=fun vs H Q _=>∃ p row ws pl x c xs,vs=[.ref p,.ref c]∧rf t H p row ws pl∧ws[pl]? = some x∧SqL K H c (nc xs)∧x ∈ xs∧FH t H p row ws (pl + 1) (Q (.str x))
noncomputable def gp (t:Adr):Sp:=fun vs H Q _=>∃ p row ws pl x lo hi v,vs=[.ref p,.int lo,.int hi]∧rf t H p row ws pl∧ws[pl]? = some x∧gy x lo hi=.int v∧NoT H∧FH t H p row ws (pl + 1) (Q (.int v))
noncomputable def Yw (t:Adr):Sp:=fun vs H Q _=>∃ p row ws pl,vs=[.ref p]∧rf t H p row ws pl∧pl=ws.length∧Q .non H
section
variable {P:Program} {w:World} {K:PySem.W.Frag} {mg:Str→Option Value} {base:Heap} {t:Adr}
theorem AG (T:Txt w K mg t):Lb P w K mg base CX0 1 t.ld t.Md ["self","row","told"] (bB t):=by
 refine T.Wg.ok Hh (fun vs H Q E h=>?_) (fun cdv A outer s H vs Q E hr h=>?_)
 ·obtain ⟨p,dx,ta,row,rfl,_⟩:=h;rfl
 obtain ⟨p,dx,ta,row,rfl,hp,q⟩:=h
 refine ⟨_,(cb (De (pv 0) (pv 1) rfl)
   (cb (De (pv 0) (pv 2) rfl)
   (ib (De (pv 0) db rfl)))),?_⟩
 (walk_at "RD")
 refine ⟨_,_,_,hp,T.wb,T.Rk,by decide,?_⟩
 refine ⟨_,_,_,fb,T.wb,T.ig,Hk (n:=999) (by decide),?_⟩
 refine ⟨_,_,_,fb,T.wb,T.Vd,Hk (n:=999) (Hk (n:=998) (by decide)),?_⟩
 simp only [Hi]
 rw [show eg (Str.ofString "row") (V.int row) ([]:List (Str × V))=[(Str.ofString "row",V.int row)] from ed [] rfl (by decide +kernel),
  show eg (Str.ofString "told") (V.ref ta) ([(Str.ofString "row",V.int row)]:List (Str × V))=[(Str.ofString "row",V.int row),(Str.ofString "told",V.ref ta)] from ed [Str.ofString "row"] rfl (by decide +kernel),
  show eg (Str.ofString "place") (V.int 0) ([(Str.ofString "row",V.int row),(Str.ofString "told",V.ref ta)]:List (Str × V))=[(Str.ofString "row",V.int row),(Str.ofString "told",V.ref ta),(Str.ofString "place",V.int 0)] from ed [Str.ofString "row",Str.ofString "told"] rfl (by decide +kernel)]
 exact q
theorem Zk (T:Txt w K mg t):Lb P w K mg base CX0 1 t.Ub t.gc ["self"] (Yi t):=by
 refine T.cg.ok cj (fun vs H Q E h=>?_) (fun cdv A outer s H vs Q E hr h=>?_)
 ·obtain ⟨p,row,ws,pl,rfl,_⟩:=h;rfl
 obtain ⟨p,row,ws,pl,rfl,⟨hz,dx,ta,e1,e2⟩,hle,q⟩:=h
 refine ⟨_,(cb (Dd (Jb Tf (Ac (pv 0) rfl) (Zb Vb rfl T.Vi uc (ab (Ac (pv 0) rfl) gb)) (Ob _)) (ib (Eb pd)) Nb)
   (ib (Eb (Qb Dc (Ac (pv 0) rfl) (Ac (pv 0) rfl) (fun _ _=>rfl))))),?_⟩
 (walk_at "RD")
 refine Mb (decide ((pl:Int)=(ws.length:Int))) (fun Q hQ=>?_) (fun c=>?_) (fun c=>?_)
 ·(walk_at "RD")
  refine ⟨_,vo T e1,_,Nr T e1,_,rfl,_,.inl (SqL.of e2),rfl,?_⟩
  rw [Ul]
  (walk_at "RD")
  exact hQ
 ·(walk_at "RD")
  have c':pl=ws.length:=by have:=of_decide_eq_true c;omega
  rw [show ws.getD pl (Str.ofString "")=Str.ofString "" by rw [List.getD_eq_getElem?_getD,List.getElem?_eq_none (by omega)];rfl] at q
  exact q
 ·(walk_at "RD")
  have c':pl < ws.length:=by have:=of_decide_eq_false c;omega
  have hx:ws[pl]? = some ws[pl]:=List.getElem?_eq_getElem c'
  rw [List.getD_eq_getElem?_getD,hx] at q
  exact ⟨_,Nr T e1,_,vo T e1,_,rfl,_,_,rfl,SqL.of e2,_,yb (Qy hx),q⟩
theorem yD (T:Txt w K mg t):Lb P w K mg base CX0 1 t.Bc t.Uc ["self"] (Qv t):=by
 refine T.He.ok xh (fun vs H Q E h=>?_) (fun cdv A outer s H vs Q E hr h=>?_)
 ·obtain ⟨p,row,ws,pl,rfl,_⟩:=h;rfl
 obtain ⟨p,row,ws,pl,rfl,⟨hz,dx,ta,e1,e2⟩,q⟩:=h
 refine ⟨_,(ib (Eb (Nd Lq (Ac (pv 0) rfl) (Zb Vb rfl T.Vi uc (ab (Ac (pv 0) rfl) gb)) (Ob _)))),?_⟩
 (walk_at "RD")
 have e:decide (pl < ws.length)=decide ((pl:Int) < (ws.length:Int)):=by rw [Bool.eq_iff_iff];simp
 rw [e] at q
 refine ⟨_,vo T e1,_,Nr T e1,_,rfl,_,.inl (SqL.of e2),?_⟩
 rw [Ul]
 exact ⟨_,rfl,q⟩
theorem jr (T:Txt w K mg t):Lb P w K mg base CX0 1 t.yc t.Mc ["self","good"] (uo t):=by
 refine T.Ug.ok jk (fun vs H Q E h=>?_) (fun cdv A outer s H vs Q E hr h=>?_)
 ·obtain ⟨p,row,ws,pl,rfl,_⟩:=h;rfl
 obtain ⟨p,row,ws,pl,rfl,⟨hz,dx,ta,e1,e2⟩,q⟩:=h
 refine ⟨_,(cb (Dd (pq (em (pv 1))) (ib Oh) Nb)
   (ib (Uw (pv 0) db iF))),?_⟩
 (walk_at "RD")
 refine Mb false (fun Q hQ=>?_) (fun hc=>nomatch hc) (fun _=>?_)
 ·(walk_at "RD")
  exact hQ
 ·(walk_at "RD")
  refine ⟨_,_,_,e1,T.wb,T.Vd,_,Jd Dp 2 (Nj ..) (by decide +kernel) rfl,_,rfl,_,_,e1,by rw [← List.length_map (f:=(·.1)),Nj];decide,?_⟩
  rw [GD]
  exact q _ ud.put (fun n=>n.upd) ⟨hz,dx,ta,fb,by rw [qb (dg e2 e1 (by intro z;cases z))];exact e2⟩
theorem Ks (T:Txt w K mg t):Lb P w K mg base CX0 2 t.vc t.Pc ["self","choices"] (bp K t):=by
 have G_RowReader_ahead:Lb P w K mg base CX0 1 t.Ub t.gc ["self"] (Yi t):=Zk T
 have G_RowReader_take:Lb P w K mg base CX0 1 t.yc t.Mc ["self","good"] (uo t):=jr T
 refine T.Lf.ok zf (fun vs H Q E h=>?_) (fun cdv A outer s H vs Q E hr h=>?_)
 ·obtain ⟨p,row,ws,pl,x,c,xs,rfl,_⟩:=h;rfl
 obtain ⟨p,row,ws,pl,x,c,xs,rfl,R,hx,hc,hm,q⟩:=h
 refine ⟨_,(cb (Bb (i:=2) zf.nd rfl (Or.inl rfl) (Kg (pv 0) T.wb T.Cd G_RowReader_ahead hr T.Gd .nil Cb))
   (cb (Hd (zd (pv 0) T.wb T.Ae G_RowReader_take hr T.Be .nil Cb (ab (Nd Gh (pv 2) (pv 1) (by with_unfolding_all rfl)) gb)))
   (ib (Eb (pv 2))))),?_⟩
 have hlt:pl < ws.length:=(List.getElem?_eq_some_iff.mp hx).1
 have hg:ws.getD pl (Str.ofString "")=x:=by rw [List.getD_eq_getElem?_getD,hx];rfl
 obtain ⟨_,dx,ta,e1,e2⟩:=id R
 (walk_at "RD")
 refine ⟨_,_,e1,rf.no _ _ _ (by decide +kernel),⟨p,row,ws,pl,rfl,R,by omega,?_⟩⟩
 rw [hg]
 (walk_at "RD")
 refine ⟨_,_,e1,rf.no _ _ _ (by decide +kernel),_,.inl hc,rfl,io xs,?_⟩
 rw [wt,decide_eq_true hm]
 refine ⟨p,row,ws,pl,rfl,R,fun H' s1 s2 s3=>?_⟩
 (walk_at "RD")
 exact q H' s1 s2 s3
theorem cr (T:Txt w K mg t):Lb P w K mg base CX0 4 t.Sb t.jc ["self","low","high"] (gp t):=by
 have G_RowReader_ahead:Lb P w K mg base CX0 3 t.Ub t.gc ["self"] (Yi t):=(Zk T).mono (by decide)
 have G_RowReader_take:Lb P w K mg base CX0 3 t.yc t.Mc ["self","good"] (uo t):=(jr T).mono (by decide)
 have G_figured:Lb P w K mg base CX0 3 t.xj t.ij ["word","low","high"] ZA:=gE T
 refine T.af.ok Fe (fun vs H Q E h=>?_) (fun cdv A outer s H vs Q E hr h=>?_)
 ·obtain ⟨p,row,ws,pl,x,lo,hi,v,rfl,_⟩:=h;rfl
 obtain ⟨p,row,ws,pl,x,lo,hi,v,rfl,R,hx,hv,nt,q⟩:=h
 refine ⟨_,(cb (Bb (i:=3) Fe.nd rfl (Or.inl rfl) (vb G_figured hr rfl T.xx T.xl.kp T.Vx .nil Cb (ab (Kg (pv 0) T.wb T.Cd G_RowReader_ahead hr T.Gd .nil Cb) (ab (pv 1) (ab (pv 2) gb)))))
   (cb (Hd (zd (pv 0) T.wb T.Ae G_RowReader_take hr T.Be .nil Cb (ab (Nd ZC (pv 3) dw (Ob _)) gb)))
   (ib (Eb (pv 3))))),?_⟩
 have hlt:pl < ws.length:=(List.getElem?_eq_some_iff.mp hx).1
 have hg:ws.getD pl (Str.ofString "")=x:=by rw [List.getD_eq_getElem?_getD,hx];rfl
 obtain ⟨hz,dx,ta,e1,e2⟩:=id R
 (walk_at "RD")
 refine ⟨_,_,e1,rf.no _ _ _ (by decide +kernel),⟨p,row,ws,pl,rfl,R,by omega,?_⟩⟩
 rw [hg]
 (walk_at "RD")
 refine ⟨x,lo,hi,rfl,hz.2 x (List.mem_of_getElem? hx),nt,?_⟩
 rw [hv]
 (walk_at "RD")
 refine ⟨_,_,e1,rf.no _ _ _ (by decide +kernel),?_⟩
 refine ⟨p,row,ws,pl,rfl,R,fun H' s1 s2 s3=>?_⟩
 (walk_at "RD")
 exact q H' s1 s2 s3
theorem VA (T:Txt w K mg t):Lb P w K mg base CX0 2 t.xc t.Oc ["self"] (Yw t):=by
 have G_RowReader_has_more:Lb P w K mg base CX0 1 t.Bc t.Uc ["self"] (Qv t):=yD T
 refine T.Rf.ok Ei (fun vs H Q E h=>?_) (fun cdv A outer s H vs Q E hr h=>?_)
 ·obtain ⟨p,row,ws,pl,rfl,_⟩:=h;rfl
 obtain ⟨p,row,ws,pl,rfl,R,hl,q⟩:=h
 obtain ⟨hz,dx,ta,e1,e2⟩:=id R
 refine ⟨_,(ib (Dd (em (Kg (pv 0) T.wb T.Xh G_RowReader_has_more hr T.Uh .nil Cb)) (ib Oh) Nb)),?_⟩
 (walk_at "RD")
 refine Mb false (fun Q hQ=>?_) (fun hc=>nomatch hc) (fun _=>?_)
 ·(walk_at "RD")
  refine ⟨_,_,e1,rf.no _ _ _ (by decide +kernel),⟨p,row,ws,pl,rfl,R,?_⟩⟩
  rw [decide_eq_false (by omega)]
  exact ⟨_,rfl,hQ⟩
 ·(walk_at "RD")
  exact q
end
end My
namespace My
open PySem L2
theorem Od {α β:Type} {f:α→β} {l:List α} {i:Nat} {y:β} (h:(l.map f)[i]? = some y):∃ x,l[i]? = some x∧y=f x:=by
 rw [List.getElem?_map] at h
 cases e:l[i]? with
 | none=>rw [e] at h;cases h
 | some x=>rw [e] at h;exact ⟨x,rfl,(Option.some.inj h).symm⟩
noncomputable def NH (t:Adr) (H0 H:Hp) (p:Addr) (rows:List (List Str)):Prop:=∃ qs:List Addr,H p=some (.lst (qs.map V.ref))∧H0 p=none∧qs.length=rows.length∧∀ (i:Nat) (q:Addr) (r:List Str),qs[i]? = some q→rows[i]? = some r→rf t H q i r 0∧H0 q=none
noncomputable def Gn (t:Adr):Sp:=fun vs H Q _=>∃ x,vs=[.str x]∧x.length ≤ 20000∧(∀ r ∈ Sg x,r.length ≤ 1000∧∀ y ∈ r,y.length ≤ 1000)∧NoT H∧∀ p H',Xb H H'→NoT H'→NH t H H' p (Sg x)→Q (.ref p) H'
section
variable {P:Program} {w:World} {K:PySem.W.Frag} {mg:Str→Option Value} {base:Heap} {t:Adr}
theorem wu (T:Txt w K mg t):Lb P w K mg base CX0 3 t.Ti t.mj ["text"] (Gn t):=by
 have G_words:Lb P w K mg base CX0 2 t.oo t.yo ["text"] Bs:=(Kz T).mono (by decide)
 have G_RowReader_init:Lb P w K mg base CX0 1 t.ld t.Md ["self","row","told"] (bB t):=AG T
 refine T.am.ok fu (fun vs H Q E h=>?_) (fun cdv A outer s H vs Q E hr h=>?_)
 ·obtain ⟨x,rfl,_⟩:=h;rfl
 obtain ⟨x,rfl,hz,hrow,nt,q⟩:=h
 refine ⟨_,(ib (Eb (df rfl (No rfl T.zg (ab (vb G_words hr rfl T.uB T.Tr.kp T.QC .nil Cb (ab (pv 0) gb)) gb)) (Zc (sc:=lb dm) rfl (by decide +kernel)) (N:=["row","told"]) (sel:=[none,none]) (Ed (M:=["text"]) (by decide +kernel)) (Blk.of (fun _ _ _ _=>(jh (K:=K) (n:=2) rfl rfl (Tc (Ib (i:=0) (Vh (N:=["row","told"]) (by decide +kernel) rfl) rfl (Or.inl rfl) (.inr rfl)) (Tc (Ib (i:=1) (Vh (N:=["row","told"]) (by decide +kernel) rfl) rfl (Or.inl rfl) (.inr rfl)) bh)))) (fun _ _ _ _=>⟨_,ie,by first | rfl | (dsimp only [Cx.block];done) | (dsimp only [Cx.block];exact rfl)⟩) (fun _ _ _ _=>⟨_,(ck T.Ur G_RowReader_init hr rfl T.Tq T.Ik .nil Cb (ab (pv 0) (ab (pv 1) gb))),by first | rfl | (dsimp only [Cx.block];done) | (dsimp only [Cx.block];exact rfl)⟩))))),?_⟩
 (walk_at "RD")
 refine ⟨x,rfl,hz,nt,fun p H1 sm1 nt1 ⟨ps,hp,hp0,hpn,hpl,hpa⟩=>?_⟩
 (walk_at "RD")
 refine ⟨⟨_,SqL.of hp⟩,?_⟩
 have hlen:ps.length ≤ sizeLine:=by
  rw [hpl]
  unfold Sg
  rw [List.length_map]
  have:=Yl (x:=x) (y:=nl) (by rw [Zs];exact Nat.le_refl _)
  exact Nat.le_trans (show _ ≤ 40000 by omega) (by decide)
 refine Wc.enum (xs:=ps.map V.ref) (fun i ys H2=>Xb H1 H2∧NoT H2∧∃ qs:List Addr,ys=qs.map V.ref∧qs.length=i∧∀ (j:Nat) (q:Addr) (r:List Str),qs[j]? = some q→(Sg x)[j]? = some r→rf t H2 q j r 0∧H1 q=none)
  (by rw [List.length_map];exact hlen) ⟨Xb.refl H1,nt1,[],rfl,rfl,fun j q r h _=>by simp at h⟩ ?_ ?_ ?_
 ·rintro i ys H2 hi ⟨s2,n2,qs,rfl,hq,_⟩
  exact ⟨SqL.of (s2 _ _ hp),by rw [List.length_map];omega⟩
 ·rintro i v ys H2 p2 hv ⟨s2,n2,qs,rfl,hq,al⟩ hp2 N hN
  rw [List.getElem?_map] at hv
  cases hpi:ps[i]? with
  | none=>rw [hpi] at hv;cases hv
  | some pi=>
   rw [hpi] at hv
   have e:=(Option.some.inj hv).symm
   subst e
   refine rh ?_
   (walk_at "RD")
   refine ⟨Sub.name2,fun a dx ha hd hne=>?_⟩
   refine ⟨a,dx,pi,i,rfl,fb,rfl,?_⟩
   rw [Hi]
   have s3:Xb H2 (upd (upd (upd H2 p2 (.tup [.int i,.ref pi])) dx (.own a)) a (.ins t.xb dx (rdF i pi 0))):=by
    have s':Xb H2 (upd H2 p2 (.tup [.int i,.ref pi])):=jb hp2
    exact ((Xb.trans s' (jb hd)).updN (s'.free ha))
   obtain ⟨r,hr⟩:∃ r,(Sg x)[i]? = some r:=⟨(Sg x)[i]'(by rw [← hpl];exact (List.getElem?_eq_some_iff.mp hpi).1),List.getElem?_eq_getElem _⟩
   have ha2:H2 a=none:=(jb hp2).free ha
   refine hN _ _ ⟨s2.trans s3,((n2.upd).upd).upd,qs ++ [a],by rw [List.map_append];rfl,by rw [List.length_append,hq];rfl,fun j q' r' h1 h2=>?_⟩
   by_cases hj:j < qs.length
   ·rw [List.getElem?_append_left hj] at h1
    obtain ⟨z1,z2⟩:=al j q' r' h1 h2
    exact ⟨z1.same s3,z2⟩
   ·rw [List.getElem?_append_right (by omega)] at h1
    have hj0:j - qs.length=0:=by
     cases hh:j - qs.length with
     | zero=>rfl
     | succ n=>rw [hh] at h1;simp at h1
    rw [hj0] at h1
    have e3:a=q':=by simpa using h1
    subst e3
    have e4:j=i:=by omega
    subst e4
    rw [hr] at h2
    cases h2
    refine ⟨⟨hrow r (List.mem_of_getElem? hr),dx,pi,fb,?_⟩,s2.free ha2⟩
    exact s3 _ _ (s2 _ _ (hpa j pi r hpi hr).1)
 ·rintro ys H2 ⟨s2,n2,qs,rfl,hq,al⟩ p2 hp2
  refine q p2 _ ((sm1.trans s2).updN ((sm1.trans s2).free hp2)) (n2.upd) ⟨qs,fb,(sm1.trans s2).free hp2,by rw [hq,List.length_map,hpl],fun i q' r h1 h2=>?_⟩
  obtain ⟨z1,z2⟩:=al i q' r h1 h2
  exact ⟨z1.same (jb hp2),sm1.free z2⟩
end
noncomputable def KI (q:Addr) (H:Hp) (R:Hp→Prop):Prop:=∀ H',ud q H H'→NoT H'→R H'
noncomputable def gx (t:Adr):Sp:=fun vs H Q _=>∃ q row n,vs=[.ref q]∧rf t H q row [Str.ofString "ring",num n] 0∧(2 ≤ n∧n ≤ 99)∧NoT H∧KI q H (Q (.int n))
noncomputable def Ih (t:Adr) (H:Hp) (wl:Addr) (ds:List WD):Prop:=∃ as:List Addr,H wl=some (.lst (as.map V.ref))∧as.length=ds.length∧∀ (i:Nat) (a:Addr) (d:WD),as[i]? = some a→ds[i]? = some d→Bd t H a d
noncomputable def Mn (t:Adr):Sp:=fun vs H Q _=>∃ q row ws pl wl ds x,vs=[.ref q,.ref wl]∧rf t H q row ws pl∧ws[pl]? = some x∧made x Vf 8=true∧Ih t H wl ds∧ds.length ≤ 12∧(∀ d ∈ ds,d.name ≠ x)∧NoT H ∧
 ∀ H',ud q H H'→NoT H'→rf t H' q row ws (pl + 1)→Q (.str x) H'
noncomputable def JA (t:Adr):Sp:=fun vs H Q _=>∃ q row ws pl n st fi,vs=[.ref q,.int n,.int st]∧rf t H q row ws pl∧ws[pl]? = some (num fi)∧(0 ≤ st∧st < n)∧(0 ≤ fi∧fi < n)∧st ≠ fi∧n ≤ 99∧NoT H ∧
 ∀ H',ud q H H'→NoT H'→rf t H' q row ws (pl + 1)→Q (.int fi) H'
noncomputable def Os (t:Adr):Sp:=fun vs H Q _=>∃ d:WD,vs=[.str (ad d.k),.str d.name,.int d.start,.int d.fin,.int d.off,.int d.near,.int d.least]∧d.k < 3∧∀ x H',Xb H H'→(NoT H→NoT H')→Bd t H' x d→H x=none→Q (.ref x) H'
noncomputable def yA (t:Adr):Sp:=fun vs H Q _=>∃ q row n wl ds d,vs=[.ref q,.int n,.ref wl]∧rf t H q row (ug d) 0∧WOk n d∧(2 ≤ n∧n ≤ 99)∧Ih t H wl ds∧ds.length ≤ 12∧(∀ e ∈ ds,e.name ≠ d.name)∧NoT H ∧
 ∀ x H',ud q H H'→NoT H'→Bd t H' x d→H x=none→Q (.ref x) H'
theorem Ih.sameX {t:Adr} {H H':Hp} {q wl:Addr} {ds:List WD} {row:Int} {ws:List Str} {pl:Nat} (h:Ih t H wl ds) (s:ud q H H') (r:rf t H q row ws pl):Ih t H' wl ds:=by
 obtain ⟨as,e1,e2,al⟩:=h
 obtain ⟨hz,dx,ta,e3,e4⟩:=r
 refine ⟨as,s _ _ (dg e1 e3 (by intro z;cases z)) e1,e2,fun i a d h1 h2=>?_⟩
 obtain ⟨hk,dx',e5⟩:=al i a d h1 h2
 refine ⟨hk,dx',s _ _ (fun z=>?_) e5⟩
 subst z
 rw [e5] at e3
 have e6:=Option.some.inj e3
 injection e6 with _ _ e8
 have e9:(7:Nat)=3:=congrArg List.length e8
 omega
theorem Ih.same {t:Adr} {H H':Hp} {wl:Addr} {ds:List WD} (h:Ih t H wl ds) (s:Xb H H'):Ih t H' wl ds:=by
 obtain ⟨as,e1,e2,al⟩:=h
 exact ⟨as,s _ _ e1,e2,fun i a d h1 h2=>(al i a d h1 h2).same s⟩
section
variable {P:Program} {w:World} {K:PySem.W.Frag} {mg:Str→Option Value} {base:Heap} {t:Adr}
theorem qC (T:Txt w K mg t):Lb P w K mg base CX0 5 t.wg t.Mg ["reader"] (gx t):=by
 have G_RowReader_one_of:Lb P w K mg base CX0 4 t.vc t.Pc ["self","choices"] (bp K t):=(Ks T).mono (by decide)
 have G_RowReader_figures:Lb P w K mg base CX0 4 t.Sb t.jc ["self","low","high"] (gp t):=cr T
 have G_RowReader_finish:Lb P w K mg base CX0 4 t.xc t.Oc ["self"] (Yw t):=(VA T).mono (by decide)
 refine T.Mi.ok yk (fun vs H Q E h=>?_) (fun cdv A outer s H vs Q E hr h=>?_)
 ·obtain ⟨q,row,n,rfl,_⟩:=h;rfl
 obtain ⟨q,row,n,rfl,R,hn,nt,qq⟩:=h
 refine ⟨_,(cb (Hd (zd (pv 0) T.wb T.Ef G_RowReader_one_of hr T.Hf .nil Cb (ab (Df (ab pd gb)) gb)))
   (cb (Bb (i:=1) yk.nd rfl (Or.inl rfl) (zd (pv 0) T.wb T.lc G_RowReader_figures hr T.kc .nil Cb (ab (Sf rfl T.Rm T.Wm) (ab (Sf rfl T.Yo T.Ao) gb))))
   (cb (Hd (Kg (pv 0) T.wb T.Gf G_RowReader_finish hr T.Of .nil Cb))
   (ib (Eb (pv 1)))))),?_⟩
 obtain ⟨_,dx,ta,e1,e2⟩:=id R
 (walk_at "RD")
 refine ⟨_,_,e1,rf.no _ _ _ (by decide +kernel),by decide,fun p hp=>?_⟩
 have s0:Xb H (upd H p (.lst [V.str (Str.ofString "ring")])):=jb hp
 refine ⟨q,row,_,0,Str.ofString "ring",p,[Str.ofString "ring"],rfl,R.same s0,rfl,SqL.of fb,by simp,fun H1 s1 n1 R1=>?_⟩
 obtain ⟨_,dx1,ta1,f1,f2⟩:=id R1
 (walk_at "RD")
 refine ⟨_,_,f1,rf.no _ _ _ (by decide +kernel),?_⟩
 have nt1:=n1 nt.upd
 refine ⟨q,row,_,1,num n,2,99,n,rfl,R1,rfl,vk (by omega) (by omega) hn.1 hn.2,nt1,fun H2 s2 n2 R2=>?_⟩
 obtain ⟨_,dx2,ta2,g1,g2⟩:=id R2
 (walk_at "RD")
 refine ⟨_,_,g1,rf.no _ _ _ (by decide +kernel),?_⟩
 refine ⟨q,row,_,2,rfl,R2,rfl,?_⟩
 (walk_at "RD")
 exact qq H2 (((ud.of s0).trans s1).trans s2) (n2 nt1)
theorem su (T:Txt w K mg t):Lb P w K mg base CX0 3 t.Pd t.Ud ["reader","ways"] (Mn t):=by
 have G_RowReader_ahead:Lb P w K mg base CX0 2 t.Ub t.gc ["self"] (Yi t):=(Zk T).mono (by decide)
 have G_RowReader_take:Lb P w K mg base CX0 2 t.yc t.Mc ["self","good"] (uo t):=(jr T).mono (by decide)
 have G_is_name:Lb P w K mg base CX0 2 t.gj t.Lj ["word"] Gv:=SD T
 refine T.gf.ok Qg (fun vs H Q E h=>?_) (fun cdv A outer s H vs Q E hr h=>?_)
 ·obtain ⟨q,row,ws,pl,wl,ds,x,rfl,_⟩:=h;rfl
 obtain ⟨q,row,ws,pl,wl,ds,x,rfl,R,hx,hm,hW,hdl,hnew,nt,qq⟩:=h
 refine ⟨_,(cb (Bb (i:=2) Qg.nd rfl (Or.inl rfl) (Kg (pv 0) T.wb T.Cd G_RowReader_ahead hr T.Gd .nil Cb))
   (cb (Hd (zd (pv 0) T.wb T.Ae G_RowReader_take hr T.Be .nil Cb (ab (cB (vb G_is_name hr rfl T.Ex T.rm.kp T.lw .nil Cb (ab (pv 2) gb)) (js (Nd Dq (pv 2) (df rfl (ff (pv 1)) (Zc (sc:=lb lf) rfl (by decide +kernel)) (N:=["way"]) (sel:=[none]) (Ed (M:=["reader","ways","name"]) (by decide +kernel)) (Blk.of (fun _ _ _ _=>(Ib (i:=0) (Vh (N:=["way"]) (by decide +kernel) rfl) rfl (Or.inl rfl))) (fun _ _ _ _=>⟨_,ie,by first | rfl | (dsimp only [Cx.block];done) | (dsimp only [Cx.block];exact rfl)⟩) (fun _ _ _ _=>⟨_,(Ac (pv 0) rfl),by first | rfl | (dsimp only [Cx.block];done) | (dsimp only [Cx.block];exact rfl)⟩))) (by with_unfolding_all rfl)))) gb)))
   (ib (Eb (pv 2))))),?_⟩
 have hlt:pl < ws.length:=(List.getElem?_eq_some_iff.mp hx).1
 have hg:ws.getD pl (Str.ofString "")=x:=by rw [List.getD_eq_getElem?_getD,hx];rfl
 obtain ⟨hz,dx,ta,e1,e2⟩:=id R
 (walk_at "RD")
 refine ⟨_,_,e1,rf.no _ _ _ (by decide +kernel),⟨q,row,ws,pl,rfl,R,by omega,?_⟩⟩
 rw [hg]
 (walk_at "RD")
 refine ⟨_,_,e1,rf.no _ _ _ (by decide +kernel),?_⟩
 refine ⟨x,rfl,hz.2 x (List.mem_of_getElem? hx),nt,?_⟩
 rw [hm]
 (walk_at "RD")
 obtain ⟨as,w1,w2,al⟩:=hW
 refine ⟨⟨_,SqL.of w1⟩,?_⟩
 have hle:(as.map V.ref).length ≤ sizeLine:=by rw [List.length_map,w2];exact Nat.le_trans hdl (by decide)
 refine Wc.list_zs (xs:=as.map V.ref) (zs:=ds.map fun d=>V.str d.name) (SqL.of w1) hle (by rw [List.length_map,List.length_map,w2]) (fun i v z N hv hz' hN=>?_) (fun p hp=>?_)
 ·obtain ⟨a,ha,rfl⟩:=Od hv
  obtain ⟨d,hd,rfl⟩:=Od hz'
  (walk_at "RD")
  exact ⟨Sub.name,_,(al i a d ha hd).f_name T,hN⟩
 ·(walk_at "RD")
  have e0:(ds.map fun d=>V.str d.name)=nc (ds.map (·.name)):=by unfold nc;rw [List.map_map];rfl
  rw [e0]
  refine ⟨_,.inl (SqL.of fb),rfl,io _,?_⟩
  rw [wt,decide_eq_false (fun z=>by
   obtain ⟨d,hd,e⟩:=List.mem_map.mp z
   exact hnew d hd e)]
  have s0:Xb H (upd H p (.lst (nc (ds.map (·.name))))):=jb hp
  exact ⟨q,row,ws,pl,rfl,R.same s0,fun H' s1 n1 R1=>qq H' ((ud.of s0).trans s1) (n1 nt.upd) R1⟩
theorem uF (T:Txt w K mg t):Lb P w K mg base CX0 5 t.Kh t.Ph ["reader","places","start"] (JA t):=by
 have G_RowReader_ahead:Lb P w K mg base CX0 4 t.Ub t.gc ["self"] (Yi t):=(Zk T).mono (by decide)
 have G_RowReader_figures:Lb P w K mg base CX0 4 t.Sb t.jc ["self","low","high"] (gp t):=cr T
 refine T.qk.ok er (fun vs H Q E h=>?_) (fun cdv A outer s H vs Q E hr h=>?_)
 ·obtain ⟨q,row,ws,pl,n,st,fi,rfl,_⟩:=h;rfl
 obtain ⟨q,row,ws,pl,n,st,fi,rfl,R,hx,hst,hfi,hne,hn,nt,qq⟩:=h
 refine ⟨_,(cb (Dd (Jb Tf (Kg (pv 0) T.wb T.Cd G_RowReader_ahead hr T.Gd .nil Cb) (de yh rfl T.BD Uj (ab (pv 2) gb)) (Ob _)) (ib Oh) Nb)
   (ib (Eb (zd (pv 0) T.wb T.lc G_RowReader_figures hr T.kc .nil Cb (ab db (ab (Db uf (pv 1) db) gb)))))),?_⟩
 have hlt:pl < ws.length:=(List.getElem?_eq_some_iff.mp hx).1
 have hg:ws.getD pl (Str.ofString "")=num fi:=by rw [List.getD_eq_getElem?_getD,hx];rfl
 obtain ⟨hz,dx,ta,e1,e2⟩:=id R
 (walk_at "RD")
 refine Mb false (fun Q hQ=>?_) (fun hc=>nomatch hc) (fun _=>?_)
 ·(walk_at "RD")
  refine ⟨_,_,e1,rf.no _ _ _ (by decide +kernel),⟨q,row,ws,pl,rfl,R,by omega,?_⟩⟩
  rw [hg]
  (walk_at "RD")
  refine ⟨Em (by omega),?_⟩
  rw [decide_eq_false (fun z=>hne (EC (by omega) (by omega) (by omega) (by omega) z).symm)]
  exact hQ
 ·(walk_at "RD")
  refine ⟨_,_,e1,rf.no _ _ _ (by decide +kernel),⟨q,row,ws,pl,num fi,0,n - 1,fi,rfl,R,hx,vk (by omega) (by omega) (by omega) (by omega),nt,fun H1 s1 n1 R1=>?_⟩⟩
  exact qq H1 s1 (n1 nt) R1
theorem FE {t:Adr} {H:Hp} {x dx:Addr} {d:WD} (hx:H x=none) (hd:H dx=none) (hk:d.k < 3) :
  Xb H (upd (upd (upd H dx (.own x)) x (.ins (t.cw d.k) dx [])) x (.ins (t.cw d.k) dx (cn d)))∧(NoT H→NoT (upd (upd (upd H dx (.own x)) x (.ins (t.cw d.k) dx [])) x (.ins (t.cw d.k) dx (cn d)))) ∧
   Bd t (upd (upd (upd H dx (.own x)) x (.ins (t.cw d.k) dx [])) x (.ins (t.cw d.k) dx (cn d))) x d:=
 ⟨(((Xb.refl H).updN hd).updN hx).updN hx,fun n=>((n.upd).upd).upd,hk,dx,fb⟩
theorem Oy (T:Txt w K mg t):Lb P w K mg base CX0 4 t.Lh t.Qh ["sort","name","start","end","off","near","least"] (Os t):=by
 have G_CarWay_init:Lb P w K mg base CX0 2 t.Td t.Re ["self","name","start","end","off","near","least"] (Jh t 0):=SC T
 have G_FootWay_init:Lb P w K mg base CX0 2 t.Ld t.qe ["self","name","start","end","off","near","least"] (Jh t 1):=Lz T
 have G_TramWay_init:Lb P w K mg base CX0 2 t.Kd t.pe ["self","name","start","end","off","near","least"] (Jh t 2):=uA T
 refine T.Sj.ok Sq (fun vs H Q E h=>?_) (fun cdv A outer s H vs Q E hr h=>?_)
 ·obtain ⟨d,rfl,_⟩:=h;rfl
 obtain ⟨d,rfl,hk,q⟩:=h
 refine ⟨_,(cb (Dd (Jb Tf (pv 0) pd (Ob _)) (ib (Eb (ck T.iA G_CarWay_init hr rfl T.xA T.Mo .nil Cb (ab (pv 1) (ab (pv 2) (ab (pv 3) (ab (pv 4) (ab (pv 5) (ab (pv 6) gb))))))))) Nb)
   (cb (Dd (Jb Tf (pv 0) pd (Ob _)) (ib (Eb (ck T.Dv G_FootWay_init hr rfl T.Sw T.rn .nil Cb (ab (pv 1) (ab (pv 2) (ab (pv 3) (ab (pv 4) (ab (pv 5) (ab (pv 6) gb))))))))) Nb)
   (ib (Eb (ck T.Nw G_TramWay_init hr rfl T.av T.dn .nil Cb (ab (pv 1) (ab (pv 2) (ab (pv 3) (ab (pv 4) (ab (pv 5) (ab (pv 6) gb))))))))))),?_⟩
 have fin:∀ (x dx:Addr),H x=none→H dx=none→Q (.ref x) (upd (upd (upd H dx (.own x)) x (.ins (t.cw d.k) dx [])) x (.ins (t.cw d.k) dx (cn d))):=fun x dx hx hd=>by
  obtain ⟨m1,m2,m3⟩:=FE (t:=t) (d:=d) hx hd hk
  exact q x _ m1 m2 m3 hx
 obtain ⟨k,name,start,fi,off,near,least⟩:=d
 match k,hk with
 | 0,_=>
  (walk_at "RD"; repeat (simp only [ad];walk_at "RD"))
  refine Mb true (fun Q hQ=>?_) (fun _=>?_) (fun hc=>nomatch hc)
  ·(walk_at "RD")
   exact hQ
  ·(walk_at "RD")
   exact fun x dx hx hd hne=>⟨x,dx,⟨0,name,start,fi,off,near,least⟩,rfl,rfl,fb,rfl,fin x dx hx hd⟩
 | 1,_=>
  (walk_at "RD"; repeat (simp only [ad];walk_at "RD"))
  refine Mb false (fun Q hQ=>?_) (fun hc=>nomatch hc) (fun _=>?_)
  ·(walk_at "RD")
   rw [decide_eq_false (by decide +kernel)]
   exact hQ
  ·(walk_at "RD")
   refine Mb true (fun Q hQ=>?_) (fun _=>?_) (fun hc=>nomatch hc)
   ·(walk_at "RD")
    exact hQ
   ·(walk_at "RD")
    exact fun x dx hx hd hne=>⟨x,dx,⟨1,name,start,fi,off,near,least⟩,rfl,rfl,fb,rfl,fin x dx hx hd⟩
 | 2,_=>
  (walk_at "RD"; repeat (simp only [ad];walk_at "RD"))
  refine Mb false (fun Q hQ=>?_) (fun hc=>nomatch hc) (fun _=>?_)
  ·(walk_at "RD")
   rw [decide_eq_false (by decide +kernel)]
   exact hQ
  ·(walk_at "RD")
   refine Mb false (fun Q hQ=>?_) (fun hc=>nomatch hc) (fun _=>?_)
   ·(walk_at "RD")
    rw [decide_eq_false (by decide +kernel)]
    exact hQ
   ·(walk_at "RD")
    exact fun x dx hx hd hne=>⟨x,dx,⟨2,name,start,fi,off,near,least⟩,rfl,rfl,fb,rfl,fin x dx hx hd⟩
theorem lG (T:Txt w K mg t):Lb P w K mg base CX0 6 t.Mh t.Nh ["reader","places","ways"] (yA t):=by
 have G_RowReader_one_of:Lb P w K mg base CX0 5 t.vc t.Pc ["self","choices"] (bp K t):=(Ks T).mono (by decide)
 have G_RowReader_figures:Lb P w K mg base CX0 5 t.Sb t.jc ["self","low","high"] (gp t):=(cr T).mono (by decide)
 have G_RowReader_finish:Lb P w K mg base CX0 5 t.xc t.Oc ["self"] (Yw t):=(VA T).mono (by decide)
 have G_read_new_name:Lb P w K mg base CX0 5 t.Pd t.Ud ["reader","ways"] (Mn t):=(su T).mono (by decide)
 have G_read_end:Lb P w K mg base CX0 5 t.Kh t.Ph ["reader","places","start"] (JA t):=uF T
 have G_made_way:Lb P w K mg base CX0 5 t.Lh t.Qh ["sort","name","start","end","off","near","least"] (Os t):=(Oy T).mono (by decide)
 refine T.wk.ok yd (fun vs H Q E h=>?_) (fun cdv A outer s H vs Q E hr h=>?_)
 ·obtain ⟨q,row,n,wl,ds,d,rfl,_⟩:=h;rfl
 obtain ⟨q,row,n,wl,ds,d,rfl,R,hd,hn,hW,hdl,hnew,nt,qq⟩:=h
 refine ⟨_,(cb (Bb (i:=3) yd.nd rfl (Or.inl rfl) (zd (pv 0) T.wb T.Ef G_RowReader_one_of hr T.Hf .nil Cb (ab (Df (ab pd (ab pd (ab pd gb)))) gb)))
   (cb (Bb (i:=4) yd.nd rfl (Or.inl rfl) (vb G_read_new_name hr rfl T.Fm T.gf.kp T.Hl .nil Cb (ab (pv 0) (ab (pv 2) gb))))
   (cb (Bb (i:=5) yd.nd rfl (Or.inl rfl) (zd (pv 0) T.wb T.lc G_RowReader_figures hr T.kc .nil Cb (ab db (ab (Db uf (pv 1) db) gb))))
   (cb (Bb (i:=6) yd.nd rfl (Or.inl rfl) (vb G_read_end hr rfl T.ku T.qk.kp T.Mt .nil Cb (ab (pv 0) (ab (pv 1) (ab (pv 5) gb)))))
   (cb (Bb (i:=7) yd.nd rfl (Or.inl rfl) (zd (pv 0) T.wb T.lc G_RowReader_figures hr T.kc .nil Cb (ab db (ab (Sf rfl T.qu T.Vt) gb))))
   (cb (Bb (i:=8) yd.nd rfl (Or.inl rfl) (zd (pv 0) T.wb T.lc G_RowReader_figures hr T.kc .nil Cb (ab db (ab (Sf rfl T.Vr T.gr) gb))))
   (cb (Bb (i:=9) yd.nd rfl (Or.inl rfl) (zd (pv 0) T.wb T.lc G_RowReader_figures hr T.kc .nil Cb (ab db (ab (Sf rfl T.Hq T.nq) gb))))
   (cb (Hd (Kg (pv 0) T.wb T.Gf G_RowReader_finish hr T.Of .nil Cb))
   (ib (Eb (vb G_made_way hr rfl T.Tt T.Sj.kp T.Bt .nil Cb (ab (pv 3) (ab (pv 4) (ab (pv 5) (ab (pv 6) (ab (pv 7) (ab (pv 8) (ab (pv 9) gb)))))))))))))))))),?_⟩
 have b1:=hd.st;have b2:=hd.fi;have b3:=hd.of;have b4:=hd.nr;have b5:=hd.le
 obtain ⟨_,dx,ta,e1,e2⟩:=id R
 (walk_at "RD")
 refine ⟨_,_,e1,rf.no _ _ _ (by decide +kernel),by decide,fun p hp=>?_⟩
 have s0:Xb H (upd H p (.lst [V.str (Str.ofString "car"),V.str (Str.ofString "foot"),V.str (Str.ofString "tram")])):=jb hp
 have hin:ad d.k ∈ [Str.ofString "car",Str.ofString "foot",Str.ofString "tram"]:=by
  have:=hd.k
  match d.k,this with
  | 0,_=>simp [ad]
  | 1,_=>simp [ad]
  | 2,_=>simp [ad]
 refine ⟨q,row,_,0,ad d.k,p,[Str.ofString "car",Str.ofString "foot",Str.ofString "tram"],rfl,R.same s0,rfl,SqL.of fb,hin,fun H1 s1 n1 R1=>?_⟩
 have x1:ud q H H1:=(ud.of s0).trans s1
 have m1:=n1 nt.upd
 (walk_at "RD")
 refine ⟨q,row,_,1,wl,ds,d.name,rfl,R1,rfl,hd.nm,hW.sameX x1 R,hdl,hnew,m1,fun H2 s2 m2 R2=>?_⟩
 obtain ⟨_,dx2,ta2,f2,g2⟩:=id R2
 have x2:=x1.trans s2
 (walk_at "RD")
 refine ⟨_,_,f2,rf.no _ _ _ (by decide +kernel),⟨q,row,_,2,num d.start,0,n - 1,d.start,rfl,R2,rfl,vk (by omega) (by omega) (by omega) (by omega),m2,fun H3 s3 n3 R3=>?_⟩⟩
 have x3:=x2.trans s3
 have m3:=n3 m2
 (walk_at "RD")
 refine ⟨q,row,_,3,n,d.start,d.fin,rfl,R3,rfl,b1,b2,hd.ne,hn.2,m3,fun H4 s4 m4 R4=>?_⟩
 obtain ⟨_,dx4,ta4,f4,g4⟩:=id R4
 have x4:=x3.trans s4
 (walk_at "RD")
 refine ⟨_,_,f4,rf.no _ _ _ (by decide +kernel),⟨q,row,_,4,num d.off,0,30,d.off,rfl,R4,rfl,vk (by omega) (by omega) (by omega) (by omega),m4,fun H5 s5 n5 R5=>?_⟩⟩
 obtain ⟨_,dx5,ta5,f5,g5⟩:=id R5
 have x5:=x4.trans s5
 have m5:=n5 m4
 (walk_at "RD")
 refine ⟨_,_,f5,rf.no _ _ _ (by decide +kernel),⟨q,row,_,5,num d.near,0,30,d.near,rfl,R5,rfl,vk (by omega) (by omega) (by omega) (by omega),m5,fun H6 s6 n6 R6=>?_⟩⟩
 obtain ⟨_,dx6,ta6,f6,g6⟩:=id R6
 have x6:=x5.trans s6
 have m6:=n6 m5
 (walk_at "RD")
 refine ⟨_,_,f6,rf.no _ _ _ (by decide +kernel),⟨q,row,_,6,num d.least,1,60,d.least,rfl,R6,rfl,vk (by omega) (by omega) (by omega) (by omega),m6,fun H7 s7 n7 R7=>?_⟩⟩
 obtain ⟨_,dx7,ta7,f7,g7⟩:=id R7
 have x7:=x6.trans s7
 have m7:=n7 m6
 (walk_at "RD")
 refine ⟨_,_,f7,rf.no _ _ _ (by decide +kernel),⟨q,row,_,7,rfl,R7,rfl,?_⟩⟩
 (walk_at "RD")
 refine ⟨d,rfl,hd.k,fun x H8 s8 n8 w8 hx8=>?_⟩
 refine qq x H8 (x7.trans (ud.of s8)) (n8 m7) w8 ?_
 cases hH:H x with
 | none=>rfl
 | some u=>
  by_cases hxq:x=q
  ·subst hxq;rw [f7] at hx8;cases hx8
  ·rw [x7 x u hxq hH] at hx8;cases hx8
end
end My
namespace My
open PySem L2
noncomputable abbrev Yt:List Str:=[Str.ofString "places",Str.ofString "ways",Str.ofString "numbers"]
noncomputable def cF (n:Int) (wl nd:Addr):List (Str × V):=[(Str.ofString "places",.int n),(Str.ofString "ways",.ref wl),(Str.ofString "numbers",.ref nd)]
theorem ko (n:Int) (wl nd:Addr):(cF n wl nd).map (·.1)=Yt:=rfl
noncomputable def nm (ds:List WD) (i:Nat):Str:=((ds[i]?).map (·.name)).getD (Str.ofString "")
noncomputable def Pu (ds:List WD) (i:Nat):List (Key × V):=(List.range i).map fun j=>(Sum.inr (nm ds j),V.int j)
theorem nu {ds:List WD} {i:Nat} {d:WD} (h:ds[i]? = some d):nm ds i=d.name:=by unfold nm;rw [h];rfl
theorem qx {ds:List WD} (h:(ds.map (·.name)).Nodup) {i j:Nat} (hi:i < ds.length) (hj:j < ds.length) (e:nm ds i=nm ds j):i=j:=by
 rw [nu (List.getElem?_eq_getElem hi),nu (List.getElem?_eq_getElem hj)] at e
 have:=(List.getElem_inj (xs:=ds.map (·.name)) (i:=i) (j:=j) (h₀:=by rw [List.length_map];exact hi) (h₁:=by rw [List.length_map];exact hj) h).mp (by rw [List.getElem_map,List.getElem_map];exact e)
 exact this
theorem yy {ds:List WD} (h:(ds.map (·.name)).Nodup) {i:Nat}:∀ {n:Nat},i < n→n ≤ ds.length→Zh (Pu ds n) (Sum.inr (nm ds i))=some (.int i):=by
 intro n
 induction n with
 | zero=>intro hi _;omega
 | succ n ih=>
  intro hi hn
  unfold Pu Zh
  rw [List.range_succ,List.map_append,List.find?_append]
  by_cases c:i < n
  ·have:=ih c (by omega)
   unfold Pu Zh at this
   cases e:List.find? (fun kv=>decide (kv.fst=Sum.inr (nm ds i))) (List.map (fun j=>((Sum.inr (nm ds j):Key),V.int j)) (List.range n)) with
   | none=>rw [e] at this;cases this
   | some p=>rw [e] at this;exact this
  ·have e:i=n:=by omega
   subst e
   have no:List.find? (fun kv=>decide (kv.fst=Sum.inr (nm ds i))) (List.map (fun j=>((Sum.inr (nm ds j):Key),V.int j)) (List.range i))=none:=by
    rw [List.find?_eq_none]
    intro p hp
    obtain ⟨j,hj,rfl⟩:=List.mem_map.mp hp
    have hj':=List.mem_range.mp hj
    simp only [decide_eq_true_eq]
    intro z
    have:=qx h (by omega) (by omega) (Sum.inr.inj z)
    omega
   rw [no]
   simp
theorem my {ds:List WD} (h:(ds.map (·.name)).Nodup) {n:Nat} (hn:n < ds.length):Jm (Pu ds n) (Sum.inr (nm ds n)) (.int n)=Pu ds (n + 1):=by
 unfold Jm
 have no:((Pu ds n).any fun kv=>decide (kv.1=Sum.inr (nm ds n)))=false:=by
  rw [List.any_eq_false]
  intro p hp
  obtain ⟨j,hj,rfl⟩:=List.mem_map.mp hp
  have hj':=List.mem_range.mp hj
  simp only [decide_eq_true_eq]
  intro z
  have:=qx h (by omega) hn (Sum.inr.inj z)
  omega
 rw [no]
 unfold Pu
 rw [List.range_succ,List.map_append]
 rfl
theorem Yj {H H1 H2:Hp} {q:Addr} (a:Xb H H1) (b:ud q H1 H2) (n:H q=none):Xb H H2:=fun c u e=>b c u (zb e n) (a c u e)
theorem oF {t:Adr} {H:Hp} {p q:Addr} {i j:Int} {ws vs:List Str} {k l:Nat} (a:rf t H p i ws k) (b:rf t H q j vs l) (n:i ≠ j):p ≠ q:=fun z=>by
 subst z
 obtain ⟨_,dx,ta,e1,_⟩:=a
 obtain ⟨_,dx',ta',e2,_⟩:=b
 rw [e1] at e2
 have e3:=Option.some.inj e2
 injection e3 with _ _ e4
 unfold rdF at e4
 injection e4 with e5 _
 injection e5 with _ e6
 injection e6 with e7
 exact n e7
theorem Lw {t:Adr} {H:Hp} {p q:Addr} {d:WD} {j:Int} {vs:List Str} {l:Nat} (a:Bd t H p d) (b:rf t H q j vs l):p ≠ q:=fun z=>by
 subst z
 obtain ⟨_,dx,e1⟩:=a
 obtain ⟨_,dx',ta',e2,_⟩:=b
 rw [e1] at e2
 have e3:=Option.some.inj e2
 injection e3 with _ _ e4
 exact absurd (congrArg List.length e4) (by show ¬ (7:Nat)=3;decide)
noncomputable def Sd (t:Adr) (H:Hp) (c:Addr) (n:Int) (ds:List WD):Prop:=
 ((ds.map (·.name)).Nodup∧ds.length ≤ 12)∧∃ dx wl nd,H c=some (.ins t.Hb dx (cF n wl nd))∧Ih t H wl ds∧H nd=some (.dK (Pu ds ds.length))
theorem Sd.same {t:Adr} {H H':Hp} {c:Addr} {n:Int} {ds:List WD} (h:Sd t H c n ds) (s:Xb H H'):Sd t H' c n ds:=by
 obtain ⟨h0,dx,wl,nd,e1,e2,e3⟩:=h
 exact ⟨h0,dx,wl,nd,s _ _ e1,e2.same s,s _ _ e3⟩
theorem ZD {m:Str} (n:Int) (wl nd:Addr) (h:Yt.contains m=false):(cF n wl nd).lookup m=none:=Wi Yt (ko ..) h
section
variable {w:World} {K:PySem.W.Frag} {mg:Str→Option Value} {t:Adr} {H:Hp} {c dx wl nd:Addr} {n:Int}
theorem Hy (T:Txt w K mg t) (e:H c=some (.ins t.Hb dx (cF n wl nd))):Ci K H c (Str.ofString "places") (.int n):=⟨_,dx,_,e,T.zc,T.Mf,Jd Yt 0 (ko ..) (by decide +kernel) rfl⟩
theorem CF (T:Txt w K mg t) (e:H c=some (.ins t.Hb dx (cF n wl nd))):Ci K H c (Str.ofString "ways") (.ref wl):=⟨_,dx,_,e,T.zc,T.Pg,Jd Yt 1 (ko ..) (by decide +kernel) rfl⟩
theorem Cm (T:Txt w K mg t) (e:H c=some (.ins t.Hb dx (cF n wl nd))):Ci K H c (Str.ofString "numbers") (.ref nd):=⟨_,dx,_,e,T.zc,T.ef,Jd Yt 2 (ko ..) (by decide +kernel) rfl⟩
end
noncomputable def iB (t:Adr):Sp:=fun vs H Q _=>∃ c dx n wl ds,vs=[.ref c,.int n,.ref wl]∧H c=some (.ins t.Hb dx [])∧Ih t H wl ds∧(ds.map (·.name)).Nodup∧ds.length ≤ 12∧NoT H ∧
 ∀ H',ud c H H'→NoT H'→Sd t H' c n ds→Q .non H'
noncomputable def jE (t:Adr):Sp:=fun vs H Q _=>∃ n ds,vs=[.str (Oo n ds)]∧COk n ds∧NoT H∧∀ c H',Xb H H'→NoT H'→Sd t H' c n ds→Q (.ref c) H'
noncomputable def zp (t:Adr):Sp:=fun vs H Q _=>∃ c n ds,∃ i:Nat,∃ d,vs=[.ref c,.str d.name]∧Sd t H c n ds∧ds[i]? = some d∧Q (.int (i:Nat)) H
noncomputable def Ui (t:Adr):Sp:=fun vs H Q _=>∃ c n ds,∃ i:Nat,∃ d,vs=[.ref c,.str d.name]∧Sd t H c n ds∧ds[i]? = some d∧∀ a,Bd t H a d→Q (.ref a) H
section
variable {P:Program} {w:World} {K:PySem.W.Frag} {mg:Str→Option Value} {base:Heap} {t:Adr}
theorem JE (T:Txt w K mg t):Lb P w K mg base CX0 1 t.Ad t.ae ["self","places","ways"] (iB t):=by
 refine T.lh.ok Id (fun vs H Q E h=>?_) (fun cdv A outer s H vs Q E hr h=>?_)
 ·obtain ⟨c,dx,n,wl,ds,rfl,_⟩:=h;rfl
 obtain ⟨c,dx,n,wl,ds,rfl,hc,hW,hnd,hdl,nt,q⟩:=h
 have hu:=Ky hr
 refine ⟨_,(cb (De (pv 0) (pv 1) rfl)
   (cb (De (pv 0) (pv 2) rfl)
   (cb (De (pv 0) wA rfl)
   (ib (sf PassesOwn.never rfl (No rfl T.zg (ab (pv 2) gb)) (jh (K:=K) (n:=2) rfl rfl (Tc (Ib (i:=3) Id.nd rfl (Or.inl rfl) (.inl rfl)) (Tc (Ib (i:=4) Id.nd rfl (Or.inl rfl) (.inl rfl)) bh))) (ib (aC hu (Ac (pv 0) rfl) (Ac (pv 4) rfl) (pv 3) rfl))))))),?_⟩
 (walk_at "RD")
 refine ⟨_,_,_,hc,T.zc,T.Mf,by decide,?_⟩
 refine ⟨_,_,_,fb,T.zc,T.Pg,Hk (n:=999) (by decide),fun nd hn=>?_⟩
 simp only [Hi] at hn ⊢
 rw [show eg (Str.ofString "places") (V.int n) ([]:List (Str × V))=[(Str.ofString "places",V.int n)] from rfl,show eg (Str.ofString "ways") (V.ref wl) [(Str.ofString "places",V.int n)]=[(Str.ofString "places",V.int n),(Str.ofString "ways",V.ref wl)] from ed [Str.ofString "places"] rfl (by decide +kernel)] at hn ⊢
 have hnc:c ≠ nd:=fun z=>by subst z;rw [fb] at hn;cases hn
 refine ⟨t.Hb,dx,[(Str.ofString "places",V.int n),(Str.ofString "ways",V.ref wl)],by rw [qb hnc];exact fb,T.zc,T.ef,show (2:Nat) < 1000 by decide,?_⟩
 rw [show eg (Str.ofString "numbers") (V.ref nd) [(Str.ofString "places",V.int n),(Str.ofString "ways",V.ref wl)]=cF n wl nd from ed [Str.ofString "places",Str.ofString "ways"] rfl (by decide +kernel)]
 obtain ⟨as,w1,w2,al⟩:=hW
 have hHn:H nd=none:=by rw [qb (Ne.symm hnc)] at hn;exact hn
 have sx:ud c H (upd (upd (upd H c (.ins t.Hb dx [(Str.ofString "places",V.int n),(Str.ofString "ways",V.ref wl)])) nd (.dK [])) c (.ins t.Hb dx (cF n wl nd))):=fun b u hb e=>by
  rw [qb hb,qb (zb e hHn),qb hb];exact e
 have hwc:wl ≠ c:=dg w1 hc (by intro z;cases z)
 refine ⟨⟨_,SqL.of (sx _ _ hwc w1)⟩,?_⟩
 refine Ni.enum (xs:=as.map V.ref) (fun i σ H'=>(∃ x y,σ=[some (V.ref c),some (V.int n),some (V.ref wl),x,y])∧H' c=some (.ins t.Hb dx (cF n wl nd))∧H' nd=some (.dK (Pu ds i))∧ud c H H'∧NoT H') ?_ ?_ ?_ ?_
 ·exact ⟨⟨_,_,rfl⟩,fb,by rw [qb (Ne.symm hnc),fb];rfl,sx,((nt.upd).upd).upd⟩
 ·rintro i σ H' hi ⟨_,_,_,sx',_⟩
  exact SqL.of (sx' _ _ hwc w1)
 ·rintro i v σ H' p hv ⟨⟨x,y,rfl⟩,h1,h2,sx',nt'⟩ hp
  obtain ⟨a,ha,rfl⟩:=Od hv
  obtain ⟨hi,_⟩:=List.getElem?_eq_some_iff.mp ha
  have hid:i < ds.length:=by omega
  have hd:ds[i]? = some ds[i]:=List.getElem?_eq_getElem hid
  have Wa:Bd t H a ds[i]:=al i a _ ha hd
  have hac:a ≠ c:=by
   obtain ⟨_,dx',e⟩:=Wa
   intro z
   subst z
   rw [hc] at e
   have e2:=Option.some.inj e
   injection e2 with _ _ e3
   exact absurd (congrArg List.length e3) (by show ¬ (0:Nat)=7;decide)
  have Wa':Bd t H' a ds[i]:=⟨Wa.1,Wa.2.imp fun dx' e=>sx' _ _ hac e⟩
  have sp:Xb H' (upd H' p (.tup [.int i,.ref a])):=jb hp
  refine rh ?_
  (walk_at "RD")
  refine ⟨_,Cm T (sp _ _ h1),_,(Wa'.same sp).f_name T,_,rfl,_,vx.k (k:=Sum.inr ds[i].name) (sp _ _ h2) (Nat.lt_of_le_of_lt (show (Pu ds i).length ≤ 12 by unfold Pu;rw [List.length_map,List.length_range];omega) (by decide)),?_⟩
  rw [← nu hd,my hnd hid]
  refine ⟨⟨_,rfl⟩,?_,fb,fun b u hb e=>?_,(nt'.upd).upd⟩
  ·rw [qb hnc];exact sp _ _ h1
  ·rw [qb (zb e hHn)];exact sp _ _ (sx' b u hb e)
 ·rintro σ H' ⟨⟨x,y,rfl⟩,h1,h2,sx',nt'⟩
  (walk_at "RD")
  rw [List.length_map,w2] at h2
  refine q H' sx' nt' ⟨⟨hnd,hdl⟩,dx,wl,nd,h1,⟨as,sx' _ _ hwc w1,w2,fun i a d h3 h4=>?_⟩,h2⟩
  have Wa:=al i a d h3 h4
  have hac:a ≠ c:=by
   obtain ⟨_,dx',e⟩:=Wa
   intro z
   subst z
   rw [hc] at e
   have e2:=Option.some.inj e
   injection e2 with _ _ e3
   exact absurd (congrArg List.length e3) (by show ¬ (0:Nat)=7;decide)
  exact ⟨Wa.1,Wa.2.imp fun dx' e=>sx' _ _ hac e⟩
theorem Ox (T:Txt w K mg t):Lb P w K mg base CX0 1 t.Yc t.Fd ["self","name"] (zp t):=by
 refine T.rg.ok Pi (fun vs H Q E h=>?_) (fun cdv A outer s H vs Q E hr h=>?_)
 ·obtain ⟨c,n,ds,i,d,rfl,_⟩:=h;rfl
 obtain ⟨c,n,ds,i,d,rfl,⟨⟨hnd,hdl⟩,dx,wl,nd,e1,e2,e3⟩,hd,q⟩:=h
 have hu:=Ky hr
 have hv:Zh (Pu ds ds.length) (Sum.inr d.name)=some (.int i):=by
  rw [← nu hd]
  exact yy hnd (List.getElem?_eq_some_iff.mp hd).1 (Nat.le_refl _)
 have hg:Xm H nd (.str d.name) (some (.int i)):=by rw [← hv];exact Xm.k (k:=Sum.inr d.name) e3
 refine ⟨_,(cb (Dd (nE (Rx hu (pv 1) (Ac (pv 0) rfl))) (ib Oh) Nb)
   (ib (Eb (rC hu (Ac (pv 0) rfl) (pv 1) (fun _ _=>rfl))))),?_⟩
 (walk_at "RD")
 refine Mb false (fun Q hQ=>?_) (fun hc=>nomatch hc) (fun _=>?_)
 ·(walk_at "RD")
  refine ⟨_,Cm T e1,_,rfl,_,hg,?_⟩
  exact hQ
 ·(walk_at "RD")
  exact ⟨_,Cm T e1,_,rfl,_,hg,q⟩
theorem Jl (T:Txt w K mg t):Lb P w K mg base CX0 2 t.ic t.Jc ["self","name"] (Ui t):=by
 have G_Crossing_number:Lb P w K mg base CX0 1 t.Yc t.Fd ["self","name"] (zp t):=Ox T
 refine T.lg.ok Ij (fun vs H Q E h=>?_) (fun cdv A outer s H vs Q E hr h=>?_)
 ·obtain ⟨c,n,ds,i,d,rfl,_⟩:=h;rfl
 obtain ⟨c,n,ds,i,d,rfl,C,hd,q⟩:=h
 obtain ⟨⟨hnd,hdl⟩,dx,wl,nd,e1,⟨as,w1,w2,al⟩,e3⟩:=id C
 refine ⟨_,(ib (Eb (Qb Dc (Ac (pv 0) rfl) (zd (pv 0) T.zc T.ak G_Crossing_number hr T.Tj .nil Cb (ab (pv 1) gb)) (fun _ _=>rfl)))),?_⟩
 (walk_at "RD")
 refine ⟨_,CF T e1,_,_,e1,ZD _ _ _ (by decide +kernel),⟨c,n,ds,i,d,rfl,C,hd,?_⟩⟩
 have hi:i < as.length:=by rw [w2];exact (List.getElem?_eq_some_iff.mp hd).1
 have ha:as[i]? = some as[i]:=List.getElem?_eq_getElem hi
 (walk_at "RD")
 refine ⟨_,SqL.of w1,_,yb (show (as.map V.ref)[i]? = some (V.ref as[i]) by rw [List.getElem?_map,ha];rfl),?_⟩
 exact q as[i] (al i _ d ha hd)
theorem nH (T:Txt w K mg t):Lb P w K mg base CX0 7 t.Zd t.ce ["text"] (jE t):=by
 have G_readers:Lb P w K mg base CX0 6 t.Ti t.mj ["text"] (Gn t):=(wu T).mono (by decide)
 have G_read_ring:Lb P w K mg base CX0 6 t.wg t.Mg ["reader"] (gx t):=(qC T).mono (by decide)
 have G_read_way:Lb P w K mg base CX0 6 t.Mh t.Nh ["reader","places","ways"] (yA t):=lG T
 have G_Crossing_init:Lb P w K mg base CX0 5 t.Ad t.ae ["self","places","ways"] (iB t):=(JE T).mono (by decide)
 refine T.Ze.ok md (fun vs H Q E h=>?_) (fun cdv A outer s H vs Q E hr h=>?_)
 ·obtain ⟨n,ds,rfl,_⟩:=h;rfl
 obtain ⟨n,ds,rfl,hC,nt,qq⟩:=h
 refine ⟨_,(cb (Bb (i:=1) md.nd rfl (Or.inl rfl) (vb G_readers hr rfl T.Wv T.am.kp T.Lx .nil Cb (ab (pv 0) gb)))
   (cb (Bb (i:=2) md.nd rfl (Or.inl rfl) (vb G_read_ring hr rfl T.ar T.Mi.kp T.Cr .nil Cb (ab (Qb Dc (pv 1) db (fun _ _=>rfl)) gb)))
   (cb (Bb (i:=3) md.nd rfl (Or.inl rfl) (Df gb))
   (cb (sf PassesOwn.never rfl (ff (Ke Uq (pv 1) (Ce db) pk)) (Ib (i:=4) md.nd rfl (Or.inl rfl)) (cb (Dd (Jb Tf (Zb Vb rfl T.Vi uc (ab (pv 3) gb)) (Sf rfl T.Xq T.lr) (Ob _)) (ib Oh) Nb)
   (ib (Hd (Ol PySem.F.plainAttrs_list PySem.F.slot_list_append PySem.F.type_list_append jg (pv 3) (ab (vb G_read_way hr rfl T.yu T.wk.kp T.Nu .nil Cb (ab (pv 4) (ab (pv 2) (ab (pv 3) gb)))) gb))))))
   (cb (Dd (pq (Vz (pv 3) (fun _=>rfl))) (ib Oh) Nb)
   (ib (Eb (ck T.Lu G_Crossing_init hr rfl T.Qt T.om .nil Cb (ab (pv 2) (ab (pv 3) gb)))))))))),?_⟩
 have hrow:=Du hC
 have hlen:=ww hC
 have hnn:=hC.nn
 have hln:=hC.ln
 (walk_at "RD")
 refine ⟨Oo n ds,rfl,by omega,?_,nt,fun p H1 sm1 nt1 R=>?_⟩
 ·rw [hrow]
  intro r hr
  refine ⟨?_,fun x hx=>Nat.le_trans (hC.plain r hr x hx).1 (by decide)⟩
  rcases List.mem_cons.mp hr with rfl | hr
  ·show (2:Nat) ≤ 1000;decide
  ·obtain ⟨d,hd,rfl⟩:=List.mem_map.mp hr
   show (7:Nat) ≤ 1000;decide
 rw [hrow] at R
 obtain ⟨qs,hp,hp0,hql,hqa⟩:=R
 have hql':qs.length=ds.length + 1:=by rw [hql];simp [Xf]
 obtain ⟨q0,qr,rfl⟩:∃ q0 qr,qs=q0 :: qr:=by
  cases qs with
  | nil=>simp at hql'
  | cons a b=>exact ⟨a,b,rfl⟩
 obtain ⟨R0,hq0⟩:=hqa 0 q0 _ rfl rfl
 (walk_at "RD")
 refine ⟨_,SqL.of hp,_,yb (j:=0) rfl,⟨q0,_,n,rfl,R0,hnn,nt1,fun H2 s2 nt2=>⟨Nat.zero_le _,fun wl hwl=>?_⟩⟩⟩
 obtain ⟨C0,dq0,fq0,hins⟩:=R0.ins
 have hpq:p ≠ q0:=dg hp hins (by intro z;cases z)
 have hp2:H2 p=some (.lst ((q0 :: qr).map V.ref)):=s2 _ _ hpq hp
 have swl:Xb H2 (upd H2 wl (.lst [])):=jb hwl
 have hcut:Pq ((q0 :: qr).map V.ref) (some 1) none=qr.map V.ref:=by
  unfold Pq
  simp [HT.sIx]
  exact List.take_of_length_le (by rw [List.length_map];exact Nat.le_refl _)
 refine ⟨_,SqL.of (swl _ _ hp2),fun pc hpc=>?_⟩
 rw [hcut]
 have hpw:pc ≠ wl:=fun z=>by subst z;rw [fb] at hpc;cases hpc
 have spc:Xb (upd H2 wl (.lst [])) (upd (upd H2 wl (.lst [])) pc (.lst (qr.map V.ref))):=jb hpc
 refine ⟨⟨_,SqL.of fb⟩,?_⟩
 have sH2:Xb H H2:=Yj sm1 s2 hq0
 have hqrl:qr.length=ds.length:=by simpa using hql'
 refine Ni.list (xs:=qr.map V.ref) (fun i σ H'=>(∃ x,σ=[some (V.str (Oo n ds)),some (V.ref p),some (V.int n),some (V.ref wl),x])∧NoT H'∧Xb H H'∧H' pc=some (.lst (qr.map V.ref))∧H wl=none∧Ih t H' wl (ds.take i) ∧
  ∀ (j:Nat) (q:Addr) (d:WD),i ≤ j→qr[j]? = some q→ds[j]? = some d→rf t H' q ((j + 1:Nat):Int) (ug d) 0∧H q=none) ?_ ?_ ?_ ?_
 ·refine ⟨⟨_,rfl⟩,(nt2.upd).upd,(sH2.trans swl).trans spc,fb,sH2.free hwl,⟨[],spc _ _ fb,rfl,fun j a d h=>by simp at h⟩,fun j q d _ h1 h2=>?_⟩
  have hr:(Xf n ds)[j + 1]? = some (ug d):=by
   unfold Xf
   rw [List.getElem?_cons_succ,List.getElem?_map,h2];rfl
  obtain ⟨Rj,hqj⟩:=hqa (j + 1) q _ (by rw [List.getElem?_cons_succ];exact h1) hr
  refine ⟨((Rj.sameX s2 (oF Rj R0 (by omega)) R0.ins).same swl).same spc,hqj⟩
 ·rintro i σ H' hi ⟨_,_,_,h,_⟩
  exact SqL.of h
 ·rintro i v σ H' hv ⟨⟨x,rfl⟩,nt',sm',hpc',hwl0,W,Rs⟩
  obtain ⟨q,hq,rfl⟩:=Od hv
  obtain ⟨hi,_⟩:=List.getElem?_eq_some_iff.mp hq
  have hid:i < ds.length:=by omega
  have hd:ds[i]? = some ds[i]:=List.getElem?_eq_getElem hid
  obtain ⟨Rq,hqn⟩:=Rs i q _ (Nat.le_refl _) hq hd
  have htl:(ds.take i).length=i:=by rw [List.length_take];omega
  obtain ⟨as,w1,w2,al⟩:=id W
  (walk_at "RD")
  refine Mb false (fun Q hQ=>?_) (fun hc=>nomatch hc) (fun _=>?_)
  ·(walk_at "RD")
   refine ⟨_,.inl (SqL.of w1),?_⟩
   rw [List.length_map,w2,htl]
   rw [decide_eq_false (by omega)] <;> exact hQ
  ·(walk_at "RD")
   refine ⟨.inl ⟨_,SqL.of w1⟩,?_⟩
   refine ⟨q,_,n,wl,ds.take i,ds[i],rfl,Rq,hC.al _ (List.getElem_mem hid),hnn,W,by omega,fun e he z=>?_,nt',fun y H3 s3 nt3 w3 hy3=>?_⟩
   ·obtain ⟨j,hj,rfl⟩:=List.getElem_of_mem he
    rw [List.getElem_take] at z
    have hj':j < i:=by omega
    have:=qx hC.nd (i:=j) (j:=i) (by omega) hid (by rw [nu (List.getElem?_eq_getElem (by omega)),nu hd];exact z)
    omega
   ·(walk_at "RD")
    obtain ⟨Cq,dq,fq,hqi⟩:=Rq.ins
    have hwq:wl ≠ q:=dg w1 hqi (by intro z;cases z)
    have hw3:H3 wl=some (.lst (as.map V.ref)):=s3 _ _ hwq w1
    have hsm3:Xb H H3:=Yj sm' s3 hqn
    refine ⟨_,hw3,Nat.lt_of_le_of_lt (show (as.map V.ref).length ≤ 12 by rw [List.length_map];omega) (by decide),?_⟩
    have hyw:y ≠ wl:=fun z=>by
     subst z
     rw [w1] at hy3;cases hy3
    refine ⟨⟨_,rfl⟩,nt3.upd,fun b u e=>?_,?_,hwl0,⟨as ++ [y],by rw [fb,List.map_append];rfl,?_,fun j a d h1 h2=>?_⟩,fun j q' d hj h1 h2=>?_⟩
    ·rw [qb (zb e hwl0)];exact hsm3 _ _ e
    ·rw [qb hpw]
     exact s3 _ _ (dg hpc' hqi (by intro z;cases z)) hpc'
    ·rw [List.length_append,w2,htl,List.length_take];show i + 1=_;omega
    ·by_cases hj:j < as.length
     ·rw [List.getElem?_append_left hj] at h1
      have h2':(ds.take i)[j]? = some d:=by
       rw [List.getElem?_take_of_lt (by omega)]
       rw [List.getElem?_take_of_lt (by omega)] at h2
       exact h2
      obtain ⟨hk,dx',e⟩:=al j a d h1 h2'
      have haq:a ≠ q:=Lw ⟨hk,dx',e⟩ Rq
      have haw:a ≠ wl:=dg e w1 (by intro z;cases z)
      exact ⟨hk,dx',by rw [qb haw];exact s3 _ _ haq e⟩
     ·rw [List.getElem?_append_right (by omega)] at h1
      have hj0:j - as.length=0:=by
       cases hh:j - as.length with
       | zero=>rfl
       | succ m=>rw [hh] at h1;simp at h1
      rw [hj0] at h1
      have e3:y=a:=by simpa using h1
      subst e3
      have e4:j=i:=by omega
      subst e4
      rw [List.getElem?_take_of_lt (by omega),hd] at h2
      cases h2
      exact ⟨w3.1,w3.2.imp fun dx' e=>by rw [qb hyw];exact e⟩
    ·obtain ⟨Rj,hqj⟩:=Rs j q' d (by omega) h1 h2
     have R3:=Rj.sameX s3 (oF Rj Rq (by omega)) Rq.ins
     refine ⟨?_,hqj⟩
     obtain ⟨hz,dx',ta,e1,e2⟩:=R3
     refine ⟨hz,dx',ta,by rw [qb (dg e1 hw3 (by intro z;cases z))];exact e1,?_⟩
     rw [qb (fun z=>by
      subst z
      rw [hw3] at e2
      have e5:=Option.some.inj e2
      injection e5 with e6
      cases as with
      | nil=>exact absurd (congrArg List.length e6) (by show ¬ (0:Nat)=7;decide)
      | cons a r=>injection e6 with e7 _;cases e7)]
     exact e2
 ·rintro σ H' ⟨⟨x,rfl⟩,nt',sm',hpc',hwl0,W,Rs⟩
  rw [List.length_map,hqrl,List.take_length] at W
  obtain ⟨as,w1,w2,al⟩:=id W
  (walk_at "RD")
  refine Mb false (fun Q hQ=>?_) (fun hc=>nomatch hc) (fun _=>?_)
  ·(walk_at "RD")
   refine ⟨true,.inl ⟨_,SqL.of w1,?_⟩,hQ⟩
   cases as with
   | nil=>simp at w2;omega
   | cons a r=>rfl
  ·(walk_at "RD")
   intro c dx hc hdx hne
   have sc:Xb H' (upd (upd H' dx (.own c)) c (.ins t.Hb dx [])):=((Xb.refl H').updN hdx).updN hc
   refine ⟨c,dx,n,wl,ds,rfl,fb,W.same sc,hC.nd,hln.2,(nt'.upd).upd,fun H5 s5 nt5 C5=>⟨rfl,?_⟩⟩
   exact qq c H5 (Yj (sm'.trans sc) s5 (sm'.free hc)) nt5 C5
end
end My
namespace My
open PySem L2
theorem zk {n s p:Int} (h0:0 ≤ s) (h1:s < n) (h2:0 ≤ p) (h3:p < n):(p - s) % n=if s ≤ p then p - s else p - s + n:=by
 split
 ·rename_i h;exact Int.emod_eq_of_lt (by omega) (by omega)
 ·rename_i h
  have e:(p - s) % n=(p - s + n) % n:=(Int.add_emod_right ..).symm
  rw [e]
  exact Int.emod_eq_of_lt (by omega) (by omega)
noncomputable def nj (n s f p:Int):Bool:=decide (0 < (p - s) % n) && decide ((p - s) % n < (f - s) % n)
noncomputable def Lr (n s f s2 f2:Int):Bool:=decide (f=f2) || (if (s2=s∨s2=f)∨(f2=s∨f2=f) then false else (nj n s f s2 != nj n s f f2))
theorem RC {X Y X' Y':Prop} [Decidable X] [Decidable Y] [Decidable X'] [Decidable Y'] (h:(X↔Y)↔(X'↔Y')):(decide X != decide Y)=(decide X' != decide Y'):=by
 by_cases a:X <;> by_cases b:Y <;> by_cases c:X' <;> by_cases d:Y' <;> simp_all
theorem ju {n s f s2 f2:Int} (hs:0 ≤ s∧s < n) (hf:0 ≤ f∧f < n) (hs2:0 ≤ s2∧s2 < n) (hf2:0 ≤ f2∧f2 < n) (hne:s ≠ f) (hne2:s2 ≠ f2):Lr n s f s2 f2=Lr n s2 f2 s f:=by
 unfold Lr
 by_cases e:f=f2
 ·rw [decide_eq_true e,decide_eq_true e.symm];rfl
 ·rw [decide_eq_false e,decide_eq_false (Ne.symm e)]
  by_cases c:(s2=s∨s2=f)∨(f2=s∨f2=f)
  ·have c':(s=s2∨s=f2)∨(f=s2∨f=f2):=by omega
   rw [if_pos c,if_pos c']
  ·have c':¬ ((s=s2∨s=f2)∨(f=s2∨f=f2)):=by omega
   rw [if_neg c,if_neg c']
   unfold nj
   rw [zk hs.1 hs.2 hs2.1 hs2.2,zk hs.1 hs.2 hf2.1 hf2.2,zk hs.1 hs.2 hf.1 hf.2,zk hs2.1 hs2.2 hs.1 hs.2,zk hs2.1 hs2.2 hf.1 hf.2,zk hs2.1 hs2.2 hf2.1 hf2.2]
   rw [← Bool.decide_and,← Bool.decide_and,← Bool.decide_and,← Bool.decide_and,Bool.false_or,Bool.false_or]
   refine RC ?_
   split <;> split <;> split <;> split <;> split <;> split <;> omega
noncomputable abbrev mt (n:Int) (d e:WD):Bool:=Lr n d.start d.fin e.start e.fin
noncomputable def jB (t:Adr):Sp:=fun vs H Q _=>∃ a d n p,vs=[.int n,.ref a,.int p]∧Bd t H a d∧0 < n∧Q (.bl (nj n d.start d.fin p)) H
noncomputable def vF (n:Int) (d e:WD):Bool:=if (e.start=d.start∨e.start=d.fin)∨(e.fin=d.start∨e.fin=d.fin) then false else (nj n d.start d.fin e.start != nj n d.start d.fin e.fin)
noncomputable def sw (t:Adr):Sp:=fun vs H Q _=>∃ a b d e n,vs=[.int n,.ref a,.ref b]∧Bd t H a d∧Bd t H b e∧0 < n∧NoT H∧Q (.bl (vF n d e)) H
noncomputable def Sy (t:Adr):Sp:=fun vs H Q _=>∃ a b d e n,vs=[.int n,.ref a,.ref b]∧Bd t H a d∧Bd t H b e∧0 < n∧∀ H',Xb H H'→Q (.bl (vF n d e)) H'
noncomputable def Fw (t:Adr):Sp:=fun vs H Q _=>∃ c n ds,∃ i j:Nat,∃ d e,vs=[.ref c,.str d.name,.str e.name]∧Sd t H c n ds∧0 < n∧ds[i]? = some d∧ds[j]? = some e∧NoT H∧Q (.bl (mt n d e)) H
section
variable {P:Program} {w:World} {K:PySem.W.Frag} {mg:Str→Option Value} {base:Heap} {t:Adr}
theorem KF (T:Txt w K mg t):Lb P w K mg base CX0 1 t.Yk t.Uk ["places","way","place"] (jB t):=by
 refine T.Vk.ok Gq (fun vs H Q E h=>?_) (fun cdv A outer s H vs Q E hr h=>?_)
 ·obtain ⟨a,d,n,p,rfl,_⟩:=h;rfl
 obtain ⟨a,d,n,p,rfl,W,hn,q⟩:=h
 refine ⟨_,(cb (Bb (i:=3) Gq.nd rfl (Or.inl rfl) (Db ve (Db uf (pv 2) (Ac (pv 1) rfl)) (pv 0)))
   (ib (Eb (cB (Nd Lq db (pv 3) (Ob _)) (js (Nd Lq (pv 3) (Db ve (Db uf (Ac (pv 1) rfl) (Ac (pv 1) rfl)) (pv 0)) (Ob _))))))),?_⟩
 (walk_at "RD")
 refine ⟨_,W.f_start T,_,rfl,hn,?_⟩
 unfold nj at q
 by_cases c:0 < (p - d.start) % n
 ·rw [if_pos (decide_eq_true c)]
  rw [decide_eq_true c,Bool.true_and] at q
  exact ⟨_,W.f_end T,_,W.f_start T,_,rfl,_,rfl,hn,q⟩
 ·rw [if_neg (by simpa using c)]
  rw [decide_eq_false c,Bool.false_and] at q
  exact q
theorem GG (x a b:Int):inV (.int x) [.int a,.int b]=decide (x=a∨x=b):=by
 unfold inV
 simp only [List.any_cons,List.any_nil,eqV,Bool.or_false]
 rw [Bool.eq_iff_iff]
 simp only [Bool.or_eq_true,beq_iff_eq,decide_eq_true_eq]
 omega
theorem TB (T:Txt w K mg t):Lb P w K mg base CX0 2 t.Jf t.Qf ["places","way","second"] (sw t):=by
 refine Lb.forget (sp:=Sy t) ?_ fun vs H Q E h=>?_
 ·have G_in_bow:Lb P w K mg base CX0 1 t.Yk t.Uk ["places","way","place"] (jB t):=KF T
  refine T.ah.ok Go (fun vs H Q E h=>?_) (fun cdv A outer s H vs Q E hr h=>?_)
  ·obtain ⟨a,b,d,e,n,rfl,_⟩:=h;rfl
  obtain ⟨a,b,d,e,n,rfl,Wa,Wb,hn,q⟩:=h
  refine ⟨_,(cb (Dd (PW.pt (Ct (Jb Gh (Ac (pv 2) rfl) (Df (ab (Ac (pv 1) rfl) (ab (Ac (pv 1) rfl) gb))) (by with_unfolding_all rfl)) (Rp (Jb Gh (Ac (pv 2) rfl) (Df (ab (Ac (pv 1) rfl) (ab (Ac (pv 1) rfl) gb))) (by with_unfolding_all rfl))))) (ib (Eb Xj)) Nb)
   (ib (Eb (Nd Lp (vb G_in_bow hr rfl T.Ys T.Vk.kp T.ut .nil Cb (ab (pv 0) (ab (pv 1) (ab (Ac (pv 2) rfl) gb)))) (vb G_in_bow hr rfl T.Ys T.Vk.kp T.ut .nil Cb (ab (pv 0) (ab (pv 1) (ab (Ac (pv 2) rfl) gb)))) (Ob _))))),?_⟩
  (walk_at "RD")
  refine lj (fun b H'=>Xb H H'∧b=decide ((e.start=d.start∨e.start=d.fin)∨(e.fin=d.start∨e.fin=d.fin))) (fun Q hQ=>?_) (fun H' ⟨sm,hb⟩=>?_) (fun H' ⟨sm,hb⟩=>?_)
  ·(walk_at "RD")
   refine ⟨_,Wb.f_start T,_,Wa.f_start T,_,Wa.f_end T,by decide,fun p hp=>⟨_,.inl (SqL.of fb),rfl,rfl,?_⟩⟩
   have s1:Xb H (upd H p (.lst [.int d.start,.int d.fin])):=jb hp
   rw [GG]
   by_cases c1:e.start=d.start∨e.start=d.fin
   ·rw [if_pos (decide_eq_true c1)]
    exact hQ _ _ ⟨s1,(decide_eq_true (.inl c1)).symm⟩
   ·rw [if_neg (by simpa using c1)]
    refine ⟨_,(Wb.same s1).f_end T,_,(Wa.same s1).f_start T,_,(Wa.same s1).f_end T,by decide,fun p2 hp2=>⟨_,.inl (SqL.of fb),rfl,rfl,?_⟩⟩
    rw [GG]
    refine hQ _ _ ⟨s1.trans (jb hp2),?_⟩
    rw [Bool.eq_iff_iff,decide_eq_true_eq,decide_eq_true_eq]
    exact ⟨.inr,fun z=>z.resolve_left c1⟩
  ·(walk_at "RD")
   have hb':=of_decide_eq_true hb.symm
   have:=q H' sm
   unfold vF at this
   rw [if_pos hb'] at this
   exact this
  ·(walk_at "RD")
   have hb':=of_decide_eq_false hb.symm
   refine ⟨_,(Wb.same sm).f_start T,⟨a,d,n,_,rfl,Wa.same sm,hn,?_⟩⟩
   refine ⟨_,(Wb.same sm).f_end T,⟨a,d,n,_,rfl,Wa.same sm,hn,?_⟩⟩
   refine ⟨rfl,?_⟩
   have:=q H' sm
   unfold vF at this
   rw [if_neg hb'] at this
   rw [show (!decide (V.bl (nj n d.start d.fin e.start)=V.bl (nj n d.start d.fin e.fin)))=(nj n d.start d.fin e.start != nj n d.start d.fin e.fin) by
    cases nj n d.start d.fin e.start <;> cases nj n d.start d.fin e.fin <;> rfl]
   exact this
 ·obtain ⟨a,b,d,e,n,h1,h2,h3,h4,nt,q⟩:=h
  exact ⟨nt,a,b,d,e,n,h1,h2,h3,h4,fun H' sm=>⟨sm,q⟩⟩
theorem dH (n:Int) (d e:WD):mt n d e=(decide (d.fin=e.fin) || vF n d e):=rfl
theorem DB (T:Txt w K mg t):Lb P w K mg base CX0 3 t.Js t.ot ["crossing","one","other"] (Fw t):=by
 have G_Crossing_called:Lb P w K mg base CX0 2 t.ic t.Jc ["self","name"] (Ui t):=Jl T
 have G_bows_cross:Lb P w K mg base CX0 2 t.Jf t.Qf ["places","way","second"] (sw t):=TB T
 refine T.Ww.ok Xr (fun vs H Q E h=>?_) (fun cdv A outer s H vs Q E hr h=>?_)
 ·obtain ⟨c,n,ds,i,j,d,e,rfl,_⟩:=h;rfl
 obtain ⟨c,n,ds,i,j,d,e,rfl,C,hn,hd,he,nt,q⟩:=h
 obtain ⟨_,dx,wl,nd,e1,e2,e3⟩:=id C
 refine ⟨_,(cb (Bb (i:=3) Xr.nd rfl (Or.inl rfl) (zd (pv 0) T.zc T.Vc G_Crossing_called hr T.Xc .nil Cb (ab (pv 1) gb)))
   (cb (Bb (i:=4) Xr.nd rfl (Or.inl rfl) (zd (pv 0) T.zc T.Vc G_Crossing_called hr T.Xc .nil Cb (ab (pv 2) gb)))
   (ib (Eb (lF (Nd Tf (Ac (pv 3) rfl) (Ac (pv 4) rfl) (Ob _)) (js (vb G_bows_cross hr rfl T.Ip T.ah.kp T.zq .nil Cb (ab (Ac (pv 0) rfl) (ab (pv 3) (ab (pv 4) gb)))))))))),?_⟩
 rw [dH] at q
 (walk_at "RD")
 refine ⟨_,_,e1,ZD _ _ _ (by decide +kernel),⟨c,n,ds,i,d,rfl,C,hd,fun a Wa=>?_⟩⟩
 (walk_at "RD")
 refine ⟨_,_,e1,ZD _ _ _ (by decide +kernel),⟨c,n,ds,j,e,rfl,C,he,fun b Wb=>?_⟩⟩
 (walk_at "RD")
 refine ⟨_,Wa.f_end T,_,Wb.f_end T,rfl,?_⟩
 (walk_at "RD")
 by_cases c1:d.fin=e.fin
 ·rw [if_pos (decide_eq_true c1)]
  rw [decide_eq_true c1,Bool.true_or] at q
  exact q
 ·rw [if_neg (by simpa using c1)]
  rw [decide_eq_false c1,Bool.false_or] at q
  exact ⟨_,Hy T e1,⟨a,b,d,e,n,rfl,Wa,Wb,hn,nt,q⟩⟩
end
noncomputable def QA (t:Adr):Sp:=fun vs H Q _=>∃ c n ds,∃ i j:Nat,∃ d e,vs=[.ref c,.str d.name,.str e.name]∧Sd t H c n ds∧ds[i]? = some d∧ds[j]? = some e∧Q (.int (if d.off - e.near > 0 then d.off - e.near else 0)) H
section
variable {P:Program} {w:World} {K:PySem.W.Frag} {mg:Str→Option Value} {base:Heap} {t:Adr}
theorem dE (T:Txt w K mg t):Lb P w K mg base CX0 3 t.Iy t.Tz ["crossing","one","other"] (QA t):=by
 have G_Crossing_called:Lb P w K mg base CX0 2 t.ic t.Jc ["self","name"] (Ui t):=Jl T
 refine T.PB.ok Lv (fun vs H Q E h=>?_) (fun cdv A outer s H vs Q E hr h=>?_)
 ·obtain ⟨c,n,ds,i,j,d,e,rfl,_⟩:=h;rfl
 obtain ⟨c,n,ds,i,j,d,e,rfl,C,hd,he,q⟩:=h
 obtain ⟨_,dx,wl,nd,e1,e2,e3⟩:=id C
 refine ⟨_,(cb (Bb (i:=3) Lv.nd rfl (Or.inl rfl) (zd (pv 0) T.zc T.Vc G_Crossing_called hr T.Xc .nil Cb (ab (pv 1) gb)))
   (cb (Bb (i:=4) Lv.nd rfl (Or.inl rfl) (zd (pv 0) T.zc T.Vc G_Crossing_called hr T.Xc .nil Cb (ab (pv 2) gb)))
   (ib (Eb (Zb (Oi rfl) rfl T.Iu Xe (ab db (ab (Db uf (Ac (pv 3) rfl) (Ac (pv 4) rfl)) gb))))))),?_⟩
 (walk_at "RD")
 refine ⟨_,_,e1,ZD _ _ _ (by decide +kernel),⟨c,n,ds,i,d,rfl,C,hd,fun a Wa=>?_⟩⟩
 (walk_at "RD")
 refine ⟨_,_,e1,ZD _ _ _ (by decide +kernel),⟨c,n,ds,j,e,rfl,C,he,fun b Wb=>?_⟩⟩
 (walk_at "RD")
 refine ⟨_,Wa.f_off T,_,Wb.f_near T,?_⟩
 (walk_at "RD")
 exact q
end
end My
namespace My
open PySem L2
theorem Cg {α:Type} {l:List α} {a x:α} {i:Nat} (h:(l ++ [a])[i]? = some x):(i < l.length∧l[i]? = some x)∨(i=l.length∧x=a):=by
 by_cases hi:i < l.length
 ·rw [List.getElem?_append_left hi] at h
  exact .inl ⟨hi,h⟩
 ·rw [List.getElem?_append_right (by omega)] at h
  have h0:i - l.length=0:=by
   cases hh:i - l.length with
   | zero=>rfl
   | succ m=>rw [hh] at h;simp at h
  rw [h0] at h
  exact .inr ⟨by omega,(by simpa using h:a=x).symm⟩
noncomputable def Wn (H:Hp) (wl:Addr) (ws:List (WD × Int)):Prop:=∃ qs:List Addr,H wl=some (.lst (qs.map V.ref))∧qs.length=ws.length∧∀ (i:Nat) (q:Addr) (p:WD × Int),qs[i]? = some q→ws[i]? = some p→H q=some (.tup [.str p.1.name,.int p.2])
noncomputable def Ml (i j:Nat):List Key:=[Sum.inl (i:Int),Sum.inl (j:Int)]
noncomputable def np (d e:WD):Int:=if d.off - e.near > 0 then d.off - e.near else 0
noncomputable def Ag (n:Int) (ws:List (WD × Int)) (i m:Nat):List (List Key × V):=
 (List.range m).filterMap fun j=>match ws[i]?,ws[j]? with
  | some p,some q=>if i ≠ j∧mt n p.1 q.1=true then some (Ml i j,V.int (p.2 + np p.1 q.1)) else none
  | _,_=>none
noncomputable def Zf (n:Int) (ws:List (WD × Int)) (i:Nat):List (List Key × V):=(List.range i).flatMap fun k=>Ag n ws k ws.length
theorem Ht (n:Int) (ws:List (WD × Int)) (i:Nat):Ag n ws i 0=[]:=rfl
theorem Xs {n:Int} {ws:List (WD × Int)} {i m:Nat} {p q:WD × Int} (hi:ws[i]? = some p) (hm:ws[m]? = some q) (h:¬ (i ≠ m∧mt n p.1 q.1=true)):Ag n ws i (m + 1)=Ag n ws i m:=by
 unfold Ag
 rw [List.range_succ,List.filterMap_append]
 simp only [List.filterMap_cons,List.filterMap_nil,hi,hm,if_neg h,List.append_nil]
theorem Gw {n:Int} {ws:List (WD × Int)} {i m:Nat} {p q:WD × Int} (hi:ws[i]? = some p) (hm:ws[m]? = some q) (h:i ≠ m∧mt n p.1 q.1=true):Ag n ws i (m + 1)=Ag n ws i m ++ [(Ml i m,V.int (p.2 + np p.1 q.1))]:=by
 unfold Ag
 rw [List.range_succ,List.filterMap_append]
 simp only [List.filterMap_cons,List.filterMap_nil,hi,hm,if_pos h]
theorem Xn (n:Int) (ws:List (WD × Int)) (i:Nat):Zf n ws (i + 1)=Zf n ws i ++ Ag n ws i ws.length:=by
 unfold Zf
 rw [List.range_succ,List.flatMap_append]
 simp
theorem mm {n:Int} {ws:List (WD × Int)} {i m:Nat} {x:List Key × V} (h:x ∈ Ag n ws i m):∃ j p q,j < m∧ws[i]? = some p∧ws[j]? = some q∧i ≠ j∧mt n p.1 q.1=true∧x=(Ml i j,V.int (p.2 + np p.1 q.1)):=by
 unfold Ag at h
 obtain ⟨j,hj,e⟩:=List.mem_filterMap.mp h
 have hj':=List.mem_range.mp hj
 cases hp:ws[i]? with
 | none=>simp [hp] at e
 | some p=>
  cases hq:ws[j]? with
  | none=>simp [hp,hq] at e
  | some q=>
   simp only [hp,hq] at e
   split at e
   ·rename_i c;exact ⟨j,p,q,hj',rfl,hq,c.1,c.2,(Option.some.inj e).symm⟩
   ·cases e
theorem cq {n:Int} {ws:List (WD × Int)} {i:Nat} {x:List Key × V} (h:x ∈ Zf n ws i):∃ k,k < i∧x ∈ Ag n ws k ws.length:=by
 unfold Zf at h
 obtain ⟨k,hk,e⟩:=List.mem_flatMap.mp h
 exact ⟨k,List.mem_range.mp hk,e⟩
theorem Al {i j i' j':Nat} (h:Ml i j=Ml i' j'):i=i'∧j=j':=by
 unfold Ml at h
 simp only [List.cons.injEq,Sum.inl.injEq,and_true] at h
 omega
theorem Rt {kvs:List (List Key × V)} {k:List Key} {v:V} (h:∀ x ∈ kvs,x.1 ≠ k):Jm kvs k v=kvs ++ [(k,v)]:=by
 unfold Jm
 rw [if_neg]
 intro z
 obtain ⟨x,hx,e⟩:=List.any_eq_true.mp z
 exact h x hx (of_decide_eq_true e)
theorem jy {n:Int} {ws:List (WD × Int)} {i m:Nat} {p q:WD × Int} (hi:ws[i]? = some p) (hm:ws[m]? = some q) (h:i ≠ m∧mt n p.1 q.1=true) :
  Jm (Zf n ws i ++ Ag n ws i m) (Ml i m) (V.int (p.2 + np p.1 q.1))=Zf n ws i ++ Ag n ws i (m + 1):=by
 rw [Gw hi hm h,Rt,List.append_assoc]
 intro x hx e
 rcases List.mem_append.mp hx with z | z
 ·obtain ⟨k,hk,z⟩:=cq z
  obtain ⟨j,p',q',_,_,_,_,_,rfl⟩:=mm z
  have:=Al e
  omega
 ·obtain ⟨j,p',q',hj,_,_,_,_,rfl⟩:=mm z
  have:=Al e
  omega
theorem Vp (n:Int) (ws:List (WD × Int)) (i m:Nat):(Ag n ws i m).length ≤ m:=by
 unfold Ag
 exact Nat.le_trans (List.length_filterMap_le _ _) (by simp)
theorem Ix (n:Int) (ws:List (WD × Int)) (i:Nat):(Zf n ws i).length ≤ i * ws.length:=by
 induction i with
 | zero=>simp [Zf]
 | succ i ih=>
  rw [Xn,List.length_append,Nat.succ_mul]
  have:=Vp n ws i ws.length
  omega
noncomputable def Nc (p:WD × Int):Int:=p.2 + Fl p.1 + Eh p.1
noncomputable def fj (m:Int) (al sd:Addr):List (Str × V):=[(Str.ofString "many",.int m),(Str.ofString "alones",.ref al),(Str.ofString "steps",.ref sd)]
theorem FA {d:WD} {m:Str} (h:Zm.contains m=false):(cn d).lookup m=none:=Wi Zm (yn _) h
theorem Ax {P:Program} {w:World} {K:PySem.W.Frag} {mg:Str→Option Value} {base:Heap} {CX:CXT} {j k:Nat} {OK:Addr→Prop} {m:Str} {ps:List Str} {SPV:Addr→Sp} (V:rB P w K mg base CX j OK m ps SPV) (h:j ≤ k):rB P w K mg base CX k OK m ps SPV:=⟨fun C hC=>by
 obtain ⟨f,fd,h1,h2,h3,h4⟩:=V.ok C hC
 exact ⟨f,fd,h1,h2,h3.mono h,h4⟩⟩
theorem Tp {H:Hp} {p b C D dx dy:Addr} {x:Str × V} {fs:List (Str × V)} (hp:H p=some (.ins C dx [])) (hb:H b=some (.ins D dy (x :: fs))):b ≠ p:=fun z=>by
 subst z
 rw [hp] at hb
 cases hb
theorem mF {t:Adr} {H H':Hp} {p a C dx:Addr} {d:WD} (hp:H p=some (.ins C dx [])) (sx:ud p H H') (h:Bd t H a d):Bd t H' a d:=by
 obtain ⟨h1,dy,e⟩:=h
 exact ⟨h1,dy,sx _ _ (Tp hp e) e⟩
theorem Zu {t:Adr} {H H':Hp} {p c C dx:Addr} {n:Int} {ds:List WD} (hp:H p=some (.ins C dx [])) (sx:ud p H H') (h:Sd t H c n ds):Sd t H' c n ds:=by
 obtain ⟨h0,dy,wl,nd,e1,⟨as,w1,w2,w3⟩,e3⟩:=h
 exact ⟨h0,dy,wl,nd,sx _ _ (Tp hp e1) e1,⟨as,sx _ _ (dg w1 hp (by intro z;cases z)) w1,w2,fun i a d h1 h2=>mF hp sx (w3 i a d h1 h2)⟩,sx _ _ (dg e3 hp (by intro z;cases z)) e3⟩
theorem Az {K:PySem.W.Frag} {a b:Addr} {xs ys:List V} {g:TG} {σb:St} {H:Hp} {tc:TT} {te:TE} {Q:VK} (Pv:Nat→List V→Hp→Prop) (n:Nat) (hn:n=min xs.length ys.length) (hz:n ≤ sizeLine) (h0:Pv 0 [] H) (hl:∀ i zs H,i ≤ n→Pv i zs H→(SqL K H a xs∧SqL K H b ys)∧zs.length ≤ i)
  (hs:∀ i x y zs H p,xs[i]? = some x→ys[i]? = some y→Pv i zs H→H p=none→ke Pv g tc te σb i (.ref p) zs (upd H p (.tup [x,y]))) (hd:∀ zs H,Pv n zs H→∀ p,H p=none→Q (.ref p) (upd H p (.lst zs))):Wc (Itz K a b) g tc te σb Q H:=by
 refine Wc.of (n:=n) Pv hz h0 (fun i zs H hi p=>?_) (fun zs H p=>?_) (fun i zs H hi p=>(hl i zs H (Nat.le_of_lt hi) p).2) (fun i zs H v H' hi p y=>?_) hd
 ·obtain ⟨⟨z1,z2⟩,_⟩:=hl i zs H (Nat.le_of_lt hi) p
  exact ⟨xs,ys,xs[i],ys[i],z1,z2,by rw [List.getElem?_eq_getElem (by omega)],by rw [List.getElem?_eq_getElem (by omega)]⟩
 ·obtain ⟨⟨z1,z2⟩,_⟩:=hl n zs H (Nat.le_refl _) p
  exact ⟨xs,ys,z1,z2,by omega⟩
 ·obtain ⟨q,x,y,hq,rfl,hx,hy,rfl⟩:=y
  obtain ⟨⟨z1,z2⟩,_⟩:=hl i zs H (Nat.le_of_lt hi) p
  exact hs i x y zs H q (hx xs z1) (hy ys z2) p hq
section
variable (P:Program) (w:World)
noncomputable def vy (t:Adr) (H:Hp) (p:Addr) (n:Int) (ws:List (WD × Int)):Prop:=∃ dx al sd,H p=some (.ins t.Gb dx (fj ws.length al sd))∧H al=some (.lst (ws.map fun p=>V.int (Nc p)))∧Ri P w H sd (Zf n ws ws.length)
noncomputable def Cs (t:Adr):Sp:=fun vs H Q _=>∃ p dx c wl n ds ws,vs=[.ref p,.ref c,.ref wl]∧H p=some (.ins t.Gb dx [])∧Sd t H c n ds∧0 < n∧Wn H wl ws∧(∀ q ∈ ws,∃ i:Nat,ds[i]? = some q.1)∧ws.length ≤ 20∧(∀ q ∈ ws,0 ≤ q.2∧q.2 ≤ 100000)∧NoT H ∧
 ∀ H',ud p H H'→NoT H'→vy P w t H' p n ws→Q .non H'
end
noncomputable def Ro:List Str:=[Str.ofString "many",Str.ofString "alones",Str.ofString "steps"]
theorem zn (m:Int) (al sd:Addr):(fj m al sd).map (·.1)=Ro:=rfl
section
variable {P:Program} {w:World} {K:PySem.W.Frag} {mg:Str→Option Value} {base:Heap} {t:Adr}
theorem Wj (T:Txt w K mg t) {H:Hp} {p dx al sd:Addr} {m:Int} (e:H p=some (.ins t.Gb dx (fj m al sd))):Ci K H p (Str.ofString "steps") (.ref sd):=⟨_,dx,_,e,T.uh,T.qh,Jd Ro 2 (zn ..) (by decide +kernel) rfl⟩
theorem Wr (T:Txt w K mg t) {H:Hp} {p dx al sd:Addr} {m:Int} (e:H p=some (.ins t.Gb dx (fj m al sd))):Ci K H p (Str.ofString "alones") (.ref al):=⟨_,dx,_,e,T.uh,T.Tg,Jd Ro 1 (zn ..) (by decide +kernel) rfl⟩
theorem nA (T:Txt w K mg t):Lb P w K mg base CX0 4 t.Xd t.Ve ["self","crossing","wants"] (Cs P w t):=by
 have G_Crossing_called:Lb P w K mg base CX0 3 t.ic t.Jc ["self","name"] (Ui t):=(Jl T).mono (by decide)
 have V_Way_ready:rB P w K mg base CX0 3 (isW t) "ready" ["self"] (zh t):=Ax (uD T) (by decide)
 have V_Way_fade:rB P w K mg base CX0 3 (isW t) "fade" ["self"] (Xi t):=Ax (jF T) (by decide)
 have G_meet:Lb P w K mg base CX0 3 t.Js t.ot ["crossing","one","other"] (Fw t):=DB T
 have G_gap:Lb P w K mg base CX0 3 t.Iy t.Tz ["crossing","one","other"] (QA t):=dE T
 refine T.Zi.ok wc (fun vs H Q E h=>?_) (fun cdv A outer s H vs Q E hr h=>?_)
 ·obtain ⟨p,dx,c,wl,n,ds,ws,rfl,_⟩:=h;rfl
 obtain ⟨p,dx,c,wl,n,ds,ws,rfl,hp,C,hn,W,hds,hlen,hb,nt,q⟩:=h
 have hu:=Ky hr
 refine ⟨_,(cb (Yn (i:=3) wc.nd rfl (Or.inl rfl) rfl (ff (pv 2)) (Zc (sc:=lb We) rfl (by decide +kernel)) (N:=["name","turns","crossing"]) (sel:=[none,none,some 1]) (Ed (M:=["self","crossing","wants","ways","one","want","other","second"]) (by decide +kernel)) (Blk.of (fun _ _ _ _=>(jh (K:=K) (n:=2) rfl rfl (Tc (Ib (i:=0) (Vh (N:=["name","turns","crossing"]) (by decide +kernel) rfl) rfl (Or.inl rfl) (.inr rfl)) (Tc (Ib (i:=1) (Vh (N:=["name","turns","crossing"]) (by decide +kernel) rfl) rfl (Or.inl rfl) (.inr rfl)) bh)))) (fun _ _ _ _=>⟨_,ie,by first | rfl | (dsimp only [Cx.block];done) | (dsimp only [Cx.block];exact rfl)⟩) (fun _ _ _ _=>⟨_,(zd (pv 2) T.zc T.Vc G_Crossing_called hr T.Xc .nil Cb (ab (pv 0) gb)),by first | rfl | (dsimp only [Cx.block];done) | (dsimp only [Cx.block];exact rfl)⟩)) rfl)
   (cb (De (pv 0) (Zb Vb rfl T.Vi uc (ab (pv 2) gb)) rfl)
   (cb (De (pv 0) (df rfl (fE rfl T.XG (ab (pv 2) (ab (pv 3) gb))) (Zc (sc:=lb We) rfl (by decide +kernel)) (N:=["want","way"]) (sel:=[none,none]) (Ed (M:=["self","crossing","wants","ways","one","want","other","second"]) (by decide +kernel)) (Blk.of (fun _ _ _ _=>(jh (K:=K) (n:=2) rfl rfl (Tc (Ib (i:=0) (Vh (N:=["want","way"]) (by decide +kernel) rfl) rfl (Or.inl rfl) (.inr rfl)) (Tc (Ib (i:=1) (Vh (N:=["want","way"]) (by decide +kernel) rfl) rfl (Or.inl rfl) (.inr rfl)) bh)))) (fun _ _ _ _=>⟨_,ie,by first | rfl | (dsimp only [Cx.block];done) | (dsimp only [Cx.block];exact rfl)⟩) (fun _ _ _ _=>⟨_,(Db Rb (Db Rb (Qb fc (pv 0) db (fun _ _=>rfl)) (Iq (pv 1) V_Way_fade hr Cb)) (Iq (pv 1) V_Way_ready hr Cb)),by first | rfl | (dsimp only [Cx.block];done) | (dsimp only [Cx.block];exact rfl)⟩))) rfl)
   (cb (De (pv 0) kC rfl)
   (ib (sf PassesOwn.never rfl (No rfl T.zg (ab (pv 2) gb)) (jh (K:=K) (n:=2) rfl rfl (Tc (Ib (i:=4) wc.nd rfl (Or.inl rfl) (.inl rfl)) (Tc (Ib (i:=5) wc.nd rfl (Or.inl rfl) (.inl rfl)) bh))) (ib (sf PassesOwn.never rfl (No rfl T.zg (ab (pv 2) gb)) (jh (K:=K) (n:=2) rfl rfl (Tc (Ib (i:=6) wc.nd rfl (Or.inl rfl) (.inl rfl)) (Tc (Ib (i:=7) wc.nd rfl (Or.inl rfl) (.inl rfl)) bh))) (ib (Dd (PW.pt (Ux (Jb Lp (pv 4) (pv 6) (Ob _)) (Qq (em (vb G_meet hr rfl T.uG T.Ww.kp T.kG .nil Cb (ab (pv 1) (ab (Qb fc (pv 5) db (fun _ _=>rfl)) (ab (Qb fc (pv 7) db (fun _ _=>rfl)) gb)))))))) (ib (qD hu (Ac (pv 0) rfl) (Wl (ab (pv 4) (ab (pv 6) gb))) (Db Rb (Qb fc (pv 5) db (fun _ _=>rfl)) (vb G_gap hr rfl T.BH T.PB.kp T.jH .nil Cb (ab (pv 1) (ab (Qb fc (pv 5) db (fun _ _=>rfl)) (ab (Qb fc (pv 7) db (fun _ _=>rfl)) gb))))) rfl)) Nb)))))))))),?_⟩
 obtain ⟨qs,w1,w2,al⟩:=id W
 have hql:(qs.map V.ref).length ≤ sizeLine:=Nat.le_trans (show (qs.map V.ref).length ≤ 20 by rw [List.length_map,w2];exact hlen) (by decide)
 obtain ⟨_,dxc,wlc,ndc,ec1,ec2,ec3⟩:=id C
 (walk_at "RD")
 refine ⟨⟨_,SqL.of w1⟩,?_⟩
 refine Wc.list (xs:=qs.map V.ref) (fun i ys H'=>H'=H∧∃ as:List Addr,ys=as.map V.ref∧as.length=i∧∀ (j:Nat) (a:Addr) (q:WD × Int),as[j]? = some a→ws[j]? = some q→Bd t H a q.1) hql ⟨rfl,[],rfl,rfl,fun j a q h=>by simp at h⟩ (fun i ys H' _ ⟨e,as,e1,e2,_⟩=>by subst e e1;exact ⟨SqL.of w1,by rw [List.length_map,e2];exact Nat.le_refl _⟩) ?_ ?_
 ·rintro i x ys H' hx ⟨rfl,as,rfl,e2,e3⟩ N hN
  obtain ⟨qi,hqi,rfl⟩:=Od hx
  have hi:i < ws.length:=by rw [← w2];exact (List.getElem?_eq_some_iff.mp hqi).1
  have hwi:ws[i]? = some ws[i]:=List.getElem?_eq_getElem hi
  have hq:=al i qi _ hqi hwi
  obtain ⟨k,hk⟩:=hds _ (List.mem_of_getElem? hwi)
  refine lp (SqT.of hq) ?_
  (walk_at "RD")
  refine ⟨Sub.name2,_,_,ec1,ZD _ _ _ (by decide +kernel),⟨c,n,ds,k,_,rfl,C,hk,fun a Wa=>?_⟩⟩
  show N (as.map V.ref ++ [V.ref a]) H'
  rw [show as.map V.ref ++ [V.ref a]=(as ++ [a]).map V.ref by rw [List.map_append];rfl]
  refine hN _ _ ⟨rfl,as ++ [a],rfl,by rw [List.length_append,e2];rfl,fun j b q h1 h2=>?_⟩
  rcases Cg h1 with z | z
  ·exact e3 j b q z.2 h2
  ·obtain ⟨z1,rfl⟩:=z
   rw [z1,e2,hwi] at h2
   cases h2
   exact Wa
 ·rintro ys H' ⟨rfl,as,rfl,e2,e3⟩ pw hpw
  rw [List.length_map,w2] at e2
  (walk_at "RD")
  have s1:Xb H' (upd H' pw (.lst (as.map V.ref))):=jb hpw
  have hpp:pw ≠ p:=fun z=>by subst z;rw [hp] at hpw;cases hpw
  refine ⟨_,.inl (SqL.of (s1 _ _ w1)),_,_,_,s1 _ _ hp,T.uh,T.mn,by decide,?_⟩
  have sx2:ud p H' (upd (upd H' pw (.lst (as.map V.ref))) p (.ins t.Gb dx [(Str.ofString "many",V.int (ws.length:Int))])):=fun b u hb e=>by rw [qb hb];exact s1 _ _ e
  have e2p:(upd (upd H' pw (.lst (as.map V.ref))) p (.ins t.Gb dx [(Str.ofString "many",V.int (ws.length:Int))])) p=some (.ins t.Gb dx [(Str.ofString "many",V.int (ws.length:Int))]):=fb
  have e2w:(upd (upd H' pw (.lst (as.map V.ref))) p (.ins t.Gb dx [(Str.ofString "many",V.int (ws.length:Int))])) pw=some (.lst (as.map V.ref)):=by rw [qb hpp];exact fb
  have nt2:NoT (upd (upd H' pw (.lst (as.map V.ref))) p (.ins t.Gb dx [(Str.ofString "many",V.int (ws.length:Int))])):=(nt.upd).upd
  rw [show eg (Str.ofString "many") (V.int ((qs.map V.ref).length:Int)) ([]:List (Str × V))=[(Str.ofString "many",V.int (ws.length:Int))] by rw [List.length_map,w2];rfl]
  generalize upd (upd H' pw (.lst (as.map V.ref))) p (.ins t.Gb dx [(Str.ofString "many",V.int (ws.length:Int))])=H2 at sx2 e2p e2w nt2 ⊢
  have wl2:H2 wl=some (.lst (qs.map V.ref)):=sx2 _ _ (dg w1 hp (by intro z;cases z)) w1
  refine ⟨⟨_,SqL.of wl2⟩,⟨_,SqL.of e2w⟩,?_⟩
  refine Az (xs:=qs.map V.ref) (ys:=as.map V.ref) (fun i zs H3=>Xb H2 H3∧NoT H3∧zs=(ws.take i).map fun p=>V.int (Nc p)) ws.length (by rw [List.length_map,List.length_map,w2,e2];simp) (Nat.le_trans hlen (by decide)) ⟨Xb.refl _,nt2,rfl⟩ (fun i zs H3 hi ⟨sm,_,e⟩=>⟨⟨(SqL.of wl2).same sm,(SqL.of e2w).same sm⟩,by rw [e,List.length_map,List.length_take];omega⟩) ?_ ?_
  ·rintro i x y zs H3 r hx hy ⟨sm,nt3,rfl⟩ hr3 N hN
   obtain ⟨qi,hqi,rfl⟩:=Od hx
   obtain ⟨ai,hai,rfl⟩:=Od hy
   have hi:i < ws.length:=by rw [← w2];exact (List.getElem?_eq_some_iff.mp hqi).1
   have hwi:ws[i]? = some ws[i]:=List.getElem?_eq_getElem hi
   have hq:H2 qi=some (.tup [.str ws[i].1.name,.int ws[i].2]):=sx2 _ _ (dg (al i qi _ hqi hwi) hp (by intro z;cases z)) (al i qi _ hqi hwi)
   have Wa:Bd t H3 ai ws[i].1:=(mF hp sx2 (e3 i ai _ hai hwi)).same sm
   have sm4:Xb H3 (upd H3 r (.tup [.ref qi,.ref ai])):=jb hr3
   have Wb:=Wa.same sm4
   refine rh ?_
   (walk_at "RD")
   obtain ⟨dk,dxw,hway⟩:=id Wb
   refine ⟨Sub.name2,_,SqT.of (sm4 _ _ (sm _ _ hq)),_,yb (j:=1) rfl,_,_,_,hway,⟨_,dk,rfl⟩,FA (by decide +kernel),_,_,rfl,Wb,rfl,_,rfl,_,rfl,_,_,_,hway,⟨_,dk,rfl⟩,FA (by decide +kernel),_,_,rfl,Wb,rfl,_,rfl,?_⟩
   refine hN _ _ ⟨sm.trans sm4,nt3.upd,?_⟩
   rw [List.take_add_one,hwi,List.map_append]
   rfl
  ·rintro zs H3 ⟨sm,nt3,rfl⟩ pa hpa
   rw [List.take_length]
   (walk_at "RD")
   have s4:Xb H3 (upd H3 pa (.lst (ws.map fun p=>V.int (Nc p)))):=jb hpa
   have hpap:pa ≠ p:=fun z=>by subst z;rw [sm _ _ e2p] at hpa;cases hpa
   refine ⟨_,_,_,s4 _ _ (sm _ _ e2p),T.uh,T.Tg,(show (1:Nat) < 1000 by decide),fun sd o hsd hD=>?_⟩
   rw [show eg (Str.ofString "alones") (V.ref pa) [(Str.ofString "many",V.int (ws.length:Int))]=[(Str.ofString "many",V.int (ws.length:Int)),(Str.ofString "alones",V.ref pa)] from ed [Str.ofString "many"] rfl (by decide +kernel)] at hsd hD ⊢
   have hsp:sd ≠ p:=fun z=>by subst z;rw [fb] at hsd;cases hsd
   have hsn:H3 sd=none:=by
    rw [qb hsp] at hsd
    by_cases z:sd=pa
    ·subst z;exact hpa
    ·rw [qb z] at hsd;exact hsd
   have hsa:sd ≠ pa:=fun z=>by subst z;rw [qb hsp,fb] at hsd;cases hsd
   refine ⟨t.Gb,dx,[(Str.ofString "many",V.int (ws.length:Int)),(Str.ofString "alones",V.ref pa)],by rw [qb (Ne.symm hsp)];exact fb,T.uh,T.qh,show (2:Nat) < 1000 by decide,?_⟩
   rw [show eg (Str.ofString "steps") (V.ref sd) [(Str.ofString "many",V.int (ws.length:Int)),(Str.ofString "alones",V.ref pa)]=fj ws.length pa sd from ed [Str.ofString "many",Str.ofString "alones"] rfl (by decide +kernel)]
   have sx7:ud p H' (upd (upd (upd (upd H3 pa (.lst (ws.map fun p=>V.int (Nc p)))) p (.ins t.Gb dx [(Str.ofString "many",V.int (ws.length:Int)),(Str.ofString "alones",V.ref pa)])) sd (.ext (AtO sd o))) p (.ins t.Gb dx (fj ws.length pa sd))):=fun b u hb e=>by
    have e4:=sm _ _ (sx2 _ _ hb e)
    rw [qb hb,qb (zb e4 hsn),qb hb]
    exact s4 _ _ e4
   have e7p:(upd (upd (upd (upd H3 pa (.lst (ws.map fun p=>V.int (Nc p)))) p (.ins t.Gb dx [(Str.ofString "many",V.int (ws.length:Int)),(Str.ofString "alones",V.ref pa)])) sd (.ext (AtO sd o))) p (.ins t.Gb dx (fj ws.length pa sd))) p=some (.ins t.Gb dx (fj ws.length pa sd)):=fb
   have e7a:(upd (upd (upd (upd H3 pa (.lst (ws.map fun p=>V.int (Nc p)))) p (.ins t.Gb dx [(Str.ofString "many",V.int (ws.length:Int)),(Str.ofString "alones",V.ref pa)])) sd (.ext (AtO sd o))) p (.ins t.Gb dx (fj ws.length pa sd))) pa=some (.lst (ws.map fun p=>V.int (Nc p))):=by
    rw [qb hpap,qb (Ne.symm hsa),qb hpap];exact fb
   have nt7:NoT (upd (upd (upd (upd H3 pa (.lst (ws.map fun p=>V.int (Nc p)))) p (.ins t.Gb dx [(Str.ofString "many",V.int (ws.length:Int)),(Str.ofString "alones",V.ref pa)])) sd (.ext (AtO sd o))) p (.ins t.Gb dx (fj ws.length pa sd))):=(((nt3.upd).upd).upd).upd
   have D7:=mz (u:=.ins t.Gb dx (fj ws.length pa sd)) hD (Ne.symm hsp) (fun xs z=>by rw [qb (Ne.symm hsp),fb] at z;cases z)
   generalize upd (upd (upd (upd H3 pa (.lst (ws.map fun p=>V.int (Nc p)))) p (.ins t.Gb dx [(Str.ofString "many",V.int (ws.length:Int)),(Str.ofString "alones",V.ref pa)])) sd (.ext (AtO sd o))) p (.ins t.Gb dx (fj ws.length pa sd))=H7 at sx7 e7p e7a nt7 D7 ⊢
   have hwp:wl ≠ p:=dg w1 hp (by intro z;cases z)
   have hpsn:H' sd=none:=by
    cases e:H' sd with
    | none=>rfl
    | some u=>
     have:=sm _ _ (sx2 _ _ hsp e)
     rw [hsn] at this
     cases this
   refine ⟨⟨_,SqL.of (sx7 _ _ hwp w1)⟩,?_⟩
   refine Ni.enum (xs:=qs.map V.ref) (fun i σ H8=>(∃ a b c' d,σ=[some (V.ref p),some (V.ref c),some (V.ref wl),some (V.ref pw),a,b,c',d])∧ud p H' H8∧NoT H8∧H8 p=some (.ins t.Gb dx (fj ws.length pa sd))∧H8 pa=some (.lst (ws.map fun p=>V.int (Nc p)))∧Ri P w H8 sd (Zf n ws i)) ?_ ?_ ?_ ?_
   ·exact ⟨⟨_,_,_,_,rfl⟩,sx7,nt7,e7p,e7a,D7⟩
   ·rintro i σ H8 hi ⟨_,sx8,_⟩
    exact SqL.of (sx8 _ _ hwp w1)
   ·rintro i v σ H8 r hv ⟨⟨a,b,c',d,rfl⟩,sx8,nt8,e8p,e8a,D8⟩ hr8
    obtain ⟨qi,hqi,rfl⟩:=Od hv
    have hi:i < ws.length:=by rw [← w2];exact (List.getElem?_eq_some_iff.mp hqi).1
    have hwi:ws[i]? = some ws[i]:=List.getElem?_eq_getElem hi
    have eqi:∀ {H9:Hp},ud p H' H9→H9 qi=some (.tup [.str ws[i].1.name,.int ws[i].2]):=fun sx=>sx _ _ (dg (al i qi _ hqi hwi) hp (by intro z;cases z)) (al i qi _ hqi hwi)
    obtain ⟨ki,hki⟩:=hds _ (List.mem_of_getElem? hwi)
    refine rh ?_
    (walk_at "RD")
    have s9:Xb H8 (upd H8 r (.tup [.int i,.ref qi])):=jb hr8
    refine ⟨⟨_,SqL.of (s9 _ _ (sx8 _ _ hwp w1))⟩,?_⟩
    refine Ni.enum (xs:=qs.map V.ref) (fun j σ H9=>(∃ c' d,σ=[some (V.ref p),some (V.ref c),some (V.ref wl),some (V.ref pw),some (V.int (i:Int)),some (V.ref qi),c',d])∧ud p H' H9∧NoT H9∧H9 p=some (.ins t.Gb dx (fj ws.length pa sd))∧H9 pa=some (.lst (ws.map fun p=>V.int (Nc p)))∧Ri P w H9 sd (Zf n ws i ++ Ag n ws i j)) ?_ ?_ ?_ ?_
    ·exact ⟨⟨_,_,rfl⟩,sx8.trans (ud.of s9),nt8.upd,s9 _ _ e8p,s9 _ _ e8a,by rw [Ht,List.append_nil];exact vh D8 s9⟩
    ·rintro j σ H9 hj ⟨_,sx9,_⟩
     exact SqL.of (sx9 _ _ hwp w1)
    ·rintro j v σ H9 r2 hv ⟨⟨c2,d2,rfl⟩,sx9,nt9,e9p,e9a,D9⟩ hr9
     obtain ⟨qj,hqj,rfl⟩:=Od hv
     have hj:j < ws.length:=by rw [← w2];exact (List.getElem?_eq_some_iff.mp hqj).1
     have hwj:ws[j]? = some ws[j]:=List.getElem?_eq_getElem hj
     obtain ⟨kj,hkj⟩:=hds _ (List.mem_of_getElem? hwj)
     have s10:Xb H9 (upd H9 r2 (.tup [.int j,.ref qj])):=jb hr9
     have sx10:=sx9.trans (ud.of (p:=p) s10)
     have eqj:∀ {H9:Hp},ud p H' H9→H9 qj=some (.tup [.str ws[j].1.name,.int ws[j].2]):=fun sx=>sx _ _ (dg (al j qj _ hqj hwj) hp (by intro z;cases z)) (al j qj _ hqj hwj)
     have nt10:NoT (upd H9 r2 (.tup [.int j,.ref qj])):=nt9.upd
     have e10p:=s10 _ _ e9p
     have e10a:=s10 _ _ e9a
     have D10:=vh D9 s10
     refine rh ?_
     simp only [List.set_cons_succ,List.set_cons_zero]
     generalize upd H9 r2 (.tup [.int j,.ref qj])=H10 at sx10 nt10 e10p e10a D10 ⊢
     by_cases hij:i=j
     ·refine Mb false (fun Q hQ=>?_) (fun z=>nomatch z) (fun _=>?_)
      ·(walk_at "RD")
       rw [if_neg (by simp [hij])]
       exact hQ
      ·simp only [qd]
       exact ⟨⟨_,_,rfl⟩,sx10,nt10,e10p,e10a,by rw [Xs hwi hwj (fun z=>z.1 hij)];exact D10⟩
     refine Mb (mt n ws[i].1 ws[j].1) (fun Q hQ=>?_) (fun hm=>?_) (fun hm=>?_)
     ·(walk_at "RD")
      rw [if_pos (by simp;omega)]
      exact ⟨_,SqT.of (eqi sx10),_,yb (j:=0) rfl,_,SqT.of (eqj sx10),_,yb (j:=0) rfl,c,n,ds,ki,kj,_,_,rfl,Zu hp sx10 C,hn,hki,hkj,nt10,_,rfl,hQ⟩
     ·(walk_at "RD")
      refine ⟨_,SqT.of (eqi sx10),_,yb (j:=1) rfl,_,SqT.of (eqi sx10),_,yb (j:=0) rfl,_,SqT.of (eqj sx10),_,yb (j:=0) rfl,c,n,ds,ki,kj,_,_,rfl,Zu hp sx10 C,hki,hkj,_,rfl,_,rfl,_,Wj T e10p,by decide,fun tp htp=>⟨sd,rfl,_,vh D10 (jb htp),Ml i j,(show upd H10 tp (.tup [V.int (i:Int),V.int (j:Int)]) tp=some (HO.tup [V.int (i:Int),V.int (j:Int)]) from fb),?_,fun o hD2=>⟨⟨_,rfl⟩,?_,(nt10.upd).upd,?_,?_,?_⟩⟩⟩
      ·have a1:=Ix n ws i
       have a2:=Vp n ws i j
       have a3:=Nat.mul_le_mul (show i ≤ 20 by omega) hlen
       exact Nat.lt_of_le_of_lt (show (Zf n ws i ++ Ag n ws i j).length ≤ 420 by rw [List.length_append];omega) (by decide)
      ·intro b u hb e
       have e1:=sx10 _ _ hb e
       rw [qb (zb e hpsn),qb (zb e1 htp)]
       exact e1
      ·rw [qb (Ne.symm hsp),qb (zb e10p htp)]
       exact e10p
      ·rw [qb (Ne.symm hsa),qb (zb e10a htp)]
       exact e10a
      ·rw [← jy hwi hwj ⟨hij,hm⟩]
       exact hD2
     ·simp only [qd]
      exact ⟨⟨_,_,rfl⟩,sx10,nt10,e10p,e10a,by rw [Xs hwi hwj (fun z=>by rw [hm] at z;exact nomatch z.2)];exact D10⟩
    ·rintro σ H9 ⟨⟨c2,d2,rfl⟩,sx9,nt9,e9p,e9a,D9⟩
     rw [List.length_map,w2,← Xn] at D9
     exact ⟨⟨_,_,_,_,rfl⟩,sx9,nt9,e9p,e9a,D9⟩
   ·rintro σ H8 ⟨⟨a,b,c',d,rfl⟩,sx8,nt8,e8p,e8a,D8⟩
    rw [List.length_map,w2] at D8
    (walk_at "RD")
    exact q _ sx8 nt8 ⟨dx,pa,sd,e8p,e8a,D8⟩
end
theorem Fp {H H':Hp} {wl:Addr} {ws:List (WD × Int)} (h:Wn H wl ws) (s:Xb H H'):Wn H' wl ws:=by
 obtain ⟨qs,w1,w2,w3⟩:=h
 exact ⟨qs,s _ _ w1,w2,fun i q p h1 h2=>s _ _ (w3 i q p h1 h2)⟩
theorem bw:∀ ks:List Int,ks ≠ []→∃ m,m ∈ ks∧∀ k ∈ ks,k ≤ m
 | [],h=>absurd rfl h
 | [k],_=>⟨k,by simp,by simp⟩
 | k :: k2 :: ks,_=>by
  obtain ⟨m,h1,h2⟩:=bw (k2 :: ks) (by simp)
  by_cases h:k ≤ m
  ·exact ⟨m,List.mem_cons_of_mem _ h1,fun x hx=>(List.mem_cons.mp hx).elim (fun e=>by rw [e];exact h) (h2 x)⟩
  ·exact ⟨k,List.mem_cons_self ..,fun x hx=>(List.mem_cons.mp hx).elim (fun e=>by rw [e];exact Int.le_refl _) (fun z=>by have:=h2 x z;omega)⟩
theorem Vu {H:Hp} {kvs:List (List Key × V)} {xs:List (List Key × Addr × Value)} (r:Paired (fun (p:List Key × V) (q:List Key × Addr × Value)=>p.1=q.1∧H q.2.1=some (.tup (p.1.map kV))∧Qc p.2 q.2.2) kvs xs):kvs.map (·.1)=xs.map (·.1):=by
 induction r with
 | nil=>rfl
 | cons h _ ih=>rw [List.map_cons,List.map_cons,ih,h.1]
theorem Bx {k:List Key} {v:V}:∀ {kvs:List (List Key × V)},(kvs.map (·.1)).Nodup→(k,v) ∈ kvs→Zh kvs k=some v
 | [],_,h=>nomatch h
 | p :: r,nd,h=>by
  rw [List.map_cons,List.nodup_cons] at nd
  rcases List.mem_cons.mp h with e | e
  ·rw [← e];exact el rfl
  ·rw [Wk (fun z=>nd.1 (by rw [z];exact List.mem_map_of_mem (f:=(·.1)) e))]
   exact Bx nd.2 e
noncomputable def DoB (n:Int) (ws:List (WD × Int)) (size:Int) (bs:List Int):Prop:=(∀ p ∈ ws,Nc p ≤ size)∧∀ (i j:Nat) (p q:WD × Int) (x y:Int),ws[i]? = some p→ws[j]? = some q→i ≠ j→mt n p.1 q.1=true→bs[i]? = some x→bs[j]? = some y→p.2 + np p.1 q.1 ≤ (y - x) % size
noncomputable def IH (ws:List (WD × Int)) (size:Int) (bs:List Int) (kv:List Key × V):Prop:=∀ (i j:Nat) (p q:WD × Int) (x y:Int),kv=(Ml i j,V.int (p.2 + np p.1 q.1))→ws[i]? = some p→ws[j]? = some q→bs[i]? = some x→bs[j]? = some y→p.2 + np p.1 q.1 ≤ (y - x) % size
theorem az {n:Int} {ws:List (WD × Int)} {i j:Nat} {p q:WD × Int} (hi:ws[i]? = some p) (hj:ws[j]? = some q) (hij:i ≠ j) (hm:mt n p.1 q.1=true):(Ml i j,V.int (p.2 + np p.1 q.1)) ∈ Zf n ws ws.length:=by
 unfold Zf
 refine List.mem_flatMap.mpr ⟨i,List.mem_range.mpr (List.getElem?_eq_some_iff.mp hi).1,?_⟩
 unfold Ag
 refine List.mem_filterMap.mpr ⟨j,List.mem_range.mpr (List.getElem?_eq_some_iff.mp hj).1,?_⟩
 simp only [hi,hj,if_pos (And.intro hij hm)]
noncomputable def RH (t:Adr) (H:Hp) (vs:List V) (n:Int) (ws:List (WD × Int)) (size:Int) (bs:List Int):Prop:=∃ c wl bl ds,vs=[.ref c,.ref wl,.int size,.ref bl]∧Sd t H c n ds∧0 < n∧Wn H wl ws∧(∀ q ∈ ws,∃ i:Nat,ds[i]? = some q.1)∧(0 < ws.length∧ws.length ≤ 20)∧(∀ q ∈ ws,0 ≤ q.2∧q.2 ≤ 100000)∧H bl=some (.lst (bs.map V.int))∧bs.length=ws.length∧0 < size∧NoT H
noncomputable def FB (t:Adr):Sp:=fun vs H Q _=>∃ n ws size bs,RH t H vs n ws size bs∧∀ r H',Xb H H'→(r=true↔DoB n ws size bs)→Q (.bl r) H'
noncomputable def MA (t:Adr):Sp:=fun vs H Q _=>∃ n ws size bs,RH t H vs n ws size bs∧∀ r,(r=true↔DoB n ws size bs)→Q (.bl r) H
section
variable {P:Program} {w:World} {K:PySem.W.Frag} {mg:Str→Option Value} {base:Heap} {t:Adr}
theorem EB (T:Txt w K mg t):Lb P w K mg base CX0 6 t.vf t.kf ["crossing","wants","size","begins"] (FB t):=by
 have G_Wanted_init:Lb P w K mg base CX0 4 t.Xd t.Ve ["self","crossing","wants"] (Cs P w t):=nA T
 refine T.bf.ok Ff (fun vs H Q E h=>?_) (fun cdv A outer s H vs Q E hr h=>?_)
 ·obtain ⟨n,ws,size,bs,⟨c,wl,bl,ds,rfl,_⟩,_⟩:=h;rfl
 obtain ⟨n,ws,size,bs,⟨c,wl,bl,ds,rfl,C,hn,W,hds,⟨hl0,hlen⟩,hb,eb,hbl,hsz,nt⟩,q⟩:=h
 have hu:=Ky hr
 refine ⟨_,(cb (Bb (i:=4) Ff.nd rfl (Or.inl rfl) (ck T.Qz G_Wanted_init hr rfl T.oA T.jo .nil Cb (ab (pv 0) (ab (pv 1) gb))))
   (cb (Dd (Jb wv (Zb (Cp rfl) rfl T.Iu Xe (ab (Ac (pv 4) rfl) gb)) (pv 2) (Ob _)) (ib (Eb Xj)) Nb)
   (cb (sf PassesOwn.never rfl (AE (Ac (pv 4) rfl)) (jh (K:=K) (n:=2) rfl rfl (Tc (Ib (i:=5) Ff.nd rfl (Or.inl rfl) (.inl rfl)) (Tc (Ib (i:=6) Ff.nd rfl (Or.inl rfl) (.inl rfl)) bh))) (ib (Dd (Jb Lq (Db ve (Db uf (Qb Dc (pv 3) (pv 6) (fun _ _=>rfl)) (Qb Dc (pv 3) (pv 5) (fun _ _=>rfl))) (pv 2)) (nD hu (Ac (pv 4) rfl) (Wl (ab (pv 5) (ab (pv 6) gb))) (fun _ _=>rfl)) (Ob _)) (ib (Eb Xj)) Nb)))
   (ib (Eb Xj))))),?_⟩
 (walk_at "RD")
 intro x dx hx hdx hne
 have s1:Xb H (upd (upd H dx (.own x)) x (.ins t.Gb dx [])):=(jb hdx).trans (jb (by rw [qb (Ne.symm hne)];exact hx))
 refine ⟨x,dx,c,wl,n,ds,ws,rfl,fb,C.same s1,hn,Fp W s1,hds,hlen,hb,(nt.upd).upd,fun H2 sx2 nt2 WA=>⟨rfl,?_⟩⟩
 have s2:Xb H H2:=fun b u e=>sx2 b u (zb e hx) (s1 _ _ e)
 obtain ⟨dx',al,sd,e1,e2,D⟩:=WA
 obtain ⟨m,hm1,hm2⟩:=bw (ws.map Nc) (by intro z;rw [List.map_eq_nil_iff] at z;rw [z] at hl0;exact absurd hl0 (by decide))
 have e2':H2 al=some (.lst ((ws.map Nc).map V.int)):=by rw [List.map_map];exact e2
 refine Mb (decide (size < m)) (fun Q hQ=>?_) (fun h=>?_) (fun h=>?_)
 ·(walk_at "RD")
  exact ⟨_,Wr T e1,_,rfl,_,SqL.of e2',m,hm1,hm2,hQ⟩
 ·have h':=of_decide_eq_true h
  (walk_at "RD")
  refine q false H2 s2 ⟨(fun z=>by cases z),fun z=>?_⟩
  obtain ⟨p,hp,rfl⟩:=List.mem_map.mp hm1
  have:=z.1 p hp
  omega
 have h':=of_decide_eq_false h
 (walk_at "RD")
 refine ⟨_,Wj T e1,_,rfl,_,D,fun o es ep xs r=>?_⟩
 have nd:((Zf n ws ws.length).map (·.1)).Nodup:=by rw [Vu r.ks];exact r.nd
 refine Ni.of (n:=(Zf n ws ws.length).length) (fun i σ H3=>(∃ a b,σ=[some (V.ref c),some (V.ref wl),some (V.int size),some (V.ref bl),some (V.ref x),a,b])∧Xb H2 H3∧∀ (l:Nat) (kv:List Key × V),l < i→(Zf n ws ws.length)[l]? = some kv→IH ws size bs kv) ?_ ?_ ?_ ?_ ?_
 ·exact ⟨⟨_,_,rfl⟩,Xb.refl _,fun l kv hl=>absurd hl (Nat.not_lt_zero _)⟩
 ·rintro i σ H3 hi ⟨_,s3,_⟩
  exact ⟨s3 _ _ r.at_,hi⟩
 ·rintro σ H3 ⟨_,s3,_⟩
  exact ⟨s3 _ _ r.at_,Nat.le_refl _⟩
 ·rintro i σ H3 v H4 hi ⟨⟨a,b,rfl⟩,s3,hpass⟩ ⟨rfl,k,bb,u,hxs,rfl⟩
  have hkv:(Zf n ws ws.length)[i]? = some (Zf n ws ws.length)[i]:=List.getElem?_eq_getElem hi
  have hmem:=List.mem_of_getElem? hkv
  generalize (Zf n ws ws.length)[i]=kv at hkv hmem
  obtain ⟨q',hq',z1,z2,z3⟩:=yC r.ks hkv
  rw [hxs] at hq'
  cases hq'
  obtain ⟨k0,hk0,z⟩:=cq hmem
  obtain ⟨j0,p,q',hj0,hp0,hq0,hne0,hmt,rfl⟩:=mm z
  have z4:H4 bb=some (.tup [.int (k0:Int),.int (j0:Int)]):=s3 _ _ z2
  have hk1:k0 < bs.length:=by omega
  have hj1:j0 < bs.length:=by omega
  have hx0:bs[k0]? = some bs[k0]:=List.getElem?_eq_getElem hk1
  have hy0:bs[j0]? = some bs[j0]:=List.getElem?_eq_getElem hj1
  refine lp (SqT.of z4) ?_
  simp only [List.set_cons_succ,List.set_cons_zero]
  refine lj (fun b H5=>Xb H2 H5∧(b=true↔(bs[j0] - bs[k0]) % size < p.2 + np p.1 q'.1)) (fun Q hQ=>?_) (fun H5 r5=>?_) (fun H5 r5=>?_)
  ·have ebl:H4 bl=some (.lst (bs.map V.int)):=s3 _ _ (s2 _ _ eb)
   (walk_at "RD")
   exact ⟨_,SqL.of ebl,_,yb (j:=j0) (by rw [List.getElem?_map,hy0];rfl),_,SqL.of ebl,_,yb (j:=k0) (by rw [List.getElem?_map,hx0];rfl),_,rfl,_,rfl,hsz,_,Wj T (s3 _ _ e1),by decide,fun tp htp=>⟨sd,rfl,_,vh (vh D s3) (jb htp),Ml k0 j0,(show upd H4 tp (.tup [V.int (k0:Int),V.int (j0:Int)]) tp=some (HO.tup [V.int (k0:Int),V.int (j0:Int)]) from fb),_,Bx nd hmem,_,rfl,hQ _ _ ⟨s3.trans (jb htp),decide_eq_true_iff⟩⟩⟩
  ·(walk_at "RD")
   refine q false H5 (s2.trans r5.1) ⟨(fun z=>by cases z),fun z=>?_⟩
   have a1:=z.2 k0 j0 p q' _ _ hp0 hq0 hne0 hmt hx0 hy0
   have a2:=r5.2.mp rfl
   omega
  ·simp only [qd]
   refine ⟨⟨_,_,rfl⟩,r5.1,fun l kv' hl hkv'=>?_⟩
   by_cases hli:l < i
   ·exact hpass l kv' hli hkv'
   ·have e:l=i:=by omega
    subst e
    rw [hkv] at hkv'
    cases hkv'
    intro i' j' p2 q2 x2 y2 ek e5 e6 e7 e8
    have ek1:=Al (congrArg Prod.fst ek)
    obtain ⟨rfl,rfl⟩:=ek1
    rw [hp0] at e5;cases e5
    rw [hq0] at e6;cases e6
    rw [hx0] at e7;cases e7
    rw [hy0] at e8;cases e8
    by_cases g:(bs[j0] - bs[k0]) % size < p.2 + np p.1 q'.1
    ·exact absurd (r5.2.mpr g) (by decide)
    ·omega
 ·rintro σ H3 ⟨⟨a,b,rfl⟩,s3,hpass⟩
  (walk_at "RD")
  refine q true H3 (s2.trans s3) ⟨fun _=>⟨fun p hp=>?_,fun i j p q' x y hi hj hij hmt hx hy=>?_⟩,fun _=>rfl⟩
  ·have:=hm2 _ (List.mem_map_of_mem hp)
   omega
  ·obtain ⟨l,hl⟩:=List.getElem?_of_mem (az hi hj hij hmt)
   exact hpass l _ (List.getElem?_eq_some_iff.mp hl).1 hl i j p q' x y rfl hi hj hx hy
theorem mE (T:Txt w K mg t):Lb P w K mg base CX0 6 t.vf t.kf ["crossing","wants","size","begins"] (MA t):=
 (EB T).forget fun vs H Q E h=>by
  obtain ⟨n,ws,size,bs,D,q⟩:=h
  obtain ⟨c,wl,bl,ds,_,_,_,_,_,_,_,_,_,_,nt⟩:=id D
  exact ⟨nt,n,ws,size,bs,D,fun r H' sm hr=>⟨sm,q r hr⟩⟩
end
end My
namespace My
open PySem L2
theorem Zp (x:Str) {a b:Nat} (hab:a ≤ b) (hb:b ≤ x.cps.toList.length):(Txt.slice x (some (a:Int)) (some (b:Int))).cps.toList=(x.cps.toList.drop a).take (b - a):=by
 have hx:x.length=x.cps.toList.length:=by simp [Str.length]
 have e:=StrLaws.sliceText_nat x hab (by rw [hx];exact hb)
 rw [show Txt.slice x (some (a:Int)) (some (b:Int))=StrLaws.sliceText x (some (a:Int)) (some (b:Int)) from rfl,e]
theorem Ss (x:Str) {b:Nat} (hb:b ≤ x.cps.toList.length):(Txt.slice x none (some (b:Int))).cps.toList=x.cps.toList.take b:=by
 have:Txt.slice x none (some (b:Int))=Txt.slice x (some ((0:Nat):Int)) (some (b:Int)):=by
  show StrLaws.sliceText x none (some (b:Int))=StrLaws.sliceText x (some ((0:Nat):Int)) (some (b:Int))
  unfold StrLaws.sliceText
  rw [StrLaws.sliceIdx_none_lo];rfl
 rw [this,Zp x (Nat.zero_le _) hb,List.drop_zero,Nat.sub_zero]
noncomputable def nmA (l:List Nat) (k:Nat):List Nat:=l.take (k + 1)
noncomputable def nmB (l:List Nat) (at_ size f k:Nat):List Nat:=l.take at_ ++ [97 + (f + 7 * k) % 26] ++ (l.drop (at_ + 1)).take (size - (at_ + 1))
theorem Sx {l:List Nat} (hl:l.length=8) (al:∀ c ∈ l,97 ≤ c∧c ≤ 122) {k:Nat} (hk:k < 8):(nmA l k).length=k + 1∧∀ c ∈ nmA l k,97 ≤ c∧c ≤ 122:=by
 unfold nmA
 exact ⟨by rw [List.length_take];omega,fun c hc=>al c (List.mem_of_mem_take hc)⟩
theorem xF {l:List Nat} (hl:l.length=8) (al:∀ c ∈ l,97 ≤ c∧c ≤ 122) {a z f k:Nat} (ha:a < z) (hz:z ≤ 8):(nmB l a z f k).length=z∧∀ c ∈ nmB l a z f k,97 ≤ c∧c ≤ 122:=by
 unfold nmB
 refine ⟨by rw [List.length_append,List.length_append,List.length_take,List.length_take,List.length_drop,List.length_singleton];omega,fun c hc=>?_⟩
 rcases List.mem_append.mp hc with hc | hc
 ·rcases List.mem_append.mp hc with hc | hc
  ·exact al c (List.mem_of_mem_take hc)
  ·rw [List.mem_singleton.mp hc];omega
 ·exact al c (List.mem_of_mem_drop (List.mem_of_mem_take hc))
theorem eC {l:List Nat} (hl:l.length=8) {a z f i j:Nat} (ha:a < z) (hz:z ≤ 8) (hi:i < 8) (hj:j < 8) (e:nmB l a z f i=nmB l a z f j):i=j:=by
 have h1:∀ k,(nmB l a z f k)[a]? = some (97 + (f + 7 * k) % 26):=fun k=>by
  unfold nmB
  rw [List.append_assoc,List.getElem?_append_right (by rw [List.length_take];omega),List.length_take,show a - min a l.length=0 by omega]
  rfl
 have h2:=h1 i
 rw [e,h1 j] at h2
 have:=Option.some.inj h2
 omega
theorem QB {x:Str} {l:List Nat} (e:x.cps.toList=l) (h0:1 ≤ l.length) (h1:l.length ≤ 8) (al:∀ c ∈ l,97 ≤ c∧c ≤ 122):made x Vf 8=true:=by
 have hx:x.length=x.cps.toList.length:=by simp [Str.length]
 exact Fq (by rw [hx,e];exact h0) (by rw [hx,e];exact h1) (by rw [e];exact al)
noncomputable def Nms (m:Nat) (xs:List Str):Prop:=xs.length=m∧xs.Nodup∧∀ x ∈ xs,made x Vf 8=true
theorem aB {i:Int} (h0:0 ≤ i) (h1:i < 26):∃ c:Nat,atI (Str.ofString "abcdefghijklmnopqrstuvwxyz").cps.toList i=some c∧c=97 + i.toNat:=by
 have:∀ k,k < 26→atI (Str.ofString "abcdefghijklmnopqrstuvwxyz").cps.toList ((k:Nat):Int)=some (97 + k):=by decide +kernel
 refine ⟨97 + i.toNat,?_,rfl⟩
 have e:=this i.toNat (by omega)
 rwa [Int.toNat_of_nonneg h0] at e
theorem vG:∀ ys:List Str,(Str.join ⟨#[]⟩ ys).cps.toList=(ys.map (·.cps.toList)).flatten
 | []=>rfl
 | [a]=>by
  show a.cps.toList=_
  simp
 | a :: b :: r=>by
  show (a ++ ⟨#[]⟩ ++ Str.join ⟨#[]⟩ (b :: r)).cps.toList=_
  rw [Str.cps_append,Array.toList_append,Str.cps_append,Array.toList_append,vG (b :: r)]
  simp
theorem Qn (f:Nat→Nat) (n:Nat):(Txt.join (Str.ofString "") ((List.range n).map fun i=>Kq (f i))).cps.toList=(List.range n).map f:=by
 rw [show Txt.join (Str.ofString "") ((List.range n).map fun i=>Kq (f i))=Str.join ⟨#[]⟩ ((List.range n).map fun i=>Kq (f i)) from StrLaws.glued_eq_join _ _,vG,List.map_map]
 have:((fun x:Str=>x.cps.toList) ∘ fun i=>Kq (f i))=fun i=>[f i]:=rfl
 rw [this]
 induction (List.range n) with
 | nil=>rfl
 | cons a l ih=>rw [List.map_cons,List.flatten_cons,ih];rfl
noncomputable def uq (K:PySem.W.Frag) (a:Addr) (ns:List Int):Sp:=fun vs H Q _=>∃ m:Nat,vs=[.ref a,.int m]∧Sc K a ns H∧(1 ≤ m∧m ≤ 8)∧∀ p xs H',Xb H H'→Sc K a ns H'→H p=none→H' p=some (.lst (nc xs))→Nms m xs→Q (.ref p) H'
section
variable {P:Program} {w:World} {K:PySem.W.Frag} {mg:Str→Option Value} {base:Heap} {t:Adr}
theorem Uv (T:Txt w K mg t) (a:Addr) (ns:List Int) (h63:ns.length ≤ 63):Lb P w K mg base CX0 2 t.Cf t.Kf ["_law_script","_law_many"] (uq K a ns):=by
 have G__law_draw:Lb P w K mg base CX0 1 t.gd t.jd ["_law_script","_law_k","_law_many"] (qc K a ns):=Pj T a ns h63
 refine T.Zg.ok cc (fun vs H Q E h=>?_) (fun cdv A outer s H vs Q E hr h=>?_)
 ·obtain ⟨m,rfl,_⟩:=h;rfl
 obtain ⟨m,rfl,S,hm,q⟩:=h
 have hL:(Str.ofString "abcdefghijklmnopqrstuvwxyz").length=26:=by decide +kernel
 refine ⟨_,(cb (Bb (i:=2) cc.nd rfl (Or.inr rfl) pd)
   (cb (Bb (i:=3) cc.nd rfl (Or.inl rfl) (Ol PySem.F.plainAttrs_str PySem.F.slot_str_join PySem.F.type_str_join Yq pd (ab (df rfl (ye rfl T.vg (ab db gb)) (Zc (sc:=lb ph) rfl (by decide +kernel)) (N:=["_law_k","_law_letters","_law_script"]) (sel:=[none,some 2,some 0]) (Ed (M:=["_law_script","_law_many","_law_letters","_law_word","_law_size","_law_at","_law_first","_law_some","_law_k","_law_name","_law_sign"]) (by decide +kernel)) (Blk.of (fun _ _ _ _=>(Ib (i:=0) (Vh (N:=["_law_k","_law_letters","_law_script"]) (by decide +kernel) rfl) rfl (Or.inl rfl))) (fun _ _ _ _=>⟨_,ie,by first | rfl | (dsimp only [Cx.block];done) | (dsimp only [Cx.block];exact rfl)⟩) (fun _ _ _ _=>⟨_,(Qb kx (pv 1) (vb G__law_draw hr rfl T.rb T.pb.kp T.ub .nil Cb (ab (pv 2) (ab (Db Rb db (pv 0)) (ab db gb)))) (fun _ _=>rfl)),by first | rfl | (dsimp only [Cx.block];done) | (dsimp only [Cx.block];exact rfl)⟩))) gb)))
   (cb (Bb (i:=4) cc.nd rfl (Or.inl rfl) (Db Rb db (vb G__law_draw hr rfl T.rb T.pb.kp T.ub .nil Cb (ab (pv 0) (ab db (ab db gb))))))
   (cb (Bb (i:=5) cc.nd rfl (Or.inl rfl) (vb G__law_draw hr rfl T.rb T.pb.kp T.ub .nil Cb (ab (pv 0) (ab db (ab (pv 4) gb)))))
   (cb (Bb (i:=6) cc.nd rfl (Or.inl rfl) (vb G__law_draw hr rfl T.rb T.pb.kp T.ub .nil Cb (ab (pv 0) (ab db (ab db gb)))))
   (cb (Bb (i:=7) cc.nd rfl (Or.inl rfl) (Df gb))
   (cb (sf PassesOwn.never rfl (ye rfl T.vg (ab (pv 1) gb)) (Ib (i:=8) cc.nd rfl (Or.inl rfl)) (cb (Bb (i:=9) cc.nd rfl (Or.inl rfl) (Ke Rv (pv 3) pk (Ce (Db Rb (pv 8) db))))
   (cb (Dd (Jb Tf (vb G__law_draw hr rfl T.rb T.pb.kp T.ub .nil Cb (ab (pv 0) (ab db (ab db gb)))) db (Ob _)) (cb (Bb (i:=10) cc.nd rfl (Or.inl rfl) (Qb kx (pv 2) (Db ve (Db Rb (pv 6) (Db pf db (pv 8))) db) (fun _ _=>rfl)))
   (ib (Bb (i:=9) cc.nd rfl (Or.inl rfl) (Db uk (Db uk (Ke Rv (pv 3) pk (Ce (pv 5))) (pv 10)) (Ke Rv (pv 3) (Ce (Db Rb (pv 5) db)) (Ce (pv 4))))))) Nb)
   (ib (Hd (Ol PySem.F.plainAttrs_list PySem.F.slot_list_append PySem.F.type_list_append jg (pv 7) (ab (pv 9) gb)))))))
   (cb (Dd (Jb Tf (vb G__law_draw hr rfl T.rb T.pb.kp T.ub .nil Cb (ab (pv 0) (ab db (ab db gb)))) db (Ob _)) (ib (Hd (JF PySem.F.plainAttrs_list PySem.F.slot_list_reverse PySem.F.type_list_reverse iu (pv 7)))) Nb)
   (ib (Eb (pv 7))))))))))),?_⟩
 simp only [Kb]
 refine dc (fun σ' H'=>H'=H∧σ'=[some (.ref a),some (.int m),some (.str (Str.ofString "abcdefghijklmnopqrstuvwxyz")),none,none,none,none,none,none,none,none]) (fun D' hD _ _ _=>?_) ?_
 ·(walk_at "RD")
  exact hD _ _ ⟨rfl,rfl⟩
 rintro σ1 H1 ⟨rfl,rfl⟩
 simp only [Kb]
 refine dc (fun σ' H'=>Xb H1 H'∧Sc K a ns H'∧∃ wd:Str,wd.cps.toList.length=8∧(∀ c ∈ wd.cps.toList,97 ≤ c∧c ≤ 122)∧σ'=[some (.ref a),some (.int m),some (.str (Str.ofString "abcdefghijklmnopqrstuvwxyz")),some (.str wd),none,none,none,none,none,none,none]) (fun D' hD _ _ _=>?_) ?_
 ·(walk_at "RD")
  refine ⟨by decide,by decide,?_⟩
  refine Wc.range_map (n:=8) (fun i=>V.str (Kq (97 + (fe ns (100 + (i:Int)) 26).toNat))) (by decide) (fun i N hi hN=>?_) (fun p hp=>?_)
  ·have d1:=Fc ns (100 + (i:Int)) (m:=26) (by decide)
   have d2:=Cc ns (100 + (i:Int)) (m:=26) (by decide)
   obtain ⟨c,hc,rfl⟩:=aB d1 d2
   (walk_at "RD"; repeat (simp only [qc];walk_at "RD"))
   exact ⟨Sub.name,S,by omega,by omega,by decide,by rw [hL];decide,_,hc,hN⟩
  ·have e:(List.range 8).map (fun i:Nat=>V.str (Kq (97 + (fe ns (100 + (i:Int)) 26).toNat)))=nc ((List.range 8).map fun i:Nat=>Kq (97 + (fe ns (100 + (i:Int)) 26).toNat)):=by unfold nc;rw [List.map_map];rfl
   refine ⟨p,rfl,(List.range 8).map fun i:Nat=>Kq (97 + (fe ns (100 + (i:Int)) 26).toNat),by rw [← e];exact SqL.of fb,?_,?_⟩
   ·have h1:(List.map (fun x:Str=>x.length) ((List.range 8).map fun i:Nat=>Kq (97 + (fe ns (100 + (i:Int)) 26).toNat))).sum=8:=by
     rw [List.map_map]
     rfl
    rw [h1,List.length_map,List.length_range]
    decide +kernel
   ·refine hD _ _ ⟨jb hp,S.new hp,_,?_,fun c hc=>?_,rfl⟩
    ·rw [Qn (fun i:Nat=>97 + (fe ns (100 + (i:Int)) 26).toNat) 8,List.length_map,List.length_range]
    ·rw [Qn (fun i:Nat=>97 + (fe ns (100 + (i:Int)) 26).toNat) 8] at hc
     obtain ⟨i,_,rfl⟩:=List.mem_map.mp hc
     have d1:=Fc ns (100 + (i:Int)) (m:=26) (by decide)
     have d2:=Cc ns (100 + (i:Int)) (m:=26) (by decide)
     omega
 rintro σ2 H2 ⟨s2,S2,wd,hwl,hwa,rfl⟩
 have hwn:wd.length=8:=by
  have:wd.length=wd.cps.toList.length:=by simp [Str.length]
  omega
 obtain ⟨z,hzz,hz1⟩:∃ z:Nat,1 + fe ns 112 8=(z:Nat)∧(1 ≤ z∧z ≤ 8):=by
  have d1:=Fc ns 112 (m:=8) (by decide)
  have d2:=Cc ns 112 (m:=8) (by decide)
  exact ⟨(1 + fe ns 112 8).toNat,by omega,by omega⟩
 simp only [Kb]
 refine dc (fun σ' H'=>H'=H2∧σ'=[some (.ref a),some (.int m),some (.str (Str.ofString "abcdefghijklmnopqrstuvwxyz")),some (.str wd),some (.int (z:Nat)),none,none,none,none,none,none]) (fun D' hD _ _ _=>?_) ?_
 ·(walk_at "RD"; repeat (simp only [qc];walk_at "RD"))
  rw [hzz]
  exact ⟨S2,by omega,by omega,by decide,hD _ _ ⟨rfl,rfl⟩⟩
 rintro σ3 H3 ⟨rfl,rfl⟩
 obtain ⟨at_,hat,hat1⟩:∃ at_:Nat,fe ns 113 (z:Int)=(at_:Nat)∧at_ < z:=by
  have d1:=Fc ns 113 (m:=(z:Int)) (by omega)
  have d2:=Cc ns 113 (m:=(z:Int)) (by omega)
  exact ⟨(fe ns 113 (z:Int)).toNat,by omega,by omega⟩
 simp only [Kb]
 refine dc (fun σ' H'=>H'=H3∧σ'=[some (.ref a),some (.int m),some (.str (Str.ofString "abcdefghijklmnopqrstuvwxyz")),some (.str wd),some (.int (z:Nat)),some (.int (at_:Nat)),none,none,none,none,none]) (fun D' hD _ _ _=>?_) ?_
 ·(walk_at "RD"; repeat (simp only [qc];walk_at "RD"))
  rw [hat]
  exact ⟨S2,by omega,by omega,by omega,hD _ _ ⟨rfl,rfl⟩⟩
 rintro σ4 H4 ⟨rfl,rfl⟩
 obtain ⟨f,hf,hf1⟩:∃ f:Nat,fe ns 114 26=(f:Nat)∧f < 26:=by
  have d1:=Fc ns 114 (m:=26) (by decide)
  have d2:=Cc ns 114 (m:=26) (by decide)
  exact ⟨(fe ns 114 26).toNat,by omega,by omega⟩
 simp only [Kb]
 refine dc (fun σ' H'=>H'=H4∧σ'=[some (.ref a),some (.int m),some (.str (Str.ofString "abcdefghijklmnopqrstuvwxyz")),some (.str wd),some (.int (z:Nat)),some (.int (at_:Nat)),some (.int (f:Nat)),none,none,none,none]) (fun D' hD _ _ _=>?_) ?_
 ·(walk_at "RD"; repeat (simp only [qc];walk_at "RD"))
  rw [hf]
  exact ⟨S2,by omega,by omega,by decide,hD _ _ ⟨rfl,rfl⟩⟩
 rintro σ5 H5 ⟨rfl,rfl⟩
 simp only [Kb]
 refine dc (fun σ' H'=>Sc K a ns H'∧Xb H5 H'∧∃ rl,H5 rl=none∧H' rl=some (.lst [])∧σ'=[some (.ref a),some (.int m),some (.str (Str.ofString "abcdefghijklmnopqrstuvwxyz")),some (.str wd),some (.int (z:Nat)),some (.int (at_:Nat)),some (.int (f:Nat)),some (.ref rl),none,none,none]) (fun D' hD _ _ _=>?_) ?_
 ·(walk_at "RD")
  exact ⟨Nat.zero_le _,fun rl hrl=>hD _ _ ⟨S2.new hrl,jb hrl,rl,hrl,fb,rfl⟩⟩
 rintro σ6 H6 ⟨S6,s6,rl,hrl,w6,rfl⟩
 obtain ⟨b,hb⟩:∃ b:Bool,decide (fe ns 110 2=1)=b:=⟨_,rfl⟩
 -- the k-th name's signs
 obtain ⟨g,hg⟩:∃ g:Nat→List Nat,g=fun k=>if b=true then nmB wd.cps.toList at_ z f k else nmA wd.cps.toList k:=⟨_,rfl⟩
 simp only [Kb]
 refine dc (fun σ' H'=>Sc K a ns H'∧Xb H5 H'∧(∃ xs:List Str,H' rl=some (.lst (nc xs))∧xs.map (·.cps.toList)=(List.range m).map g)∧∃ x8 x9 x10,σ'=[some (.ref a),some (.int m),some (.str (Str.ofString "abcdefghijklmnopqrstuvwxyz")),some (.str wd),some (.int (z:Nat)),some (.int (at_:Nat)),some (.int (f:Nat)),some (.ref rl),x8,x9,x10]) (fun D' hD _ _ _=>?_) ?_
 ·(walk_at "RD")
  refine ⟨by omega,by omega,?_⟩
  refine Ni.range (fun i σ H'=>Sc K a ns H'∧Xb H5 H'∧(∃ xs:List Str,H' rl=some (.lst (nc xs))∧xs.map (·.cps.toList)=(List.range i).map g)∧∃ x8 x9 x10,σ=[some (.ref a),some (.int m),some (.str (Str.ofString "abcdefghijklmnopqrstuvwxyz")),some (.str wd),some (.int (z:Nat)),some (.int (at_:Nat)),some (.int (f:Nat)),some (.ref rl),x8,x9,x10]) ⟨S6,s6,⟨[],w6,rfl⟩,_,_,_,rfl⟩ ?_ ?_
  ·rintro i σ H' hi ⟨S7,s7,⟨xs,w7,hxs⟩,x8,x9,x10,rfl⟩
   have hi8:i < 8:=by have:i < (m:Int).toNat:=hi;omega
   have hxl:xs.length=i:=by have:=congrArg List.length hxs;rwa [List.length_map,List.length_map,List.length_range] at this
   simp only [Rh,Kb,List.set_cons_succ,List.set_cons_zero,Int.zero_add]
   refine dc (fun σ' H''=>H''=H'∧σ'=[some (.ref a),some (.int m),some (.str (Str.ofString "abcdefghijklmnopqrstuvwxyz")),some (.str wd),some (.int (z:Nat)),some (.int (at_:Nat)),some (.int (f:Nat)),some (.ref rl),some (.int (i:Nat)),some (.str (Txt.slice wd none (some ((i + 1:Nat):Int)))),x10]) (fun D' hD _ _ _=>?_) ?_
   ·(walk_at "RD")
    exact ⟨by rw [hwn];decide,hD _ _ ⟨rfl,by rw [Int.natCast_add];rfl⟩⟩
   rintro σA HA ⟨rfl,rfl⟩
   simp only [Kb]
   refine dc (fun σ' H''=>H''=HA∧∃ nm:Str,nm.cps.toList=g i∧∃ x10,σ'=[some (.ref a),some (.int m),some (.str (Str.ofString "abcdefghijklmnopqrstuvwxyz")),some (.str wd),some (.int (z:Nat)),some (.int (at_:Nat)),some (.int (f:Nat)),some (.ref rl),some (.int (i:Nat)),some (.str nm),x10]) (fun D' hD _ _ _=>?_) ?_
   ·refine Mb b (fun Q hQ=>?_) (fun hbt=>?_) (fun hbf=>?_)
    ·(walk_at "RD"; repeat (simp only [qc];walk_at "RD"))
     rw [hb]
     exact ⟨S7,by omega,by omega,by decide,hQ⟩
    ·have hgi:g i=nmB wd.cps.toList at_ z f i:=by rw [hg];exact if_pos hbt
     obtain ⟨c,hc,rfl⟩:=aB (i:=((f:Int) + 7 * (i:Int)) % 26) (Int.emod_nonneg _ (by decide)) (Int.emod_lt_of_pos _ (by decide))
     have hbig:∀ k:Nat,k ≤ 1000→k ≤ sizeLine:=fun k h=>Nat.le_trans h (by decide)
     have l1:=Txt.slice_le wd none (some (at_:Int))
     have l2:=Txt.slice_le wd (some ((at_:Int) + 1)) (some (z:Int))
     have l3:(Kq (97 + (((f:Int) + 7 * (i:Int)) % 26).toNat)).length=1:=rfl
     (walk_at "RD")
     refine ⟨.inl ⟨by decide,by decide⟩,by decide,by rw [hL];decide,_,hc,by rw [hwn];decide,hbig _ (by show _ + (Kq (97 + (((f:Int) + 7 * (i:Int)) % 26).toNat)).length ≤ 1000;omega),by rw [hwn];decide,hbig _ (by show (_ ++ Kq (97 + (((f:Int) + 7 * (i:Int)) % 26).toNat)).length + _ ≤ 1000;rw [kr];omega),?_⟩
     refine hD _ _ ⟨rfl,_,?_,_,rfl⟩
     rw [hgi]
     unfold nmB
     rw [Str.cps_append,Array.toList_append,Str.cps_append,Array.toList_append,Ss wd (by omega),show ((at_:Int) + 1)=((at_ + 1:Nat):Int) by omega,Zp wd (by omega) (by omega),show (((f:Int) + 7 * (i:Int)) % 26).toNat=(f + 7 * i) % 26 by omega]
    ·have hgi:g i=nmA wd.cps.toList i:=by rw [hg];exact if_neg (by rw [hbf];decide)
     (walk_at "RD")
     exact hD _ _ ⟨rfl,_,by rw [hgi,Ss wd (by omega)];rfl,_,rfl⟩
   rintro σB HB ⟨rfl,nm,hnm,x10,rfl⟩
   (walk_at "RD")
   refine ⟨.inl ⟨_,SqL.of w7⟩,_,w7,Nat.lt_of_le_of_lt (show (nc xs).length ≤ 8 by unfold nc;rw [List.length_map];omega) (by decide),S7.set w7 (fun _ _ z=>by cases z),s7.updN hrl,⟨xs ++ [nm],?_,?_⟩,?_⟩
   ·rw [fb]
    unfold nc
    rw [List.map_append];rfl
   ·rw [List.map_append,hxs,List.range_succ,List.map_append,List.map_cons,List.map_nil,hnm];rfl
   ·repeat (first | exact ⟨_,rfl⟩ | refine ⟨⟨_,rfl⟩,?_⟩)
  ·rintro σ H' ⟨S7,s7,⟨xs,w7,hxs⟩,x8,x9,x10,rfl⟩
   exact hD _ _ ⟨S7,s7,⟨xs,w7,by rw [hxs,show (m:Int).toNat=m by omega]⟩,x8,x9,x10,rfl⟩
 rintro σ7 H7 ⟨S7,s7,⟨xs,w7,hxs⟩,x8,x9,x10,rfl⟩
 have hxl:xs.length=m:=by have:=congrArg List.length hxs;rwa [List.length_map,List.length_map,List.length_range] at this
 have gok:∀ k,k < m→(1 ≤ (g k).length∧(g k).length ≤ 8)∧∀ c ∈ g k,97 ≤ c∧c ≤ 122:=fun k hk=>by
  rw [hg]
  dsimp only
  split
  ·have:=xF hwl hwa (f:=f) (k:=k) hat1 hz1.2
   exact ⟨by omega,this.2⟩
  ·have:=Sx hwl hwa (k:=k) (by omega)
   exact ⟨by omega,this.2⟩
 have ginj:∀ i j,i < m→j < m→g i=g j→i=j:=fun i j hi hj e=>by
  rw [hg] at e
  try dsimp only at e
  split at e
  ·exact eC hwl hat1 hz1.2 (by omega) (by omega) e
  ·have h1:=Sx hwl hwa (k:=i) (by omega)
   have h2:=Sx hwl hwa (k:=j) (by omega)
   rw [e] at h1
   omega
 have hat':∀ (i:Nat) (x:Str),xs[i]? = some x→i < m∧x.cps.toList=g i:=fun i x hx=>by
  have hi:i < m:=by rw [← hxl];exact (List.getElem?_eq_some_iff.mp hx).1
  have e:=congrArg (fun l=>l[i]?) hxs
  try dsimp only at e
  rw [List.getElem?_map,hx,List.getElem?_map,List.getElem?_range hi] at e
  exact ⟨hi,Option.some.inj e⟩
 have N:Nms m xs:=by
  refine ⟨hxl,List.pairwise_iff_getElem.mpr fun i j hi hj hij e=>?_,fun x hx=>?_⟩
  ·obtain ⟨a1,a2⟩:=hat' i _ (List.getElem?_eq_getElem hi)
   obtain ⟨b1,b2⟩:=hat' j _ (List.getElem?_eq_getElem hj)
   rw [e,b2] at a2
   have:=ginj i j a1 b1 a2.symm
   omega
  ·obtain ⟨i,hi⟩:=List.getElem?_of_mem hx
   obtain ⟨a1,a2⟩:=hat' i _ hi
   have:=gok i a1
   exact QB a2 this.1.1 this.1.2 this.2
 simp only [Kb]
 refine dc (fun σ' H'=>Sc K a ns H'∧Xb H5 H'∧(∃ xs:List Str,H' rl=some (.lst (nc xs))∧Nms m xs)∧∃ x8 x9 x10,σ'=[some (.ref a),some (.int m),some (.str (Str.ofString "abcdefghijklmnopqrstuvwxyz")),some (.str wd),some (.int (z:Nat)),some (.int (at_:Nat)),some (.int (f:Nat)),some (.ref rl),x8,x9,x10]) (fun D' hD _ _ _=>?_) ?_
 ·refine Mb (decide (fe ns 111 2=1)) (fun Q hQ=>?_) (fun _=>?_) (fun _=>?_)
  ·(walk_at "RD"; repeat (simp only [qc];walk_at "RD"))
   exact ⟨S7,by omega,by omega,by decide,hQ⟩
  ·(walk_at "RD")
   refine ⟨.inl ⟨_,SqL.of w7⟩,_,w7,hD _ _ ⟨S7.set w7 (fun _ _ z=>by cases z),s7.updN hrl,⟨xs.reverse,by rw [fb];unfold nc;rw [List.map_reverse],by rw [List.length_reverse];exact N.1,List.pairwise_reverse.mpr (N.2.1.imp fun h=>Ne.symm h),fun x hx=>N.2.2 x (List.mem_reverse.mp hx)⟩,_,_,_,rfl⟩⟩
  ·(walk_at "RD")
   exact hD _ _ ⟨S7,s7,⟨xs,w7,N⟩,_,_,_,rfl⟩
 rintro σ8 H8 ⟨S8,s8,⟨ys,w8,N8⟩,y8,y9,y10,rfl⟩
 (walk_at "RD")
 exact q rl ys H8 (s2.trans s8) S8 (s2.free hrl) w8 N8
end
end My
namespace My
open PySem L2
noncomputable abbrev dl (d:WD):List V:=[.str (ad d.k),.str d.name,.int d.start,.int d.fin,.int d.off,.int d.near,.int d.least]
noncomputable def LW (H:Hp) (wl:Addr) (ds:List WD):Prop:=∃ qs:List Addr,H wl=some (.lst (qs.map V.ref))∧qs.length=ds.length∧∀ (i:Nat) (q:Addr) (d:WD),qs[i]? = some q→ds[i]? = some d→H q=some (.tup (dl d))
theorem LW.same {H H':Hp} {wl:Addr} {ds:List WD} (h:LW H wl ds) (s:Xb H H'):LW H' wl ds:=by
 obtain ⟨qs,e1,e2,al⟩:=h
 exact ⟨qs,s _ _ e1,e2,fun i q d h1 h2=>s _ _ (al i q d h1 h2)⟩
theorem LW.snoc {H:Hp} {wl p:Addr} {ds:List WD} {d:WD} {qs:List Addr} (l1:H wl=some (.lst (qs.map V.ref))) (l2:qs.length=ds.length)
  (al:∀ (i:Nat) (q:Addr) (d:WD),qs[i]? = some q→ds[i]? = some d→H q=some (.tup (dl d))) (hp:H p=none) :
  LW (upd (upd H p (.tup (dl d))) wl (.lst (qs.map V.ref ++ [.ref p]))) wl (ds ++ [d]):=by
 have hpw:p ≠ wl:=(zb l1 hp).symm
 refine ⟨qs ++ [p],by rw [fb,List.map_append];rfl,by rw [List.length_append,List.length_append,l2];rfl,fun i q e h1 h2=>?_⟩
 rcases Cg h1 with ⟨z1,z2⟩ | ⟨z1,rfl⟩
 ·rcases Cg h2 with ⟨y1,y2⟩ | ⟨y1,_⟩
  ·have:=al i q e z2 y2
   rw [qb (dg this l1 (by intro z;cases z)),qb (zb this hp)]
   exact this
  ·omega
 ·rcases Cg h2 with ⟨y1,y2⟩ | ⟨y1,rfl⟩
  ·omega
  ·rw [qb hpw,fb]
theorem eG {n s j:Int} (h0:0 ≤ s) (h1:s < n) (h2:0 ≤ j) (h3:j < n - 1):s ≠ (s + 1 + j) % n:=by
 by_cases c:s + 1 + j < n
 ·rw [Int.emod_eq_of_lt (by omega) c];omega
 ·rw [show s + 1 + j=(s + 1 + j - n) + n * 1 by omega,Int.add_mul_emod_self_left,Int.emod_eq_of_lt (by omega) (by omega)];omega
theorem AC {i:Int} (h0:0 ≤ i) (h1:i < 3):atI [V.str (Str.ofString "car"),V.str (Str.ofString "foot"),V.str (Str.ofString "tram")] i=some (.str (ad i.toNat)):=by
 have:i=0∨i=1∨i=2:=by omega
 rcases this with rfl | rfl | rfl
 ·exact yb (j:=0) rfl
 ·exact yb (j:=1) rfl
 ·exact yb (j:=2) rfl
structure VD (n:Int) (ds:List WD):Prop where
 al:∀ d ∈ ds,WOk n d∧True
 nd:(ds.map (·.name)).Nodup
theorem VD.cok {n:Int} {ds:List WD} (h:VD n ds) (hn:2 ≤ n∧n ≤ 99) (hl:1 ≤ ds.length∧ds.length ≤ 12):COk n ds:=⟨hn,hl,fun d hd=>(h.al d hd).1,h.nd⟩
noncomputable def Es (K:PySem.W.Frag) (a:Addr) (ns:List Int):Sp:=fun vs H Q _=>∃ (m:Nat) (n:Int),vs=[.ref a,.int m,.int n]∧Sc K a ns H∧(1 ≤ m∧m ≤ 8)∧(4 ≤ n∧n ≤ 99)∧∀ p ds H',Xb H H'→Sc K a ns H'→H p=none→LW H' p ds→ds.length=m→VD n ds→Q (.ref p) H'
section
variable {P:Program} {w:World} {K:PySem.W.Frag} {mg:Str→Option Value} {base:Heap} {t:Adr}
theorem iz (T:Txt w K mg t) (a:Addr) (ns:List Int) (h63:ns.length ≤ 63):Lb P w K mg base CX0 3 t.Bg t.Fg ["_law_script","_law_many","_law_places_here"] (Es K a ns):=by
 have G__law_draw:Lb P w K mg base CX0 2 t.gd t.jd ["_law_script","_law_k","_law_many"] (qc K a ns):=(Pj T a ns h63).mono (by decide)
 have G__law_names:Lb P w K mg base CX0 2 t.Cf t.Kf ["_law_script","_law_many"] (uq K a ns):=Uv T a ns h63
 refine T.Fi.ok Pb (fun vs H Q E h=>?_) (fun cdv A outer s H vs Q E hr h=>?_)
 ·obtain ⟨m,n,rfl,_⟩:=h;rfl
 obtain ⟨m,n,rfl,S,hm,hn,q⟩:=h
 refine ⟨_,(cb (Bb (i:=3) Pb.nd rfl (Or.inl rfl) (vb G__law_names hr rfl T.iq T.Zg.kp T.yq .nil Cb (ab (pv 0) (ab (pv 1) gb))))
   (cb (Bb (i:=4) Pb.nd rfl (Or.inl rfl) (vb G__law_draw hr rfl T.rb T.pb.kp T.ub .nil Cb (ab (pv 0) (ab db (ab (pv 2) gb)))))
   (cb (Bb (i:=5) Pb.nd rfl (Or.inl rfl) (Df gb))
   (cb (sf PassesOwn.never rfl (ye rfl T.vg (ab (pv 1) gb)) (Ib (i:=6) Pb.nd rfl (Or.inl rfl)) (cb (Bb (i:=7) Pb.nd rfl (Or.inl rfl) (vb G__law_draw hr rfl T.rb T.pb.kp T.ub .nil Cb (ab (pv 0) (ab (Db Rb db (Db pf db (pv 6))) (ab (pv 2) gb)))))
   (cb (Bb (i:=8) Pb.nd rfl (Or.inl rfl) (Db ve (Db Rb (Db Rb (pv 7) db) (vb G__law_draw hr rfl T.rb T.pb.kp T.ub .nil Cb (ab (pv 0) (ab (Db Rb db (Db pf db (pv 6))) (ab (Db uf (pv 2) db) gb))))) (pv 2)))
   (cb (Dd (PW.pt (Ux (Jb Tf (vb G__law_draw hr rfl T.rb T.pb.kp T.ub .nil Cb (ab (pv 0) (ab db (ab db gb)))) db (Ob _)) (Qq (Jb Lp (pv 7) (pv 4) (Ob _))))) (ib (Bb (i:=8) Pb.nd rfl (Or.inl rfl) (pv 4))) Nb)
   (cb (Bb (i:=9) Pb.nd rfl (Or.inl rfl) (vb G__law_draw hr rfl T.rb T.pb.kp T.ub .nil Cb (ab (pv 0) (ab (Db Rb db (Db pf db (pv 6))) (ab db gb)))))
   (cb (Bb (i:=10) Pb.nd rfl (Or.inl rfl) (vb G__law_draw hr rfl T.rb T.pb.kp T.ub .nil Cb (ab (pv 0) (ab (Db Rb db (Db pf db (pv 6))) (ab db gb)))))
   (cb (Dd (Jb Tf (vb G__law_draw hr rfl T.rb T.pb.kp T.ub .nil Cb (ab (pv 0) (ab (Db Rb db (pv 6)) (ab db gb)))) db (Ob _)) (ib (Bb (i:=9) Pb.nd rfl (Or.inl rfl) (vb G__law_draw hr rfl T.rb T.pb.kp T.ub .nil Cb (ab (pv 0) (ab (Db Rb db (Db pf db (pv 6))) (ab db gb)))))) Nb)
   (cb (Dd (Jb Tf (vb G__law_draw hr rfl T.rb T.pb.kp T.ub .nil Cb (ab (pv 0) (ab (Db Rb db (Db pf db (pv 6))) (ab db gb)))) db (Ob _)) (ib (Bb (i:=10) Pb.nd rfl (Or.inl rfl) (vb G__law_draw hr rfl T.rb T.pb.kp T.ub .nil Cb (ab (pv 0) (ab (Db Rb db (Db pf db (pv 6))) (ab db gb)))))) Nb)
   (cb (Bb (i:=11) Pb.nd rfl (Or.inl rfl) (Qb Dc (Df (ab pd (ab pd (ab pd gb)))) (vb G__law_draw hr rfl T.rb T.pb.kp T.ub .nil Cb (ab (pv 0) (ab (Db Rb db (Db pf db (pv 6))) (ab db gb)))) (fun _ _=>rfl)))
   (cb (Bb (i:=12) Pb.nd rfl (Or.inl rfl) (Db Rb db (vb G__law_draw hr rfl T.rb T.pb.kp T.ub .nil Cb (ab (pv 0) (ab (Db Rb db (Db pf db (pv 6))) (ab db gb))))))
   (ib (Hd (Ol PySem.F.plainAttrs_list PySem.F.slot_list_append PySem.F.type_list_append jg (pv 5) (ab (Wl (ab (pv 11) (ab (Qb Dc (pv 3) (pv 6) (fun _ _=>rfl)) (ab (pv 7) (ab (pv 8) (ab (pv 9) (ab (pv 10) (ab (pv 12) gb)))))))) gb))))))))))))))
   (ib (Eb (pv 5))))))),?_⟩
 simp only [Kb]
 refine dc (fun σ' H'=>Xb H H'∧Sc K a ns H'∧∃ nl xs,H' nl=some (.lst (nc xs))∧Nms m xs∧σ'=[some (.ref a),some (.int m),some (.int n),some (.ref nl),none,none,none,none,none,none,none,none,none]) (fun D' hD _ _ _=>?_) ?_
 ·(walk_at "RD")
  exact ⟨m,rfl,S,hm,fun p xs H' s1 S1 _ e N=>hD _ _ ⟨s1,S1,p,xs,e,N,rfl⟩⟩
 rintro σ1 H1 ⟨s1,S1,nl,xs,en,N,rfl⟩
 simp only [Kb]
 refine dc (fun σ' H'=>H'=H1∧∃ oe:Int,(0 ≤ oe∧oe < n)∧σ'=[some (.ref a),some (.int m),some (.int n),some (.ref nl),some (.int oe),none,none,none,none,none,none,none,none]) (fun D' hD _ _ _=>?_) ?_
 ·have d1:=Fc ns 115 (m:=n) (by omega)
  have d2:=Cc ns 115 (m:=n) (by omega)
  (walk_at "RD"; repeat (simp only [qc];walk_at "RD"))
  exact ⟨S1,by omega,by omega,by omega,hD _ _ ⟨rfl,_,⟨d1,d2⟩,rfl⟩⟩
 rintro σ2 H2 ⟨rfl,oe,hoe,rfl⟩
 simp only [Kb]
 refine dc (fun σ' H'=>Sc K a ns H'∧Xb H2 H'∧∃ wl,H2 wl=none∧H' wl=some (.lst [])∧σ'=[some (.ref a),some (.int m),some (.int n),some (.ref nl),some (.int oe),some (.ref wl),none,none,none,none,none,none,none]) (fun D' hD _ _ _=>?_) ?_
 ·(walk_at "RD")
  exact ⟨Nat.zero_le _,fun wl hwl=>hD _ _ ⟨S1.new hwl,jb hwl,wl,hwl,fb,rfl⟩⟩
 rintro σ3 H3 ⟨S3,s3,wl,hwl,w3,rfl⟩
 (walk_at "RD")
 refine ⟨by omega,by omega,?_⟩
 refine Ni.range (fun i σ H'=>Sc K a ns H'∧Xb H2 H'∧(∃ ds,LW H' wl ds∧ds.length=i∧(∀ d ∈ ds,WOk n d)∧∀ (j:Nat) (d:WD),ds[j]? = some d→xs[j]? = some d.name)∧∃ x6 x7 x8 x9 x10 x11 x12,σ=[some (.ref a),some (.int m),some (.int n),some (.ref nl),some (.int oe),some (.ref wl),x6,x7,x8,x9,x10,x11,x12]) ⟨S3,s3,⟨[],⟨[],w3,rfl,fun i q d h=>by simp at h⟩,rfl,fun d h=>by simp at h,fun j d h=>by simp at h⟩,_,_,_,_,_,_,_,rfl⟩ ?_ ?_
 ·rintro i σ H' hi ⟨S4,s4,⟨ds,L4,hdl,hok,hnm⟩,x6,x7,x8,x9,x10,x11,x12,rfl⟩
  have him:i < m:=by have:i < (m:Int).toNat:=hi;omega
  have hxi:xs[i]? = some (xs[i]'(by rw [N.1];exact him)):=List.getElem?_eq_getElem _
  generalize xs[i]'(by rw [N.1];exact him)=nm at hxi
  have en4:=s4 _ _ en
  have hnat:atI (nc xs) ((i:Nat):Int)=some (.str nm):=yb (by unfold nc;rw [List.getElem?_map,hxi];rfl)
  simp only [Rh,Kb,List.set_cons_succ,List.set_cons_zero,Int.zero_add]
  refine dc (fun σ' H''=>H''=H'∧∃ st:Int,(0 ≤ st∧st < n)∧σ'=[some (.ref a),some (.int m),some (.int n),some (.ref nl),some (.int oe),some (.ref wl),some (.int (i:Nat)),some (.int st),x8,x9,x10,x11,x12]) (fun D' hD _ _ _=>?_) ?_
  ·have d1:=Fc ns (120 + 7 * (i:Int)) (m:=n) (by omega)
   have d2:=Cc ns (120 + 7 * (i:Int)) (m:=n) (by omega)
   (walk_at "RD"; repeat (simp only [qc];walk_at "RD"))
   exact ⟨.inl ⟨by decide,by decide⟩,S4,by omega,by omega,by omega,hD _ _ ⟨rfl,_,⟨d1,d2⟩,rfl⟩⟩
  rintro σA HA ⟨rfl,st,hst,rfl⟩
  simp only [Kb]
  refine dc (fun σ' H''=>H''=HA∧∃ fi:Int,(0 ≤ fi∧fi < n)∧st ≠ fi∧σ'=[some (.ref a),some (.int m),some (.int n),some (.ref nl),some (.int oe),some (.ref wl),some (.int (i:Nat)),some (.int st),some (.int fi),x9,x10,x11,x12]) (fun D' hD _ _ _=>?_) ?_
  ·have d1:=Fc ns (121 + 7 * (i:Int)) (m:=n - 1) (by omega)
   have d2:=Cc ns (121 + 7 * (i:Int)) (m:=n - 1) (by omega)
   have m0:=Int.emod_nonneg (st + 1 + fe ns (121 + 7 * (i:Int)) (n - 1)) (show n ≠ 0 by omega)
   have m1:=Int.emod_lt_of_pos (st + 1 + fe ns (121 + 7 * (i:Int)) (n - 1)) (show 0 < n by omega)
   (walk_at "RD"; repeat (simp only [qc];walk_at "RD"))
   exact ⟨.inl ⟨by decide,by decide⟩,S4,by omega,by omega,by omega,by omega,hD _ _ ⟨rfl,_,⟨m0,m1⟩,eG hst.1 hst.2 d1 (by omega),rfl⟩⟩
  rintro σB HB ⟨rfl,fi,hfi,hne,rfl⟩
  simp only [Kb]
  refine dc (fun σ' H''=>H''=HB∧∃ fi:Int,(0 ≤ fi∧fi < n)∧st ≠ fi∧σ'=[some (.ref a),some (.int m),some (.int n),some (.ref nl),some (.int oe),some (.ref wl),some (.int (i:Nat)),some (.int st),some (.int fi),x9,x10,x11,x12]) (fun D' hD _ _ _=>?_) ?_
  ·refine Mb (decide (fe ns 116 3=0) && decide (st ≠ oe)) (fun Q hQ=>?_) (fun hb=>?_) (fun hb=>?_)
   ·(walk_at "RD"; repeat (simp only [qc];walk_at "RD"))
    refine ⟨S4,by omega,by omega,by decide,?_⟩
    by_cases c0:fe ns 116 3=0
    ·rw [if_pos (decide_eq_true c0)]
     rw [decide_eq_true c0,Bool.true_and,show decide (st ≠ oe) = !decide (st=oe) from decide_not] at hQ
     exact hQ
    ·rw [if_neg (by simpa using c0)]
     rw [decide_eq_false c0,Bool.false_and] at hQ
     exact hQ
   ·rw [Bool.and_eq_true] at hb
    (walk_at "RD")
    exact hD _ _ ⟨rfl,oe,hoe,of_decide_eq_true hb.2,rfl⟩
   ·(walk_at "RD")
    exact hD _ _ ⟨rfl,fi,hfi,hne,rfl⟩
  rintro σC HC ⟨rfl,fi2,hfi2,hne2,rfl⟩
  simp only [Kb]
  refine dc (fun σ' H''=>H''=HC∧∃ of_:Int,(0 ≤ of_∧of_ ≤ 30)∧σ'=[some (.ref a),some (.int m),some (.int n),some (.ref nl),some (.int oe),some (.ref wl),some (.int (i:Nat)),some (.int st),some (.int fi2),some (.int of_),x10,x11,x12]) (fun D' hD _ _ _=>?_) ?_
  ·have d1:=Fc ns (123 + 7 * (i:Int)) (m:=9) (by decide)
   have d2:=Cc ns (123 + 7 * (i:Int)) (m:=9) (by decide)
   (walk_at "RD"; repeat (simp only [qc];walk_at "RD"))
   exact ⟨.inl ⟨by decide,by decide⟩,S4,by omega,by omega,by decide,hD _ _ ⟨rfl,_,by omega,rfl⟩⟩
  rintro σD HD ⟨rfl,of1,hof1,rfl⟩
  simp only [Kb]
  refine dc (fun σ' H''=>H''=HD∧∃ ne_:Int,(0 ≤ ne_∧ne_ ≤ 30)∧σ'=[some (.ref a),some (.int m),some (.int n),some (.ref nl),some (.int oe),some (.ref wl),some (.int (i:Nat)),some (.int st),some (.int fi2),some (.int of1),some (.int ne_),x11,x12]) (fun D' hD _ _ _=>?_) ?_
  ·have d1:=Fc ns (125 + 7 * (i:Int)) (m:=6) (by decide)
   have d2:=Cc ns (125 + 7 * (i:Int)) (m:=6) (by decide)
   (walk_at "RD"; repeat (simp only [qc];walk_at "RD"))
   exact ⟨.inl ⟨by decide,by decide⟩,S4,by omega,by omega,by decide,hD _ _ ⟨rfl,_,by omega,rfl⟩⟩
  rintro σE HE ⟨rfl,ne1,hne1,rfl⟩
  simp only [Kb]
  refine dc (fun σ' H''=>H''=HE∧∃ of_:Int,(0 ≤ of_∧of_ ≤ 30)∧σ'=[some (.ref a),some (.int m),some (.int n),some (.ref nl),some (.int oe),some (.ref wl),some (.int (i:Nat)),some (.int st),some (.int fi2),some (.int of_),some (.int ne1),x11,x12]) (fun D' hD _ _ _=>?_) ?_
  ·refine Mb (decide (fe ns (117 + (i:Int)) 6=0)) (fun Q hQ=>?_) (fun _=>?_) (fun _=>?_)
   ·(walk_at "RD"; repeat (simp only [qc];walk_at "RD"))
    exact ⟨S4,by omega,by omega,by decide,hQ⟩
   ·have d1:=Fc ns (123 + 7 * (i:Int)) (m:=31) (by decide)
    have d2:=Cc ns (123 + 7 * (i:Int)) (m:=31) (by decide)
    (walk_at "RD"; repeat (simp only [qc];walk_at "RD"))
    exact ⟨.inl ⟨by decide,by decide⟩,S4,by omega,by omega,by decide,hD _ _ ⟨rfl,_,by omega,rfl⟩⟩
   ·(walk_at "RD")
    exact hD _ _ ⟨rfl,of1,hof1,rfl⟩
  rintro σF HF ⟨rfl,of2,hof2,rfl⟩
  simp only [Kb]
  refine dc (fun σ' H''=>H''=HF∧∃ ne_:Int,(0 ≤ ne_∧ne_ ≤ 30)∧σ'=[some (.ref a),some (.int m),some (.int n),some (.ref nl),some (.int oe),some (.ref wl),some (.int (i:Nat)),some (.int st),some (.int fi2),some (.int of2),some (.int ne_),x11,x12]) (fun D' hD _ _ _=>?_) ?_
  ·refine Mb (decide (fe ns (124 + 7 * (i:Int)) 8=0)) (fun Q hQ=>?_) (fun _=>?_) (fun _=>?_)
   ·(walk_at "RD"; repeat (simp only [qc];walk_at "RD"))
    exact ⟨.inl ⟨by decide,by decide⟩,S4,by omega,by omega,by decide,hQ⟩
   ·have d1:=Fc ns (125 + 7 * (i:Int)) (m:=31) (by decide)
    have d2:=Cc ns (125 + 7 * (i:Int)) (m:=31) (by decide)
    (walk_at "RD"; repeat (simp only [qc];walk_at "RD"))
    exact ⟨.inl ⟨by decide,by decide⟩,S4,by omega,by omega,by decide,hD _ _ ⟨rfl,_,by omega,rfl⟩⟩
   ·(walk_at "RD")
    exact hD _ _ ⟨rfl,ne1,hne1,rfl⟩
  rintro σG HG ⟨rfl,ne2,hne2',rfl⟩
  simp only [Kb]
  refine dc (fun σ' H''=>Xb HG H''∧Sc K a ns H''∧∃ k:Nat,k < 3∧σ'=[some (.ref a),some (.int m),some (.int n),some (.ref nl),some (.int oe),some (.ref wl),some (.int (i:Nat)),some (.int st),some (.int fi2),some (.int of2),some (.int ne2),some (.str (ad k)),x12]) (fun D' hD _ _ _=>?_) ?_
  ·have d1:=Fc ns (122 + 7 * (i:Int)) (m:=3) (by decide)
   have d2:=Cc ns (122 + 7 * (i:Int)) (m:=3) (by decide)
   (walk_at "RD"; repeat (simp only [qc];walk_at "RD"))
   exact ⟨by decide,fun p hp=>⟨.inl ⟨by decide,by decide⟩,S4.new hp,by omega,by omega,by decide,_,SqL.of fb,_,AC d1 d2,hD _ _ ⟨jb hp,S4.new hp,_,by omega,rfl⟩⟩⟩
  rintro σH HH ⟨sH,SH,k,hk,rfl⟩
  have enH:=sH _ _ en4
  have LH:=L4.same sH
  simp only [Kb]
  refine dc (fun σ' H''=>H''=HH∧∃ le_:Int,(1 ≤ le_∧le_ ≤ 4)∧σ'=[some (.ref a),some (.int m),some (.int n),some (.ref nl),some (.int oe),some (.ref wl),some (.int (i:Nat)),some (.int st),some (.int fi2),some (.int of2),some (.int ne2),some (.str (ad k)),some (.int le_)]) (fun D' hD _ _ _=>?_) ?_
  ·have d1:=Fc ns (126 + 7 * (i:Int)) (m:=4) (by decide)
   have d2:=Cc ns (126 + 7 * (i:Int)) (m:=4) (by decide)
   (walk_at "RD"; repeat (simp only [qc];walk_at "RD"))
   exact ⟨.inl ⟨by decide,by decide⟩,SH,by omega,by omega,by decide,hD _ _ ⟨rfl,_,by omega,rfl⟩⟩
  rintro σI HI ⟨rfl,le_,hle,rfl⟩
  obtain ⟨qs,l1,l2,al⟩:=LH
  (walk_at "RD")
  refine ⟨.inl ⟨_,SqL.of l1⟩,_,SqL.of enH,_,hnat,by decide,fun p hp=>?_⟩
  have hwp:wl ≠ p:=zb l1 hp
  have L':=LW.snoc (d:=⟨k,nm,st,fi2,of2,ne2,le_⟩) l1 l2 al hp
  refine ⟨_,by rw [qb hwp];exact l1,Nat.lt_of_le_of_lt (show (qs.map V.ref).length ≤ 8 by rw [List.length_map];omega) (by decide),(SH.new hp).set (by rw [qb hwp];exact l1) (fun _ _ z=>by cases z),((s4.trans sH).trans (jb hp)).updN hwl,⟨ds ++ [⟨k,nm,st,fi2,of2,ne2,le_⟩],L',by rw [List.length_append,hdl];rfl,fun d hd=>?_,fun j d hd=>?_⟩,?_⟩
  ·rcases List.mem_append.mp hd with hd | hd
   ·exact hok d hd
   ·rw [List.mem_singleton.mp hd]
    exact ⟨hk,N.2.2 nm (List.mem_of_getElem? hxi),⟨hst.1,hst.2⟩,⟨hfi2.1,hfi2.2⟩,hne2,hof2,hne2',⟨hle.1,by dsimp only;omega⟩⟩
  ·rcases Cg hd with ⟨_,z⟩ | ⟨z,rfl⟩
   ·exact hnm j d z
   ·rw [z,hdl];exact hxi
  ·repeat (first | exact ⟨_,rfl⟩ | refine ⟨⟨_,rfl⟩,?_⟩)
 ·rintro σ H' ⟨S4,s4,⟨ds,L4,hdl,hok,hnm⟩,x6,x7,x8,x9,x10,x11,x12,rfl⟩
  rw [show (m:Int).toNat=m by omega] at hdl
  (walk_at "RD")
  refine q wl ds H' (s1.trans s4) S4 (s1.free hwl) L4 hdl ⟨fun d hd=>⟨hok d hd,trivial⟩,?_⟩
  have e:ds.map (·.name)=xs:=by
   refine List.ext_getElem? fun j=>?_
   rw [List.getElem?_map]
   cases h:ds[j]? with
   | some d=>exact (hnm j d h).symm
   | none=>
    have:ds.length ≤ j:=List.getElem?_eq_none_iff.mp h
    exact (List.getElem?_eq_none_iff.mpr (by rw [N.1];omega)).symm
  rw [e]
  exact N.2.1
end
end My
namespace My
open PySem L2
theorem yx {z ti tj g bi bj:Int} (hz:0 < z) (hi:1 ≤ ti) (hj:1 ≤ tj) (hg:0 ≤ g) :
  (∀ u v:Int,0 ≤ u→u < tj→0 ≤ v→v ≤ g→ti ≤ (bj + u - v - bi) % z)↔ti + g ≤ (bj - bi) % z∧(bj - bi) % z + tj ≤ z:=by
 have sh:∀ u v:Int,(bj + u - v - bi) % z=((bj - bi) % z + (u - v)) % z:=fun u v=>by
  rw [Int.emod_add_emod]
  congr 1
  omega
 have x0:=Int.emod_nonneg (bj - bi) (show z ≠ 0 by omega)
 have x1:=Int.emod_lt_of_pos (bj - bi) hz
 generalize hx:(bj - bi) % z=x at x0 x1 sh
 constructor
 ·intro h
  have a0:ti ≤ x:=by
   have:=h 0 0 (by omega) (by omega) (by omega) hg
   rw [sh,show x + (0 - 0)=x by omega,Int.emod_eq_of_lt x0 x1] at this
   exact this
  constructor
  ·by_cases c:ti + g ≤ x
   ·exact c
   ·exfalso
    have:=h 0 (x - ti + 1) (by omega) (by omega) (by omega) (by omega)
    rw [sh,show x + (0 - (x - ti + 1))=ti - 1 by omega,Int.emod_eq_of_lt (by omega) (by omega)] at this
    omega
  ·by_cases c:x + tj ≤ z
   ·exact c
   ·exfalso
    have:=h (z - x) 0 (by omega) (by omega) (by omega) hg
    rw [sh,show x + (z - x - 0)=z by omega,Int.emod_self] at this
    omega
 ·rintro ⟨h1,h2⟩ u v u0 u1 v0 v1
  rw [sh,Int.emod_eq_of_lt (by omega) (by omega)]
  omega
theorem Iv {z a b:Int} (hz:0 < z) (h:0 < (b - a) % z):(a - b) % z=z - (b - a) % z:=by
 have x1:=Int.emod_lt_of_pos (b - a) hz
 have e:=Int.mul_ediv_add_emod (b - a) z
 have e2:a - b=(z - (b - a) % z) + z * (-((b - a) / z) - 1):=by
  rw [Int.mul_sub,Int.mul_neg]
  omega
 rw [e2,Int.add_mul_emod_self_left,Int.emod_eq_of_lt (by omega) (by omega)]
theorem RB {z ti tj g g' bi bj:Int} (hz:0 < z) (hi:1 ≤ ti) (hg:0 ≤ g) (hg':0 ≤ g') (h1:ti + g ≤ (bj - bi) % z) (h2:tj + g' ≤ (bi - bj) % z):(bj - bi) % z + tj ≤ z:=by
 rw [Iv hz (by omega)] at h2
 omega
noncomputable def ow (K:PySem.W.Frag):Sp:=fun vs H Q _=>∃ n a b d e,vs=[.ref a,.ref b,.int n]∧SqT K H a (dl d)∧SqT K H b (dl e)∧WOk n d∧WOk n e∧NoT H∧Q (.bl (mt n d e)) H
noncomputable def cz (K:PySem.W.Frag):Sp:=fun vs H Q _=>∃ n a b d e,vs=[.ref a,.ref b,.int n]∧SqT K H a (dl d)∧SqT K H b (dl e)∧WOk n d∧WOk n e∧∀ H',Xb H H'→Q (.bl (mt n d e)) H'
section
variable {P:Program} {w:World} {K:PySem.W.Frag} {mg:Str→Option Value} {base:Heap} {t:Adr}
theorem MB (T:Txt w K mg t):Lb P w K mg base CX0 1 t.Qe t.Je ["_law_one","_law_other","_law_places_here"] (ow K):=by
 refine Lb.forget (sp:=cz K) ?_ fun vs H Q E h=>?_
 ·refine T.Ng.ok Uf (fun vs H Q E h=>?_) (fun cdv A outer s H vs Q E hr h=>?_)
  ·obtain ⟨n,a,b,d,e,rfl,_⟩:=h;rfl
  obtain ⟨n,a,b,d,e,rfl,Ta,Tb,hd,he,q⟩:=h
  refine ⟨_,(cb (Dd (Jb Tf (Qb fc (pv 0) db (fun _ _=>rfl)) (Qb fc (pv 1) db (fun _ _=>rfl)) (Ob _)) (ib (Eb Xj)) Nb)
   (cb (Dd (PW.pt (Ct (Jb Gh (Qb fc (pv 0) db (fun _ _=>rfl)) (Ke Dx (pv 1) (Ce db) (Ce db)) (by with_unfolding_all rfl)) (Rp (Jb Gh (Qb fc (pv 0) db (fun _ _=>rfl)) (Ke Dx (pv 1) (Ce db) (Ce db)) (by with_unfolding_all rfl))))) (ib (Eb Xj)) Nb)
   (cb (Bb (i:=3) Uf.nd rfl (Or.inl rfl) (Db ve (Db uf (Qb fc (pv 0) db (fun _ _=>rfl)) (Qb fc (pv 0) db (fun _ _=>rfl))) (pv 2)))
   (cb (Bb (i:=4) Uf.nd rfl (Or.inl rfl) (Nd Lq (Db ve (Db uf (Qb fc (pv 1) db (fun _ _=>rfl)) (Qb fc (pv 0) db (fun _ _=>rfl))) (pv 2)) (pv 3) (Ob _)))
   (ib (Eb (Nd Lp (pv 4) (Nd Lq (Db ve (Db uf (Qb fc (pv 1) db (fun _ _=>rfl)) (Qb fc (pv 0) db (fun _ _=>rfl))) (pv 2)) (pv 3) (Ob _)) (Ob _)))))))),?_⟩
  have a2:atI (dl d) 2=some (.int d.start):=yb (j:=2) rfl
  have a3:atI (dl d) 3=some (.int d.fin):=yb (j:=3) rfl
  have b2:atI (dl e) 2=some (.int e.start):=yb (j:=2) rfl
  have b3:atI (dl e) 3=some (.int e.fin):=yb (j:=3) rfl
  have f1:=hd.st;have f2:=hd.fi;have f3:=he.st;have f4:=he.fi
  refine Mb (decide (d.fin=e.fin)) (fun Q hQ=>?_) (fun c=>?_) (fun c=>?_)
  ·(walk_at "RD")
   refine ⟨_,Ta,_,a3,_,Tb,_,b3,rfl,?_⟩
   (walk_at "RD")
   exact hQ
  ·(walk_at "RD")
   have:=q H (Xb.refl H)
   unfold mt Lr at this
   rw [c,Bool.true_or] at this
   exact this
  ·have c':=of_decide_eq_false c
   (walk_at "RD")
   refine lj (fun b H'=>Xb H H'∧b=decide ((d.start=e.start∨d.start=e.fin)∨(d.fin=e.start∨d.fin=e.fin))) (fun Q hQ=>?_) (fun H' ⟨sm,hb⟩=>?_) (fun H' ⟨sm,hb⟩=>?_)
   ·have hc:Pq (dl e) (some 2) (some 4)=[V.int e.start,V.int e.fin]:=rfl
    have hcut:¬ (HT.sIx (dl e).length 0 (some 2)=0∧HT.sIx (dl e).length (dl e).length (some 4)=(dl e).length):=by
     show ¬ (HT.sIx 7 0 (some 2)=0∧HT.sIx 7 7 (some 4)=7)
     decide
    (walk_at "RD")
    refine ⟨_,Ta,_,a2,_,Tb,hcut,fun p hp=>?_⟩
    rw [hc]
    refine ⟨_,.inr (SqT.of fb),rfl,rfl,?_⟩
    have s1:Xb H (upd H p (.tup [.int e.start,.int e.fin])):=jb hp
    rw [GG]
    by_cases c1:d.start=e.start∨d.start=e.fin
    ·rw [if_pos (decide_eq_true c1)]
     exact hQ _ _ ⟨s1,(decide_eq_true (.inl c1)).symm⟩
    ·rw [if_neg (by simpa using c1)]
     refine ⟨_,Ta.same s1,_,a3,_,Tb.same s1,hcut,fun p2 hp2=>?_⟩
     rw [hc]
     refine ⟨_,.inr (SqT.of fb),rfl,rfl,hQ _ _ ⟨s1.trans (jb hp2),?_⟩⟩
     rw [GG,Bool.eq_iff_iff,decide_eq_true_eq,decide_eq_true_eq]
     exact ⟨.inr,fun z=>z.resolve_left c1⟩
   ·(walk_at "RD")
    have:=q H' sm
    unfold mt Lr at this
    rw [c,Bool.false_or,if_pos (by have:=of_decide_eq_true hb.symm;omega)] at this
    exact this
   ·have hb':=of_decide_eq_false hb.symm
    have hn0:0 < n:=by omega
    have Ta':=Ta.same sm
    have Tb':=Tb.same sm
    (walk_at "RD")
    refine ⟨_,Ta',_,a3,_,Ta',_,a2,_,rfl,_,rfl,hn0,_,Tb',_,b2,_,Ta',_,a2,_,rfl,_,rfl,hn0,_,Tb',_,b3,_,Ta',_,a2,_,rfl,_,rfl,hn0,?_⟩
    have p1:0 < (e.start - d.start) % n:=by rw [zk f1.1 f1.2 f3.1 f3.2];split <;> omega
    have p2:0 < (e.fin - d.start) % n:=by rw [zk f1.1 f1.2 f4.1 f4.2];split <;> omega
    have hq:=q H' sm
    unfold mt Lr nj at hq
    rw [c,Bool.false_or,if_neg (by omega),decide_eq_true p1,decide_eq_true p2,Bool.true_and,Bool.true_and] at hq
    generalize decide ((e.start - d.start) % n < (d.fin - d.start) % n)=X at hq ⊢
    generalize decide ((e.fin - d.start) % n < (d.fin - d.start) % n)=Y at hq ⊢
    cases X <;> cases Y <;> exact hq
 ·obtain ⟨n,a,b,d,e,rfl,Ta,Tb,hd,he,nt,q⟩:=h
  exact ⟨nt,n,a,b,d,e,rfl,Ta,Tb,hd,he,fun H' sm=>⟨sm,q⟩⟩
end
noncomputable def Io (K:PySem.W.Frag):Sp:=fun vs H Q _=>∃ a d x,vs=[.ref a,.int x]∧SqT K H a (dl d)∧d.k < 3∧Q (.int (Nc (d,x))) H
theorem zC {k:Nat} (h:k < 3):decide (V.str (ad k)=V.str (Str.ofString "foot"))=decide (k=1):=by
 match k,h with
 | 0,_=>decide +kernel
 | 1,_=>decide +kernel
 | 2,_=>decide +kernel
section
variable {P:Program} {w:World} {K:PySem.W.Frag} {mg:Str→Option Value} {base:Heap} {t:Adr}
theorem Gs (T:Txt w K mg t):Lb P w K mg base CX0 1 t.mf t.jf ["_law_way","_law_turns"] (Io K):=by
 refine T.Hg.ok Xp (fun vs H Q E h=>?_) (fun cdv A outer s H vs Q E hr h=>?_)
 ·obtain ⟨a,d,x,rfl,_⟩:=h;rfl
 obtain ⟨a,d,x,rfl,Ta,hk,q⟩:=h
 refine ⟨_,(cb (Dd (Jb Tf (Qb fc (pv 0) db (fun _ _=>rfl)) pd (Ob _)) (ib (Eb (Db Rb (pv 1) (Qb fc (pv 0) db (fun _ _=>rfl))))) Nb)
   (ib (Eb (Db Rb (pv 1) db)))),?_⟩
 have a0:atI (dl d) 0=some (.str (ad d.k)):=yb (j:=0) rfl
 have a4:atI (dl d) 4=some (.int d.off):=yb (j:=4) rfl
 refine Mb (decide (d.k=1)) (fun Q hQ=>?_) (fun c=>?_) (fun c=>?_)
 ·(walk_at "RD")
  refine ⟨_,Ta,_,a0,rfl,?_⟩
  rw [show decide (V.str (ad d.k)=V.str (Str.ofString "foot"))=decide (d.k=1) from zC hk]
  exact hQ
 ·have c':=of_decide_eq_true c
  (walk_at "RD")
  refine ⟨_,Ta,_,a4,_,rfl,?_⟩
  have e:Nc (d,x)=x + d.off:=by unfold Nc Fl Eh;rw [c'];simp
  rw [e] at q
  exact q
 ·have c':=of_decide_eq_false c
  (walk_at "RD")
  have e:Nc (d,x)=x + 3:=by
   unfold Nc Fl Eh
   match hd:d.k,hk,c' with
   | 0,_,_=>simp;omega
   | 1,_,z=>exact absurd rfl z
   | 2,_,_=>simp;omega
  rw [e] at q
  exact q
end
noncomputable def Br (H:Hp) (wl:Addr) (ws:List (WD × Int)):Prop:=∃ qs:List Addr,H wl=some (.lst (qs.map V.ref))∧qs.length=ws.length∧∀ (i:Nat) (q:Addr) (p:WD × Int),qs[i]? = some q→ws[i]? = some p→∃ wq,H q=some (.tup [.ref wq,.int p.2])∧H wq=some (.tup (dl p.1))
noncomputable def eu (n:Int) (ws:List (WD × Int)) (size:Int) (bs:List Int) (i j:Nat):Prop:=∀ (p q:WD × Int) (x y:Int),ws[i]? = some p→ws[j]? = some q→i ≠ j→mt n p.1 q.1=true→bs[i]? = some x→bs[j]? = some y→∀ u v:Int,0 ≤ u→u < q.2→0 ≤ v→v ≤ np p.1 q.1→p.2 ≤ (y + u - v - x) % size
theorem vj (d e:WD):0 ≤ np d e:=by unfold np;split <;> omega
theorem zG {n:Int} {ws:List (WD × Int)} {size:Int} {bs:List Int} (hz:0 < size) (hw:∀ p ∈ ws,WOk n p.1∧1 ≤ p.2) (h:DoB n ws size bs) (i j:Nat):eu n ws size bs i j:=by
 intro p q x y hi hj hij hm hx hy
 obtain ⟨op,tp⟩:=hw p (List.mem_of_getElem? hi)
 obtain ⟨oq,tq⟩:=hw q (List.mem_of_getElem? hj)
 have h1:=h.2 i j p q x y hi hj hij hm hx hy
 have hm':mt n q.1 p.1=true:=by rw [← hm];exact (ju op.st op.fi oq.st oq.fi op.ne oq.ne).symm
 have h2:=h.2 j i q p y x hj hi (Ne.symm hij) hm' hy hx
 exact (yx hz tp tq (vj _ _)).mpr ⟨h1,RB hz tp (vj _ _) (vj _ _) h1 h2⟩
theorem aF {n:Int} {ws:List (WD × Int)} {size:Int} {bs:List Int} (hz:0 < size) (hw:∀ p ∈ ws,WOk n p.1∧1 ≤ p.2) (h1:∀ p ∈ ws,Nc p ≤ size) (h2:∀ i j:Nat,i < ws.length→j < ws.length→eu n ws size bs i j):DoB n ws size bs:=by
 refine ⟨h1,fun i j p q x y hi hj hij hm hx hy=>?_⟩
 obtain ⟨op,tp⟩:=hw p (List.mem_of_getElem? hi)
 obtain ⟨oq,tq⟩:=hw q (List.mem_of_getElem? hj)
 exact ((yx hz tp tq (vj _ _)).mp (h2 i j (List.getElem?_eq_some_iff.mp hi).1 (List.getElem?_eq_some_iff.mp hj).1 p q x y hi hj hij hm hx hy)).1
noncomputable def GA (K:PySem.W.Frag):Sp:=fun vs H Q _=>∃ wl n size bl ws bs,vs=[.ref wl,.int n,.int size,.ref bl]∧Br H wl ws∧(∀ p ∈ ws,WOk n p.1∧1 ≤ p.2)∧(∀ p ∈ ws,p.2 ≤ 1000)∧ws.length ≤ 20∧H bl=some (.lst (bs.map V.int))∧bs.length=ws.length∧(∀ b ∈ bs,0 ≤ b∧b ≤ 100000)∧0 < size∧NoT H∧∀ r,(r=true↔DoB n ws size bs)→Q (.bl r) H
section
variable {P:Program} {w:World} {K:PySem.W.Frag} {mg:Str→Option Value} {base:Heap} {t:Adr}
theorem qG (T:Txt w K mg t):Lb P w K mg base CX0 2 t.dj t.zj ["_law_wanted_here","_law_places_here","_law_size","_law_begins_here"] (GA K):=by
 have G__law_room:Lb P w K mg base CX0 1 t.mf t.jf ["_law_way","_law_turns"] (Io K):=Gs T
 have G__law_is_met:Lb P w K mg base CX0 1 t.Qe t.Je ["_law_one","_law_other","_law_places_here"] (ow K):=MB T
 refine T.Hj.ok ge (fun vs H Q E h=>?_) (fun cdv A outer s H vs Q E hr h=>?_)
 ·obtain ⟨wl,n,size,bl,ws,bs,rfl,_⟩:=h;rfl
 obtain ⟨wl,n,size,bl,ws,bs,rfl,⟨qs,w1,w2,w3⟩,hw,hw2,hlen,eb,hbl,hbs,hsz,nt,q⟩:=h
 refine ⟨_,(cb (sf PassesOwn.never rfl (ff (pv 0)) (Ib (i:=4) ge.nd rfl (Or.inl rfl)) (ib (Dd (Jb wv (vb G__law_room hr rfl T.Gm T.Hg.kp T.fm .nil Cb (ab (Qb fc (pv 4) db (fun _ _=>rfl)) (ab (Qb fc (pv 4) db (fun _ _=>rfl)) gb))) (pv 2) (Ob _)) (ib (Eb Xj)) Nb)))
   (cb (sf PassesOwn.never rfl (ye rfl T.vg (ab (Zb Vb rfl T.Vi uc (ab (pv 0) gb)) gb)) (Ib (i:=5) ge.nd rfl (Or.inl rfl)) (ib (sf PassesOwn.never rfl (ye rfl T.vg (ab (Zb Vb rfl T.Vi uc (ab (pv 0) gb)) gb)) (Ib (i:=6) ge.nd rfl (Or.inl rfl)) (ib (Dd (PW.pt (Ux (Jb Lp (pv 5) (pv 6) (Ob _)) (Qq (em (vb G__law_is_met hr rfl T.ap T.Ng.kp T.Po .nil Cb (ab (Qb fc (Qb Dc (pv 0) (pv 5) (fun _ _=>rfl)) db (fun _ _=>rfl)) (ab (Qb fc (Qb Dc (pv 0) (pv 6) (fun _ _=>rfl)) db (fun _ _=>rfl)) (ab (pv 1) gb)))))))) (cb (Bb (i:=7) ge.nd rfl (Or.inl rfl) (Db Rb (Zb (Oi rfl) rfl T.Iu Xe (ab db (ab (Db uf (Qb fc (Qb fc (Qb Dc (pv 0) (pv 5) (fun _ _=>rfl)) db (fun _ _=>rfl)) db (fun _ _=>rfl)) (Qb fc (Qb fc (Qb Dc (pv 0) (pv 6) (fun _ _=>rfl)) db (fun _ _=>rfl)) db (fun _ _=>rfl))) gb))) db))
   (ib (sf PassesOwn.never rfl (gw rfl T.vg (ab (Qb Dc (pv 3) (pv 6) (fun _ _=>rfl)) (ab (Db Rb (Qb Dc (pv 3) (pv 6) (fun _ _=>rfl)) (Qb fc (Qb Dc (pv 0) (pv 6) (fun _ _=>rfl)) db (fun _ _=>rfl))) gb))) (Ib (i:=8) ge.nd rfl (Or.inl rfl)) (ib (sf PassesOwn.never rfl (ye rfl T.vg (ab (pv 7) gb)) (Ib (i:=9) ge.nd rfl (Or.inl rfl)) (ib (Dd (Jb Lq (Db ve (Db uf (Db uf (pv 8) (pv 9)) (Qb Dc (pv 3) (pv 5) (fun _ _=>rfl))) (pv 2)) (Qb fc (Qb Dc (pv 0) (pv 5) (fun _ _=>rfl)) db (fun _ _=>rfl)) (Ob _)) (ib (Eb Xj)) Nb))))))) Nb)))))
   (ib (Eb Xj)))),?_⟩
 (walk_at "RD")
 refine ⟨⟨_,SqL.of w1⟩,?_⟩
 refine Ni.list (xs:=qs.map V.ref) (fun i σ H'=>(∃ a b c d e f,σ=[some (V.ref wl),some (V.int n),some (V.int size),some (V.ref bl),a,b,c,d,e,f])∧H'=H∧∀ (l:Nat) (p:WD × Int),l < i→ws[l]? = some p→Nc p ≤ size) ?_ ?_ ?_ ?_
 ·exact ⟨⟨_,_,_,_,_,_,rfl⟩,rfl,fun l p hl=>absurd hl (Nat.not_lt_zero _)⟩
 ·rintro i σ H' hi ⟨_,rfl,_⟩
  exact SqL.of w1
 ·rintro i v σ H' hv ⟨⟨a,b,c,d,e,f,rfl⟩,rfl,hp⟩
  obtain ⟨qi,hqi,rfl⟩:=Od hv
  have hi:i < ws.length:=by rw [← w2];exact (List.getElem?_eq_some_iff.mp hqi).1
  have hwi:ws[i]? = some ws[i]:=List.getElem?_eq_getElem hi
  obtain ⟨wq,e1,e2⟩:=w3 i qi _ hqi hwi
  have hk:=(hw _ (List.mem_of_getElem? hwi)).1
  simp only [Rh,List.set_cons_succ,List.set_cons_zero]
  refine Mb (decide (size < Nc ws[i])) (fun Q hQ=>?_) (fun h=>?_) (fun h=>?_)
  ·(walk_at "RD")
   exact ⟨_,SqT.of e1,_,yb (j:=0) rfl,_,SqT.of e1,_,yb (j:=1) rfl,wq,ws[i].1,_,rfl,SqT.of e2,hk.k,_,rfl,hQ⟩
  ·have h':=of_decide_eq_true h
   (walk_at "RD")
   refine q false ⟨(fun z=>by cases z),fun z=>?_⟩
   have:=z.1 _ (List.mem_of_getElem? hwi)
   omega
  ·have h':=of_decide_eq_false h
   simp only [qd]
   refine ⟨⟨_,_,_,_,_,_,rfl⟩,trivial,fun l p hl e=>?_⟩
   by_cases hli:l < i
   ·exact hp l p hli e
   ·have z:l=i:=by omega
    subst z
    rw [hwi] at e
    cases e
    omega
 ·rintro σ H' ⟨⟨a,b,c,d,e,f,rfl⟩,rfl,hp⟩
  have hal:∀ p ∈ ws,Nc p ≤ size:=fun p hm=>by
   obtain ⟨l,hl⟩:=List.getElem?_of_mem hm
   exact hp l p (by rw [List.length_map,w2];exact (List.getElem?_eq_some_iff.mp hl).1) hl
  (walk_at "RD")
  refine ⟨_,.inl (SqL.of w1),by omega,by rw [List.length_map,w2];omega,?_⟩
  rw [show (((qs.map V.ref).length:Nat):Int).toNat=ws.length by rw [List.length_map,w2];rfl]
  refine Ni.range (fun i σ H1=>(∃ a b c d e f,σ=[some (V.ref wl),some (V.int n),some (V.int size),some (V.ref bl),a,b,c,d,e,f])∧H1=H'∧∀ l j:Nat,l < i→j < ws.length→eu n ws size bs l j) ⟨⟨_,_,_,_,_,_,rfl⟩,rfl,fun l j hl=>absurd hl (Nat.not_lt_zero _)⟩ ?_ ?_
  ·rintro i σ H1 hi ⟨⟨a,b,c,d,e,f,rfl⟩,rfl,hwin⟩
   (walk_at "RD")
   refine ⟨_,.inl (SqL.of w1),by omega,by rw [List.length_map,w2];omega,?_⟩
   rw [show (((qs.map V.ref).length:Nat):Int).toNat=ws.length by rw [List.length_map,w2];rfl]
   refine Ni.range (fun j σ H2=>(∃ c d e f,σ=[some (V.ref wl),some (V.int n),some (V.int size),some (V.ref bl),a,some (V.int (i:Int)),c,d,e,f])∧H2=H1∧∀ l:Nat,l < j→eu n ws size bs i l) ⟨⟨_,_,_,_,rfl⟩,rfl,fun l hl=>absurd hl (Nat.not_lt_zero _)⟩ ?_ ?_
   ·rintro j σ H2 hj ⟨⟨c,d,e,f,rfl⟩,rfl,hwin2⟩
    have hwi:ws[i]? = some ws[i]:=List.getElem?_eq_getElem hi
    have hwj:ws[j]? = some ws[j]:=List.getElem?_eq_getElem hj
    have hqi:qs[i]? = some (qs[i]'(by omega)):=List.getElem?_eq_getElem (by omega)
    have hqj:qs[j]? = some (qs[j]'(by omega)):=List.getElem?_eq_getElem (by omega)
    obtain ⟨wi,ei1,ei2⟩:=w3 i _ _ hqi hwi
    obtain ⟨wj,ej1,ej2⟩:=w3 j _ _ hqj hwj
    have ai:atI (qs.map V.ref) (i:Int)=some (V.ref (qs[i]'(by omega))):=yb (by rw [List.getElem?_map,hqi];rfl)
    have aj:atI (qs.map V.ref) (j:Int)=some (V.ref (qs[j]'(by omega))):=yb (by rw [List.getElem?_map,hqj];rfl)
    have oi:=hw _ (List.mem_of_getElem? hwi)
    have oj:=hw _ (List.mem_of_getElem? hwj)
    have step:eu n ws size bs i j→∀ l:Nat,l < j + 1→eu n ws size bs i l:=fun z l hl=>by
     by_cases hlj:l < j
     ·exact hwin2 l hlj
     ·have e:l=j:=by omega
      subst e
      exact z
    simp only [Rh,List.set_cons_succ,List.set_cons_zero,Int.zero_add]
    by_cases hij:i=j
    ·refine Mb false (fun Q hQ=>?_) (fun z=>nomatch z) (fun _=>?_)
     ·(walk_at "RD")
      rw [if_neg (by simp [hij])]
      exact hQ
     ·simp only [qd]
      exact ⟨⟨_,_,_,_,rfl⟩,trivial,step fun p q x y _ _ h=>absurd hij h⟩
    refine Mb (mt n ws[i].1 ws[j].1) (fun Q hQ=>?_) (fun hm=>?_) (fun hm=>?_)
    ·(walk_at "RD")
     rw [if_pos (by simp;omega)]
     exact ⟨_,SqL.of w1,_,ai,_,rfl,_,SqT.of ei1,_,yb (j:=0) rfl,_,SqL.of w1,_,aj,_,rfl,_,SqT.of ej1,_,yb (j:=0) rfl,n,wi,wj,_,_,rfl,SqT.of ei2,SqT.of ej2,oi.1,oj.1,nt,_,rfl,hQ⟩
    ·(walk_at "RD")
     refine ⟨_,SqL.of w1,_,ai,_,rfl,_,SqT.of ei1,_,yb (j:=0) rfl,_,rfl,_,SqT.of ei2,_,yb (j:=4) rfl,_,SqL.of w1,_,aj,_,rfl,_,SqT.of ej1,_,yb (j:=0) rfl,_,rfl,_,SqT.of ej2,_,yb (j:=5) rfl,_,rfl,_,rfl,?_⟩
     have hbi:bs[i]? = some (bs[i]'(by omega)):=List.getElem?_eq_getElem (by omega)
     have hbj:bs[j]? = some (bs[j]'(by omega)):=List.getElem?_eq_getElem (by omega)
     have ybi:atI (bs.map V.int) (i:Int)=some (V.int (bs[i]'(by omega))):=yb (by rw [List.getElem?_map,hbi];rfl)
     have ybj:atI (bs.map V.int) (j:Int)=some (V.int (bs[j]'(by omega))):=yb (by rw [List.getElem?_map,hbj];rfl)
     have bj0:=hbs _ (List.mem_of_getElem? hbj)
     have tj:=hw2 _ (List.mem_of_getElem? hwj)
     have og:=oi.1.of
     have ng:=oj.1.nr
     have g0:=vj ws[i].1 ws[j].1
     have g1:np ws[i].1 ws[j].1 ≤ 30:=by unfold np;split <;> omega
     refine ⟨_,SqL.of eb,_,ybj,_,SqL.of eb,_,ybj,_,SqL.of w1,_,aj,_,rfl,_,SqT.of ej1,_,yb (j:=1) rfl,_,rfl,_,rfl,_,rfl,by omega,by omega,by omega,by omega,?_⟩
     refine Ni.range (fun u σ H3=>(∃ e f,σ=[some (V.ref wl),some (V.int n),some (V.int size),some (V.ref bl),a,some (V.int (i:Int)),some (V.int (j:Int)),some (V.int (np ws[i].1 ws[j].1 + 1)),e,f])∧H3=H2∧∀ u' v:Int,0 ≤ u'→u' < (u:Int)→0 ≤ v→v ≤ np ws[i].1 ws[j].1→ws[i].2 ≤ ((bs[j]'(by omega)) + u' - v - (bs[i]'(by omega))) % size) ⟨⟨_,_,rfl⟩,rfl,fun u' v h1 h2=>by omega⟩ ?_ ?_
     ·rintro u σ H3 hu ⟨⟨e,f,rfl⟩,rfl,h4⟩
      (walk_at "RD")
      refine ⟨by omega,by omega,?_⟩
      refine Ni.range (fun v σ H4=>(∃ f,σ=[some (V.ref wl),some (V.int n),some (V.int size),some (V.ref bl),a,some (V.int (i:Int)),some (V.int (j:Int)),some (V.int (np ws[i].1 ws[j].1 + 1)),some (V.int ((bs[j]'(by omega)) + u)),f])∧H4=H3∧∀ v':Int,0 ≤ v'→v' < (v:Int)→ws[i].2 ≤ ((bs[j]'(by omega)) + u - v' - (bs[i]'(by omega))) % size) ⟨⟨_,rfl⟩,rfl,fun v' h1 h2=>by omega⟩ ?_ ?_
      ·rintro v σ H4 hv ⟨⟨f,rfl⟩,rfl,h5⟩
       simp only [Rh,List.set_cons_succ,List.set_cons_zero,Int.zero_add]
       refine Mb (decide (((bs[j]'(by omega)) + u - v - (bs[i]'(by omega))) % size < ws[i].2)) (fun Q hQ=>?_) (fun h=>?_) (fun h=>?_)
       ·(walk_at "RD")
        refine ⟨_,SqL.of eb,_,ybi,_,rfl,hsz,_,SqL.of w1,_,ai,_,rfl,_,SqT.of ei1,_,yb (j:=1) rfl,_,rfl,hQ⟩
       ·have h':=of_decide_eq_true h
        (walk_at "RD")
        refine q false ⟨(fun z=>by cases z),fun z=>?_⟩
        have:=zG hsz hw z i j _ _ _ _ hwi hwj hij hm hbi hbj (u:Int) (v:Int) (by omega) (by omega) (by omega) (by omega)
        omega
       ·have h':=of_decide_eq_false h
        simp only [qd]
        refine ⟨⟨_,rfl⟩,trivial,fun v' h1 h2=>?_⟩
        by_cases hvv:v' < (v:Int)
        ·exact h5 v' h1 hvv
        ·have e:v'=(v:Int):=by omega
         subst e
         omega
      ·rintro σ H4 ⟨⟨f,rfl⟩,rfl,h5⟩
       refine ⟨⟨_,_,rfl⟩,rfl,fun u' v h1 h2 h3 h6=>?_⟩
       by_cases huu:u' < (u:Int)
       ·exact h4 u' v h1 huu h3 h6
       ·have e:u'=(u:Int):=by omega
        subst e
        exact h5 v h3 (by omega)
     ·rintro σ H3 ⟨⟨e,f,rfl⟩,rfl,h4⟩
      refine ⟨⟨_,_,_,_,rfl⟩,rfl,step fun p q x y e1 e2 _ _ e3 e4 u' v h1 h2 h3 h6=>?_⟩
      rw [hwi] at e1;cases e1
      rw [hwj] at e2;cases e2
      rw [hbi] at e3;cases e3
      rw [hbj] at e4;cases e4
      exact h4 u' v h1 (by omega) h3 h6
    ·simp only [qd]
     refine ⟨⟨_,_,_,_,rfl⟩,trivial,step fun p q x y e1 e2 h h2=>?_⟩
     rw [hwi] at e1;cases e1
     rw [hwj] at e2;cases e2
     rw [hm] at h2;cases h2
   ·rintro σ H2 ⟨⟨c,d,e,f,rfl⟩,rfl,hwin2⟩
    refine ⟨⟨_,_,_,_,_,_,rfl⟩,rfl,fun l j hl hj=>?_⟩
    by_cases hli:l < i
    ·exact hwin l j hli hj
    ·have z:l=i:=by omega
     subst z
     exact hwin2 j hj
  ·rintro σ H1 ⟨⟨a,b,c,d,e,f,rfl⟩,rfl,hwin⟩
   (walk_at "RD")
   exact q true ⟨fun _=>aF hsz hw hal hwin,fun _=>rfl⟩
end
end My
namespace My
open PySem L2
noncomputable def Vn (K:PySem.W.Frag) (a:Addr) (ns:List Int):Sp:=fun vs H Q _=>vs=[.ref a]∧Sc K a ns H∧∀ n:Int,(4 ≤ n∧n ≤ 99)→Q (.int n) H
noncomputable def jt (K:PySem.W.Frag) (a:Addr) (ns:List Int):Sp:=fun vs H Q _=>∃ wl ds,vs=[.ref a,.ref wl]∧Sc K a ns H∧LW H wl ds∧(0 < ds.length∧ds.length ≤ 12) ∧
 ∀ p H' ws,Xb H H'→Sc K a ns H'→Br H' p ws→(0 < ws.length∧ws.length ≤ 5)→(∀ x ∈ ws,x.1 ∈ ds∧1 ≤ x.2∧x.2 ≤ 60)→Q (.ref p) H'
section
variable {P:Program} {w:World} {K:PySem.W.Frag} {mg:Str→Option Value} {base:Heap} {t:Adr}
theorem At (T:Txt w K mg t) (a:Addr) (ns:List Int) (h63:ns.length ≤ 63):Lb P w K mg base CX0 2 t.Pe t.Ue ["_law_script"] (Vn K a ns):=by
 have G__law_draw:Lb P w K mg base CX0 1 t.gd t.jd ["_law_script","_law_k","_law_many"] (qc K a ns):=Pj T a ns h63
 refine T.Gg.ok Um (fun vs H Q E h=>?_) (fun cdv A outer s H vs Q E hr h=>?_)
 ·obtain ⟨rfl,_⟩:=h;rfl
 obtain ⟨rfl,S,q⟩:=h
 have d1:=Fc ns 0 (m:=13) (by decide)
 have d2:=Cc ns 0 (m:=13) (by decide)
 refine ⟨_,(ib (Eb (kt (Jb Tf (vb G__law_draw hr rfl T.rb T.pb.kp T.ub .nil Cb (ab (pv 0) (ab db (ab db gb)))) db (Ob _)) db (Db Rb db (vb G__law_draw hr rfl T.rb T.pb.kp T.ub .nil Cb (ab (pv 0) (ab db (ab db gb)))))))),?_⟩
 (walk_at "RD")
 refine ⟨_,_,rfl,S,by decide,by decide,?_⟩
 refine ⟨rfl,?_⟩
 by_cases z:fe ns 1 6=0
 ·rw [if_pos (by rw [z];rfl)]
  exact q 99 (by decide)
 ·rw [if_neg (by simpa using z)]
  exact ⟨_,_,rfl,S,by decide,by decide,_,rfl,q _ (by omega)⟩
theorem Uy (T:Txt w K mg t) (a:Addr) (ns:List Int) (h63:ns.length ≤ 63):Lb P w K mg base CX0 2 t.Se t.Me ["_law_script","_law_ways_here"] (jt K a ns):=by
 have G__law_draw:Lb P w K mg base CX0 1 t.gd t.jd ["_law_script","_law_k","_law_many"] (qc K a ns):=Pj T a ns h63
 refine T.xg.ok Ic (fun vs H Q E h=>?_) (fun cdv A outer s H vs Q E hr h=>?_)
 ·obtain ⟨wl,ds,rfl,_⟩:=h;rfl
 obtain ⟨wl,ds,rfl,S,⟨qs,w1,w2,w3⟩,⟨hl0,hl1⟩,q⟩:=h
 refine ⟨_,(cb (Bb (i:=2) Ic.nd rfl (Or.inl rfl) (Db Rb db (vb G__law_draw hr rfl T.rb T.pb.kp T.ub .nil Cb (ab (pv 0) (ab db (ab db gb))))))
   (cb (Dd (Jb Tf (vb G__law_draw hr rfl T.rb T.pb.kp T.ub .nil Cb (ab (pv 0) (ab db (ab db gb)))) db (Ob _)) (ib (Bb (i:=2) Ic.nd rfl (Or.inl rfl) db)) Nb)
   (cb (Bb (i:=3) Ic.nd rfl (Or.inl rfl) (vb G__law_draw hr rfl T.rb T.pb.kp T.ub .nil Cb (ab (pv 0) (ab db (ab (Zb Vb rfl T.Vi uc (ab (pv 1) gb)) gb)))))
   (cb (Bb (i:=4) Ic.nd rfl (Or.inl rfl) (Df gb))
   (cb (sf PassesOwn.never rfl (ye rfl T.vg (ab (Zb (Xv rfl) rfl T.yH Ft (ab (pv 2) (ab (Zb Vb rfl T.Vi uc (ab (pv 1) gb)) gb))) gb)) (Ib (i:=5) Ic.nd rfl (Or.inl rfl)) (cb (Bb (i:=6) Ic.nd rfl (Or.inl rfl) (Db Rb db (vb G__law_draw hr rfl T.rb T.pb.kp T.ub .nil Cb (ab (pv 0) (ab (Db Rb db (pv 5)) (ab db gb))))))
   (cb (Dd (Jb Tf (vb G__law_draw hr rfl T.rb T.pb.kp T.ub .nil Cb (ab (pv 0) (ab db (ab db gb)))) db (Ob _)) (ib (Bb (i:=6) Ic.nd rfl (Or.inl rfl) (Db Rb db (vb G__law_draw hr rfl T.rb T.pb.kp T.ub .nil Cb (ab (pv 0) (ab (Db Rb db (pv 5)) (ab db gb))))))) Nb)
   (ib (Hd (Ol PySem.F.plainAttrs_list PySem.F.slot_list_append PySem.F.type_list_append jg (pv 4) (ab (Wl (ab (Qb Dc (pv 1) (Db ve (Db Rb (pv 3) (pv 5)) (Zb Vb rfl T.Vi uc (ab (pv 1) gb))) (fun _ _=>rfl)) (ab (pv 6) gb))) gb)))))))
   (ib (Eb (pv 4)))))))),?_⟩
 have d1:=Fc ns 3 (m:=4) (by decide)
 have d2:=Cc ns 3 (m:=4) (by decide)
 (walk_at "RD")
 refine ⟨_,_,rfl,S,by decide,by decide,?_⟩
 (walk_at "RD")
 refine dc (fun σ' H'=>H'=H∧∃ m:Int,(1 ≤ m∧m ≤ 5)∧σ'=[some (.ref a),some (.ref wl),some (.int m),none,none,none,none]) (fun D' hD' _ _ _=>?_) ?_
 ·refine Mb (decide (fe ns 4 4=0)) (fun Q hQ=>?_) (fun h=>?_) (fun h=>?_)
  ·(walk_at "RD")
   refine ⟨_,_,rfl,S,by decide,by decide,rfl,?_⟩
   (walk_at "RD")
   exact hQ
  ·(walk_at "RD")
   exact hD' _ _ ⟨rfl,5,by decide,rfl⟩
  ·simp only [qd]
   exact hD' _ _ ⟨rfl,_,by omega,rfl⟩
 rintro σ' H' ⟨rfl,m,hm,rfl⟩
 have d3:=Fc ns 5 (m:=(ds.length:Int)) (by omega)
 have d4:=Cc ns 5 (m:=(ds.length:Int)) (by omega)
 have hqn:(qs.map V.ref).length=ds.length:=by rw [List.length_map,w2]
 (walk_at "RD")
 refine ⟨_,.inl (SqL.of w1),?_⟩
 rw [hqn]
 refine ⟨_,_,rfl,S,by decide,by omega,?_⟩
 (walk_at "RD")
 refine ⟨by decide,fun p hp=>?_⟩
 have s1:Xb H' (upd H' p (.lst [])):=jb hp
 refine ⟨_,.inl (SqL.of (s1 _ _ w1)),?_⟩
 rw [hqn]
 refine ⟨by split <;> omega,by split <;> omega,?_⟩
 have hN1:0 < (if (ds.length:Int) < m then (ds.length:Int) else m).toNat∧(if (ds.length:Int) < m then (ds.length:Int) else m).toNat ≤ 5:=by split <;> omega
 generalize (if (ds.length:Int) < m then (ds.length:Int) else m).toNat=N at hN1 ⊢
 refine Ni.range (fun i σ H2=>(∃ x y,σ=[some (V.ref a),some (V.ref wl),some (V.int m),some (V.int (fe ns 5 (ds.length:Int))),some (V.ref p),x,y])∧Xb H' H2∧Sc K a ns H2∧∃ ws,Br H2 p ws∧ws.length=i∧∀ x ∈ ws,x.1 ∈ ds∧1 ≤ x.2∧x.2 ≤ 60) ?_ ?_ ?_
 ·exact ⟨⟨_,_,rfl⟩,s1,S.new hp,[],⟨[],fb,rfl,fun i q p h=>by simp at h⟩,rfl,fun x h=>by simp at h⟩
 ·rintro i σ H2 hi ⟨⟨x,y,rfl⟩,s2,S2,ws,⟨qw,l1,l2,l3⟩,hl,hx⟩
  have e1:=Fc ns (60 + i) (m:=12) (by decide)
  have e2:=Cc ns (60 + i) (m:=12) (by decide)
  have e3:=Fc ns (60 + i) (m:=60) (by decide)
  have e4:=Cc ns (60 + i) (m:=60) (by decide)
  (walk_at "RD")
  refine ⟨_,_,rfl,S2,by omega,by decide,_,rfl,?_⟩
  refine dc (fun σ' H3=>H3=H2∧∃ tn:Int,(1 ≤ tn∧tn ≤ 60)∧σ'=[some (V.ref a),some (V.ref wl),some (V.int m),some (V.int (fe ns 5 (ds.length:Int))),some (V.ref p),some (V.int (i:Int)),some (V.int tn)]) (fun D' hD' _ _ _=>?_) ?_
  ·refine Mb (decide (fe ns 70 6=0)) (fun Q hQ=>?_) (fun h=>?_) (fun h=>?_)
   ·(walk_at "RD")
    refine ⟨_,_,rfl,S2,by decide,by decide,rfl,?_⟩
    (walk_at "RD")
    exact hQ
   ·(walk_at "RD")
    refine ⟨_,_,rfl,S2,by omega,by decide,_,rfl,?_⟩
    exact hD' _ _ ⟨rfl,_,by omega,rfl⟩
   ·simp only [qd]
    exact hD' _ _ ⟨rfl,_,by omega,rfl⟩
  rintro σ' H3 ⟨rfl,tn,htn,rfl⟩
  have z0:=Int.emod_nonneg (fe ns 5 (ds.length:Int) + i) (show (ds.length:Int) ≠ 0 by omega)
  have z1:=Int.emod_lt_of_pos (fe ns 5 (ds.length:Int) + i) (show (0:Int) < ds.length by omega)
  obtain ⟨k,hk⟩:∃ k:Nat,(fe ns 5 (ds.length:Int) + i) % (ds.length:Int)=(k:Int):=⟨_,(Int.toNat_of_nonneg z0).symm⟩
  have hkl:k < ds.length:=by omega
  have hdk:ds[k]? = some ds[k]:=List.getElem?_eq_getElem hkl
  have hqk:qs[k]? = some (qs[k]'(by omega)):=List.getElem?_eq_getElem (by omega)
  have ewk:=w3 k _ _ hqk hdk
  (walk_at "RD")
  refine ⟨.inl ⟨_,SqL.of l1⟩,_,.inl (SqL.of (s2 _ _ w1)),by rw [hqn];omega,_,SqL.of (s2 _ _ w1),V.ref (qs[k]'(by omega)),by rw [hqn,hk];exact yb (by rw [List.getElem?_map,hqk];rfl),by decide,fun tp htp=>?_⟩
  have s3:Xb H3 (upd H3 tp (.tup [V.ref (qs[k]'(by omega)),V.int tn])):=jb htp
  have htn':(upd H3 tp (.tup [V.ref (qs[k]'(by omega)),V.int tn])) tp=some (.tup [V.ref (qs[k]'(by omega)),V.int tn]):=fb
  have S3:=S2.new (o:=.tup [V.ref (qs[k]'(by omega)),V.int tn]) htp
  have hsn:=s2.trans s3
  generalize upd H3 tp (.tup [V.ref (qs[k]'(by omega)),V.int tn])=H4 at s3 htn' S3 hsn ⊢
  have l4:=s3 _ _ l1
  refine ⟨_,l4,Nat.lt_of_le_of_lt (show (qw.map V.ref).length ≤ 5 by rw [List.length_map,l2,hl];omega) (by decide),⟨_,rfl⟩,hsn.updN hp,S3.set l4 (by intro ob z h;cases h),ws ++ [(ds[k],tn)],⟨qw ++ [tp],by rw [fb,List.map_append];rfl,by rw [List.length_append,List.length_append,l2];rfl,fun j q x h1 h2=>?_⟩,by rw [List.length_append,hl];rfl,fun x hm=>?_⟩
  ·have keep:∀ {b:Addr} {xs:List V},H4 b=some (.tup xs)→upd H4 p (.lst (qw.map V.ref ++ [V.ref tp])) b=some (.tup xs):=fun e=>by rw [qb (dg e l4 (by intro z;cases z))];exact e
   rcases Cg h1 with ⟨g1,g2⟩ | ⟨g1,g2⟩
   ·rcases Cg h2 with ⟨g3,g4⟩ | ⟨g3,g4⟩
    ·obtain ⟨wq,v1,v2⟩:=l3 j q x g2 g4
     exact ⟨wq,keep (s3 _ _ v1),keep (s3 _ _ v2)⟩
    ·omega
   ·rcases Cg h2 with ⟨g3,g4⟩ | ⟨g3,g4⟩
    ·omega
    ·subst g2 g4
     exact ⟨_,keep htn',keep (hsn _ _ ewk)⟩
  ·rcases List.mem_append.mp hm with g | g
   ·exact hx x g
   ·rw [List.mem_singleton.mp g]
    exact ⟨List.mem_of_getElem? hdk,htn.1,htn.2⟩
 ·rintro σ H2 ⟨⟨x,y,rfl⟩,s2,S2,ws,L,hl,hx⟩
  (walk_at "RD")
  exact q _ _ _ s2 S2 L (by omega) hx
end
end My
namespace My
open PySem L2
theorem nC (n:Int):Str.ofString "ring " ++ num n=Str.join bk [Str.ofString "ring",num n]:=by
 apply jw
 have e1:(Str.ofString "ring ").cps.toList=[114,105,110,103,32]:=by decide +kernel
 have e2:(Str.ofString "ring").cps.toList=[114,105,110,103]:=by decide +kernel
 rw [OE,xo]
 simp only [Str.cps_append,Array.toList_append,List.map_cons,List.map_nil,jl,e1,e2,List.cons_append,List.nil_append]
theorem zA {B:Nat}:∀ {ys:List Str},(∀ y ∈ ys,y.length ≤ B)→(ys.map (·.length)).sum ≤ ys.length * B
 | [],_=>by simp
 | a :: r,h=>by
  have h1:=h a (by simp)
  have h2:=zA (B:=B) (ys:=r) fun y hy=>h y (List.mem_cons_of_mem _ hy)
  rw [List.map_cons,List.sum_cons,List.length_cons,Nat.succ_mul];omega
theorem aD {n:Int} {ds:List WD} (h:COk n ds):∀ y ∈ (Xf n ds).map (Str.join bk),y.length ≤ 63:=fun y hy=>by
 obtain ⟨r,hr,rfl⟩:=List.mem_map.mp hy
 have:=Qo bk 8 r fun x hx=>(h.plain r hr x hx).1
 rw [tt] at this
 have hl:r.length ≤ 7:=by
  rcases List.mem_cons.mp hr with rfl | hr
  ·simp
  ·obtain ⟨d,hd,rfl⟩:=List.mem_map.mp hr
   simp [ug]
 omega
noncomputable def yt (K:PySem.W.Frag):Sp:=fun vs H Q _=>∃ n wl ds,vs=[.int n,.ref wl]∧LW H wl ds∧VD n ds∧(2 ≤ n∧n ≤ 99)∧(1 ≤ ds.length∧ds.length ≤ 12)∧NoT H∧Q (.str (Oo n ds)) H
noncomputable def Mx (K:PySem.W.Frag):Sp:=fun vs H Q _=>∃ n wl ds,vs=[.int n,.ref wl]∧LW H wl ds∧VD n ds∧(2 ≤ n∧n ≤ 99)∧(1 ≤ ds.length∧ds.length ≤ 12)∧∀ H',Xb H H'→Q (.str (Oo n ds)) H'
section
variable {P:Program} {w:World} {K:PySem.W.Frag} {mg:Str→Option Value} {base:Heap} {t:Adr}
theorem xz (T:Txt w K mg t):Lb P w K mg base CX0 1 t.Dg t.Lg ["_law_places_here","_law_ways_here"] (yt K):=by
 refine Lb.forget (sp:=Mx K) ?_ fun vs H Q E h=>?_
 ·refine T.Ki.ok dh (fun vs H Q E h=>?_) (fun cdv A outer s H vs Q E hr h=>?_)
  ·obtain ⟨n,wl,ds,rfl,_⟩:=h;rfl
  obtain ⟨n,wl,ds,rfl,L,D,hn,hl,q⟩:=h
  refine ⟨_,(cb (Bb (i:=2) dh.nd rfl (Or.inl rfl) (Df (ab (Db uk pd (de yh rfl T.BD Uj (ab (pv 0) gb))) gb)))
   (cb (sf PassesOwn.never rfl (ff (pv 1)) (Ib (i:=3) dh.nd rfl (Or.inl rfl)) (ib (Hd (Ol PySem.F.plainAttrs_list PySem.F.slot_list_append PySem.F.type_list_append jg (pv 2) (ab (Ol PySem.F.plainAttrs_str PySem.F.slot_str_join PySem.F.type_str_join Yq pd (ab (Db NA (Df (ab (Qb fc (pv 3) db (fun _ _=>rfl)) (ab (Qb fc (pv 3) db (fun _ _=>rfl)) gb))) (df rfl (qF (Ke Dx (pv 3) (Ce db) pk)) (Zc (sc:=lb Ji) rfl (by decide +kernel)) (N:=["_law_number"]) (sel:=[none]) (Ed (M:=["_law_places_here","_law_ways_here","_law_rows","_law_way"]) (by decide +kernel)) (Blk.of (fun _ _ _ _=>(Ib (i:=0) (Vh (N:=["_law_number"]) (by decide +kernel) rfl) rfl (Or.inl rfl))) (fun _ _ _ _=>⟨_,ie,by first | rfl | (dsimp only [Cx.block];done) | (dsimp only [Cx.block];exact rfl)⟩) (fun _ _ _ _=>⟨_,(de yh rfl T.BD Uj (ab (pv 0) gb)),by first | rfl | (dsimp only [Cx.block];done) | (dsimp only [Cx.block];exact rfl)⟩)))) gb)) gb)))))
   (ib (Eb (Ol PySem.F.plainAttrs_str PySem.F.slot_str_join PySem.F.type_str_join Yq pd (ab (pv 2) gb)))))),?_⟩
  have hC:=D.cok hn hl
  obtain ⟨qs,l1,l2,al⟩:=L
  have hlen:∀ x:Str,xr x→x.length ≤ 8:=fun x h=>h.1
  have hbig:∀ k:Nat,k ≤ 1000→k ≤ sizeLine:=fun k h=>Nat.le_trans h (by decide)
  have hr5:(Str.ofString "ring ").length=5:=by decide +kernel
  have hb1:(Str.ofString " ").length=1:=by decide +kernel
  (walk_at "RD")
  have hn8:(Str.ofString (toString n)).length ≤ 8:=(kd (v:=n) (by omega) (by omega)).1
  refine ⟨Em (by omega),hbig _ (by rw [hr5];omega),by decide,fun rl hrl'=>?_⟩
  rw [nC]
  have s0:Xb H (upd H rl (.lst [V.str (Str.join bk [Str.ofString "ring",num n])])):=jb hrl'
  refine ⟨⟨_,SqL.of (s0 _ _ l1)⟩,?_⟩
  refine Ni.list (xs:=qs.map V.ref) (fun i σ H'=>Xb H H'∧H' rl=some (.lst (nc ((Xf n (ds.take i)).map (Str.join bk))))∧∃ x,σ=[some (.int n),some (.ref wl),some (.ref rl),x]) ?_ ?_ ?_ ?_
  ·exact ⟨s0,fb,none,rfl⟩
  ·rintro i σ H' hi ⟨sm,_,_⟩
   exact SqL.of (sm _ _ l1)
  ·rintro i v σ H' hv ⟨sm,hr,x,rfl⟩
   obtain ⟨q',hq,rfl⟩:=Od hv
   have hid:i < ds.length:=by rw [← l2];exact (List.getElem?_eq_some_iff.mp hq).1
   have hd:ds[i]? = some ds[i]:=List.getElem?_eq_getElem hid
   have hT:SqT K H' q' (dl ds[i]):=SqT.of (sm _ _ (al i q' _ hq hd))
   have hw:=(D.al _ (List.mem_of_getElem? hd)).1
   have b1:=hw.st;have b2:=hw.fi;have b3:=hw.of;have b4:=hw.nr;have b5:=hw.le
   have z1:=hlen _ (Nn ds[i].k)
   have z2:=hlen _ (Rn hw.nm)
   have z3:(num ds[i].start).length ≤ 8:=hlen _ (kd (v:=ds[i].start) (by omega) (by omega))
   have z4:(num ds[i].fin).length ≤ 8:=hlen _ (kd (v:=ds[i].fin) (by omega) (by omega))
   have z5:(num ds[i].off).length ≤ 8:=hlen _ (kd (v:=ds[i].off) (by omega) (by omega))
   have z7:(num ds[i].least).length ≤ 8:=hlen _ (kd (v:=ds[i].least) (by omega) (by omega))
   have z6:(num ds[i].near).length ≤ 8:=hlen _ (kd (v:=ds[i].near) (by omega) (by omega))
   (walk_at "RD")
   refine ⟨.inl ⟨_,SqL.of hr⟩,?_⟩
   have at0:atI (dl ds[i]) 0=some (.str (ad ds[i].k)):=yb (j:=0) rfl
   have at1:atI (dl ds[i]) 1=some (.str ds[i].name):=yb (j:=1) rfl
   have hcut:Pq (dl ds[i]) (some 2) none=[.int ds[i].start,.int ds[i].fin,.int ds[i].off,.int ds[i].near,.int ds[i].least]:=rfl
   refine ⟨_,hT,_,at0,_,hT,_,at1,by decide,fun p0 hp0=>?_⟩
   have s1:Xb H' (upd H' p0 (.lst [.str (ad ds[i].k),.str ds[i].name])):=jb hp0
   have hr1:=s1 _ _ hr
   have hp01:(upd H' p0 (.lst [.str (ad ds[i].k),.str ds[i].name])) p0=some (.lst [.str (ad ds[i].k),.str ds[i].name]):=fb
   have sm1:=sm.trans s1
   have hT1:=hT.same s1
   generalize upd H' p0 (.lst [.str (ad ds[i].k),.str ds[i].name])=H1 at hr1 hp01 sm1 hT1 ⊢
   refine ⟨_,hT1,(show ¬ (HT.sIx 7 0 (some 2)=0∧HT.sIx 7 7 none=7) by decide),fun p hp=>⟨⟨_,SqT.of fb⟩,?_⟩⟩
   rw [hcut]
   refine Wc.tup_zs (xs:=[.int ds[i].start,.int ds[i].fin,.int ds[i].off,.int ds[i].near,.int ds[i].least]) (zs:=nc [num ds[i].start,num ds[i].fin,num ds[i].off,num ds[i].near,num ds[i].least]) (SqT.of fb) (hbig _ (show 5 ≤ 1000 by decide)) rfl (fun j v z N hv hz hN=>?_) (fun p2 hp2=>?_)
   ·have key:∃ a:Int,v=.int a∧z=.str (num a)∧0 ≤ a∧a < 100:=by
     match j,hv,hz with
     | 0,hv,hz=>cases hv;cases hz;exact ⟨_,rfl,rfl,b1.1,by omega⟩
     | 1,hv,hz=>cases hv;cases hz;exact ⟨_,rfl,rfl,b2.1,by omega⟩
     | 2,hv,hz=>cases hv;cases hz;exact ⟨_,rfl,rfl,b3.1,by omega⟩
     | 3,hv,hz=>cases hv;cases hz;exact ⟨_,rfl,rfl,b4.1,by omega⟩
     | 4,hv,hz=>cases hv;cases hz;exact ⟨_,rfl,rfl,by omega,by omega⟩
     | k + 5,hv,hz=>simp at hv
    obtain ⟨a,rfl,rfl,ha0,ha1⟩:=key
    (walk_at "RD")
    exact ⟨Sub.name,Em (by omega),hN⟩
   ·have s2:Xb H1 (upd (upd H1 p (.tup [.int ds[i].start,.int ds[i].fin,.int ds[i].off,.int ds[i].near,.int ds[i].least])) p2 (.lst (nc [num ds[i].start,num ds[i].fin,num ds[i].off,num ds[i].near,num ds[i].least]))):=(jb hp).trans (jb hp2)
    have e2:(upd (upd H1 p (.tup [.int ds[i].start,.int ds[i].fin,.int ds[i].off,.int ds[i].near,.int ds[i].least])) p2 (.lst (nc [num ds[i].start,num ds[i].fin,num ds[i].off,num ds[i].near,num ds[i].least]))) p2=some (.lst (nc [num ds[i].start,num ds[i].fin,num ds[i].off,num ds[i].near,num ds[i].least])):=fb
    generalize upd (upd H1 p (.tup [.int ds[i].start,.int ds[i].fin,.int ds[i].off,.int ds[i].near,.int ds[i].least])) p2 (.lst (nc [num ds[i].start,num ds[i].fin,num ds[i].off,num ds[i].near,num ds[i].least]))=H2 at s2 e2 ⊢
    refine ⟨_,rfl,_,s2 _ _ hp01,_,e2,hbig _ (show 2 + 5 ≤ 1000 by decide),fun p3 hp3=>?_⟩
    have hr3:(upd H2 p3 (.lst ([V.str (ad ds[i].k),V.str ds[i].name] ++ nc [num ds[i].start,num ds[i].fin,num ds[i].off,num ds[i].near,num ds[i].least]))) rl=some (.lst (nc ((Xf n (ds.take i)).map (Str.join bk)))):=by
     rw [qb (zb (s2 _ _ hr1) hp3)];exact s2 _ _ hr1
    refine ⟨ug ds[i],SqL.of fb,?_,_,hr3,?_,?_,?_,_,rfl⟩
    ·rw [hb1]
     simp only [ug,List.map_cons,List.map_nil,List.sum_cons,List.sum_nil,List.length_cons,List.length_nil]
     omega
    ·rw [Ul,List.length_map]
     exact Nat.lt_of_le_of_lt (show (Xf n (ds.take i)).length ≤ 13 by unfold Xf;rw [List.length_cons,List.length_map,List.length_take];omega) (by decide)
    ·exact fun b u e=>by rw [qb (zb e hrl')];exact (jb hp3) _ _ (s2 _ _ (sm1 _ _ e))
    ·rw [fb,show Txt.join (Str.ofString " ") (ug ds[i])=Str.join bk (ug ds[i]) from StrLaws.glued_eq_join _ _]
     congr 2
     unfold Xf nc
     simp
     rw [List.take_add_one,List.getElem?_map,hd];rfl
  ·rintro σ H' ⟨sm,hr,x,rfl⟩
   (walk_at "RD")
   rw [List.length_map,l2,List.take_length] at hr
   refine ⟨_,SqL.of hr,?_,?_⟩
   ·have h63:∀ y ∈ (Xf n ds).map (Str.join bk),y.length ≤ 63:=aD hC
    have h13:((Xf n ds).map (Str.join bk)).length ≤ 13:=by
     unfold Xf
     rw [List.length_map,List.length_cons,List.length_map];omega
    have:=zA h63
    rw [show (Str.ofString "\n").length=1 by decide +kernel]
    omega
   ·have:=q H' sm
    unfold Oo at this
    rw [show Txt.join (Str.ofString "\n") ((Xf n ds).map (Str.join bk))=Str.join nl ((Xf n ds).map (Str.join bk)) from StrLaws.glued_eq_join _ _]
    exact this
 ·obtain ⟨n,wl,ds,h1,h2,h3,h4,h5,nt,q⟩:=h
  exact ⟨nt,n,wl,ds,h1,h2,h3,h4,h5,fun H' sm=>⟨sm,q⟩⟩
end
end My
namespace My
open PySem L2
noncomputable def gv (K:PySem.W.Frag) (a:Addr) (ns:List Int):Sp:=fun vs H Q _=>∃ wl ws,vs=[.ref a,.ref wl]∧Sc K a ns H∧Br H wl ws∧(0 < ws.length∧ws.length ≤ 5)∧(∀ x ∈ ws,x.1.k < 3∧(0 ≤ x.1.off∧x.1.off ≤ 30)∧1 ≤ x.2∧x.2 ≤ 60) ∧
 ∀ tp p H' (size:Int) (bs:List Int),Xb H H'→Sc K a ns H'→H' tp=some (.tup [.int size,.ref p])→H' p=some (.lst (bs.map V.int))→H p=none→bs.length=ws.length→(1 ≤ size∧size ≤ 10000)→(∀ b ∈ bs,0 ≤ b∧b < size)→Q (.ref tp) H'
section
variable {P:Program} {w:World} {K:PySem.W.Frag} {mg:Str→Option Value} {base:Heap} {t:Adr}
theorem vB (T:Txt w K mg t) (a:Addr) (ns:List Int) (h63:ns.length ≤ 63):Lb P w K mg base CX0 2 t.Le t.Oe ["_law_script","_law_wanted_here"] (gv K a ns):=by
 have G__law_draw:Lb P w K mg base CX0 1 t.gd t.jd ["_law_script","_law_k","_law_many"] (qc K a ns):=Pj T a ns h63
 have G__law_room:Lb P w K mg base CX0 1 t.mf t.jf ["_law_way","_law_turns"] (Io K):=Gs T
 refine T.Ig.ok Gc (fun vs H Q E h=>?_) (fun cdv A outer s H vs Q E hr h=>?_)
 ·obtain ⟨wl,ws,rfl,_⟩:=h;rfl
 obtain ⟨wl,ws,rfl,S,⟨qs,w1,w2,w3⟩,⟨hl0,hl1⟩,hw,q⟩:=h
 refine ⟨_,(cb (Dd (Jb Tf (vb G__law_draw hr rfl T.rb T.pb.kp T.ub .nil Cb (ab (pv 0) (ab db (ab db gb)))) db (Ob _)) (cb (Bb (i:=2) Gc.nd rfl (Or.inr rfl) (Db Rb db (vb G__law_draw hr rfl T.rb T.pb.kp T.ub .nil Cb (ab (pv 0) (ab db (ab db gb))))))
   (ib (Eb (Wl (ab (pv 2) (ab (df rfl (ye rfl T.vg (ab (Zb Vb rfl T.Vi uc (ab (pv 1) gb)) gb)) (Zc (sc:=lb Qd) rfl (by decide +kernel)) (N:=["_law_k","_law_script","_law_size"]) (sel:=[none,some 0,some 2]) (Ed (M:=["_law_script","_law_wanted_here","_law_size","_law_begins_here","_law_at","_law_one","_law_k"]) (by decide +kernel)) (Blk.of (fun _ _ _ _=>(Ib (i:=0) (Vh (N:=["_law_k","_law_script","_law_size"]) (by decide +kernel) rfl) rfl (Or.inl rfl))) (fun _ _ _ _=>⟨_,ie,by first | rfl | (dsimp only [Cx.block];done) | (dsimp only [Cx.block];exact rfl)⟩) (fun _ _ _ _=>⟨_,(vb G__law_draw hr rfl T.rb T.pb.kp T.ub .nil Cb (ab (pv 1) (ab (Db Rb db (pv 0)) (ab (pv 2) gb)))),by first | rfl | (dsimp only [Cx.block];done) | (dsimp only [Cx.block];exact rfl)⟩))) gb)))))) Nb)
   (cb (Bb (i:=3) Gc.nd rfl (Or.inl rfl) (Df gb))
   (cb (Bb (i:=4) Gc.nd rfl (Or.inl rfl) db)
   (cb (sf PassesOwn.never rfl (ff (pv 1)) (Ib (i:=5) Gc.nd rfl (Or.inl rfl)) (cb (Hd (Ol PySem.F.plainAttrs_list PySem.F.slot_list_append PySem.F.type_list_append jg (pv 3) (ab (pv 4) gb)))
   (ib (Bb (i:=4) Gc.nd rfl (Or.inl rfl) (Db Rb (Db Rb (pv 4) (Qb fc (pv 5) db (fun _ _=>rfl))) (Qb fc (Qb fc (pv 5) db (fun _ _=>rfl)) db (fun _ _=>rfl)))))))
   (cb (Bb (i:=2) Gc.nd rfl (Or.inr rfl) (Zb (Oi rfl) rfl T.Iu Xe (ab db (ab (Db uf (Db Rb (Zb (Oi rfl) rfl T.Iu Xe (ab (pv 4) (ab (Zb (Cp rfl) rfl T.Iu Xe (ab (df rfl (ff (pv 1)) (Zc (sc:=lb Qd) rfl (by decide +kernel)) (N:=["_law_one"]) (sel:=[none]) (Ed (M:=["_law_script","_law_wanted_here","_law_size","_law_begins_here","_law_at","_law_one","_law_k"]) (by decide +kernel)) (Blk.of (fun _ _ _ _=>(Ib (i:=0) (Vh (N:=["_law_one"]) (by decide +kernel) rfl) rfl (Or.inl rfl))) (fun _ _ _ _=>⟨_,ie,by first | rfl | (dsimp only [Cx.block];done) | (dsimp only [Cx.block];exact rfl)⟩) (fun _ _ _ _=>⟨_,(vb G__law_room hr rfl T.Gm T.Hg.kp T.fm .nil Cb (ab (Qb fc (pv 0) db (fun _ _=>rfl)) (ab (Qb fc (pv 0) db (fun _ _=>rfl)) gb))),by first | rfl | (dsimp only [Cx.block];done) | (dsimp only [Cx.block];exact rfl)⟩))) gb)) gb))) (vb G__law_draw hr rfl T.rb T.pb.kp T.ub .nil Cb (ab (pv 0) (ab db (ab db gb))))) db) gb))))
   (cb (Dd (Jb Tf (vb G__law_draw hr rfl T.rb T.pb.kp T.ub .nil Cb (ab (pv 0) (ab db (ab db gb)))) db (Ob _)) (cb (Bb (i:=6) Gc.nd rfl (Or.inl rfl) (vb G__law_draw hr rfl T.rb T.pb.kp T.ub .nil Cb (ab (pv 0) (ab db (ab (Zb Vb rfl T.Vi uc (ab (pv 3) gb)) gb)))))
   (ib (Hx (Db uf (Db Rb (Qb Dc (pv 3) (pv 6) (fun _ _=>rfl)) (Db pf db (vb G__law_draw hr rfl T.rb T.pb.kp T.ub .nil Cb (ab (pv 0) (ab db (ab db gb)))))) db) (eB (pv 3) (pv 6) Fs)))) Nb)
   (ib (Eb (Wl (ab (pv 2) (ab (df rfl (ff (pv 3)) (Zc (sc:=lb Qd) rfl (by decide +kernel)) (N:=["_law_begin","_law_script","_law_size"]) (sel:=[none,some 0,some 2]) (Ed (M:=["_law_script","_law_wanted_here","_law_size","_law_begins_here","_law_at","_law_one","_law_k"]) (by decide +kernel)) (Blk.of (fun _ _ _ _=>(Ib (i:=0) (Vh (N:=["_law_begin","_law_script","_law_size"]) (by decide +kernel) rfl) rfl (Or.inl rfl))) (fun _ _ _ _=>⟨_,ie,by first | rfl | (dsimp only [Cx.block];done) | (dsimp only [Cx.block];exact rfl)⟩) (fun _ _ _ _=>⟨_,(Db ve (Db Rb (pv 0) (vb G__law_draw hr rfl T.rb T.pb.kp T.ub .nil Cb (ab (pv 1) (ab db (ab (pv 2) gb))))) (pv 2)),by first | rfl | (dsimp only [Cx.block];done) | (dsimp only [Cx.block];exact rfl)⟩))) gb))))))))))),?_⟩
 have hqn:(qs.map V.ref).length=ws.length:=by rw [List.length_map,w2]
 (walk_at "RD")
 refine Mb (decide (fe ns 6 3=0)) (fun Q hQ=>?_) (fun h=>?_) (fun h=>?_)
 ·(walk_at "RD")
  refine ⟨_,_,rfl,S,by decide,by decide,rfl,?_⟩
  (walk_at "RD")
  exact hQ
 ·have d1:=Fc ns 7 (m:=30) (by decide)
  have d2:=Cc ns 7 (m:=30) (by decide)
  (walk_at "RD")
  refine ⟨_,_,rfl,S,by decide,by decide,_,rfl,?_⟩
  refine ⟨_,.inl (SqL.of w1),by omega,by rw [hqn];omega,?_⟩
  rw [show (((qs.map V.ref).length:Nat):Int).toNat=ws.length by rw [hqn];rfl]
  refine Wc.range_map (fun i=>V.int (fe ns (80 + (i:Int)) (1 + fe ns 7 30))) (Nat.le_trans hl1 (by decide)) (fun i N hi hN=>?_) (fun p hp=>?_)
  ·(walk_at "RD")
   exact ⟨Sub.name,_,_,rfl,S,by omega,by omega,hN⟩
  ·have e1:(List.range ws.length).map (fun i:Nat=>V.int (fe ns (80 + (i:Int)) (1 + fe ns 7 30)))=((List.range ws.length).map fun i:Nat=>fe ns (80 + (i:Int)) (1 + fe ns 7 30)).map V.int:=by rw [List.map_map];rfl
   refine ⟨by decide,fun tp htp=>?_⟩
   have hpt:p ≠ tp:=fun z=>by subst z;rw [fb] at htp;cases htp
   refine q tp p _ _ ((List.range ws.length).map fun i:Nat=>fe ns (80 + (i:Int)) (1 + fe ns 7 30)) ((jb hp).trans (jb htp)) ((S.new hp).new htp) fb (by rw [qb hpt,fb,e1]) hp (by rw [List.length_map,List.length_range]) (by omega) (fun b hb=>?_)
   obtain ⟨i,_,rfl⟩:=List.mem_map.mp hb
   exact ⟨Fc ns _ (by omega),Cc ns _ (by omega)⟩
 ·(walk_at "RD")
  refine ⟨by decide,fun p hp=>?_⟩
  have s1:Xb H (upd H p (.lst [])):=jb hp
  refine ⟨⟨_,SqL.of (s1 _ _ w1)⟩,?_⟩
  refine Ni.list (xs:=qs.map V.ref) (fun i σ H2=>∃ at_:Int,∃ bs:List Int,(∃ x y z,σ=[some (V.ref a),some (V.ref wl),x,some (V.ref p),some (V.int at_),y,z])∧Xb H H2∧Sc K a ns H2∧H2 p=some (.lst (bs.map V.int))∧bs.length=i∧(0 ≤ at_∧at_ ≤ 90 * i)∧∀ b ∈ bs,0 ≤ b∧b ≤ 450) ?_ ?_ ?_ ?_
  ·exact ⟨0,[],⟨_,_,_,rfl⟩,s1,S.new hp,fb,rfl,by omega,fun b h=>by simp at h⟩
  ·rintro i σ H2 hi ⟨_,_,_,s2,_⟩
   exact SqL.of (s2 _ _ w1)
  ·rintro i v σ H2 hv ⟨at_,bs,⟨x,y,z,rfl⟩,s2,S2,ep,hbl,ha,hbb⟩
   obtain ⟨qi,hqi,rfl⟩:=Od hv
   have hi:i < ws.length:=by rw [← w2];exact (List.getElem?_eq_some_iff.mp hqi).1
   have hwi:ws[i]? = some ws[i]:=List.getElem?_eq_getElem hi
   obtain ⟨wq,e1,e2⟩:=w3 i qi _ hqi hwi
   obtain ⟨hk,ho,ht1,ht2⟩:=hw _ (List.mem_of_getElem? hwi)
   have keep:∀ {b:Addr} {xs:List V} {u:HO},H b=some (.tup xs)→upd H2 p u b=some (.tup xs):=fun e=>by rw [qb (dg (s2 _ _ e) ep (by intro z;cases z))];exact s2 _ _ e
   (walk_at "RD")
   refine ⟨.inl ⟨_,SqL.of ep⟩,_,ep,Nat.lt_of_le_of_lt (show (bs.map V.int).length ≤ 5 by rw [List.length_map];omega) (by decide),_,SqT.of (keep e1),_,yb (j:=1) rfl,_,rfl,_,SqT.of (keep e1),_,yb (j:=0) rfl,_,rfl,_,SqT.of (keep e2),_,yb (j:=4) rfl,_,rfl,⟨_,rfl⟩,s2.updN hp,S2.set ep (by intro ob z h;cases h),bs ++ [at_],by rw [fb,List.map_append];rfl,by rw [List.length_append,hbl];rfl,by omega,by omega,fun b hb=>?_⟩
   rcases List.mem_append.mp hb with g | g
   ·exact hbb b g
   ·rw [List.mem_singleton.mp g]
    omega
  ·rintro σ H2 ⟨at_,bs,⟨x,y,z,rfl⟩,s2,S2,ep,hbl,ha,hbb⟩
   rw [hqn] at hbl ha
   (walk_at "RD")
   refine ⟨⟨_,SqL.of (s2 _ _ w1)⟩,?_⟩
   refine Wc.list_zs (xs:=qs.map V.ref) (zs:=(ws.map Nc).map V.int) (SqL.of (s2 _ _ w1)) (Nat.le_trans (show (qs.map V.ref).length ≤ 5 by omega) (by decide)) (by rw [hqn,List.length_map,List.length_map]) (fun j v z N hv hz hN=>?_) (fun pr hpr=>?_)
   ·obtain ⟨qj,hqj,rfl⟩:=Od hv
    obtain ⟨c1,hc1,rfl⟩:=Od hz
    obtain ⟨x1,hx1,rfl⟩:=Od hc1
    obtain ⟨wq,e1,e2⟩:=w3 j qj _ hqj hx1
    have hk:=(hw _ (List.mem_of_getElem? hx1)).1
    (walk_at "RD")
    exact ⟨Sub.name,_,SqT.of (s2 _ _ e1),_,yb (j:=0) rfl,_,SqT.of (s2 _ _ e1),_,yb (j:=1) rfl,wq,x1.1,_,rfl,SqT.of (s2 _ _ e2),hk,hN⟩
   ·obtain ⟨mx,hm1,hm2⟩:=bw (ws.map Nc) (by intro z;rw [List.map_eq_nil_iff] at z;rw [z] at hl0;exact absurd hl0 (by decide))
    have s3:Xb H2 (upd H2 pr (.lst ((ws.map Nc).map V.int))):=jb hpr
    refine ⟨_,rfl,_,SqL.of fb,mx,hm1,hm2,_,_,rfl,S2.new hpr,by decide,by decide,_,rfl,?_⟩
    have d1:=Fc ns 8 (m:=3) (by decide)
    have d2:=Cc ns 8 (m:=3) (by decide)
    have hmx:0 ≤ mx∧mx ≤ 100:=by
     obtain ⟨x1,hx1,rfl⟩:=List.mem_map.mp hm1
     obtain ⟨hk,ho,ht1,ht2⟩:=hw _ hx1
     obtain hk0 | hk0 | hk0:x1.1.k=0∨x1.1.k=1∨x1.1.k=2:=by omega
     all_goals (simp only [Nc,Fl,Eh,hk0];omega)
    have hS:1 ≤ (if (if mx > at_ then mx else at_) + fe ns 8 3 - 1 > 1 then (if mx > at_ then mx else at_) + fe ns 8 3 - 1 else 1)∧(if (if mx > at_ then mx else at_) + fe ns 8 3 - 1 > 1 then (if mx > at_ then mx else at_) + fe ns 8 3 - 1 else 1) ≤ 10000:=by split <;> split <;> omega
    generalize (if (if mx > at_ then mx else at_) + fe ns 8 3 - 1 > 1 then (if mx > at_ then mx else at_) + fe ns 8 3 - 1 else 1)=S0 at hS ⊢
    have S3:Sc K a ns (upd H2 pr (.lst ((ws.map Nc).map V.int))):=S2.new hpr
    have ep3:=s3 _ _ ep
    have s4:=s2.trans s3
    generalize upd H2 pr (.lst ((ws.map Nc).map V.int))=H3 at s3 S3 ep3 s4 ⊢
    refine dc (fun σ' H4=>∃ bs':List Int,(∃ y' z',σ'=[some (V.ref a),some (V.ref wl),some (V.int S0),some (V.ref p),some (V.int at_),y',z'])∧Xb H H4∧Sc K a ns H4∧H4 p=some (.lst (bs'.map V.int))∧bs'.length=ws.length) (fun D' hD' _ _ _=>?_) ?_
    ·refine Mb (decide (fe ns 9 2=0)) (fun Q hQ=>?_) (fun h=>?_) (fun h=>?_)
     ·(walk_at "RD")
      refine ⟨_,_,rfl,S3,by decide,by decide,rfl,?_⟩
      (walk_at "RD")
      exact hQ
     ·have d3:=Fc ns 10 (m:=(ws.length:Int)) (by omega)
      have d4:=Cc ns 10 (m:=(ws.length:Int)) (by omega)
      (walk_at "RD")
      refine ⟨_,.inl (SqL.of ep3),?_⟩
      rw [List.length_map,hbl]
      refine ⟨_,_,rfl,S3,by decide,by omega,?_⟩
      (walk_at "RD")
      obtain ⟨k,hk⟩:∃ k:Nat,fe ns 10 (ws.length:Int)=(k:Int):=⟨_,(Int.toNat_of_nonneg d3).symm⟩
      rw [hk] at d4 ⊢
      have hkb:k < bs.length:=by omega
      have hbk:bs[k]? = some bs[k]:=List.getElem?_eq_getElem hkb
      refine ⟨_,SqL.of ep3,_,yb (by rw [List.getElem?_map,hbk];rfl),_,_,rfl,S3,by decide,by decide,_,rfl,.inl (by decide),_,rfl,_,ep3,k,?_,?_⟩
      ·unfold ixN
       simp [hkb]
      ·exact hD' _ _ ⟨bs.set k (bs[k] + 2 * fe ns 11 2 - 1),⟨_,_,rfl⟩,s4.updN hp,S3.set ep3 (by intro ob z h;cases h),by rw [fb,List.map_set],by rw [List.length_set,hbl]⟩
     ·simp only [qd]
      exact hD' _ _ ⟨bs,⟨_,_,rfl⟩,s4,S3,ep3,hbl⟩
    rintro σ' H4 ⟨bs',⟨y',z',rfl⟩,s5,S5,ep5,hbl5⟩
    (walk_at "RD")
    refine ⟨⟨_,SqL.of ep5⟩,?_⟩
    refine Wc.list_zs (xs:=bs'.map V.int) (zs:=(bs'.map fun b=>(b + fe ns 12 S0) % S0).map V.int) (SqL.of ep5) (Nat.le_trans (show (bs'.map V.int).length ≤ 5 by rw [List.length_map];omega) (by decide)) (by rw [List.length_map,List.length_map,List.length_map]) (fun j v z N hv hz hN=>?_) (fun pl hpl=>?_)
    ·obtain ⟨b1,hb1,rfl⟩:=Od hv
     obtain ⟨c1,hc1,rfl⟩:=Od hz
     obtain ⟨x1,hx1,rfl⟩:=Od hc1
     rw [hb1] at hx1
     cases hx1
     (walk_at "RD")
     exact ⟨Sub.name,_,_,rfl,S5,by decide,by omega,_,rfl,by omega,hN⟩
    ·refine ⟨by decide,fun tp htp=>?_⟩
     have hpt:pl ≠ tp:=fun z=>by subst z;rw [fb] at htp;cases htp
     have hpln:H pl=none:=by
      cases e:H pl with
      | none=>rfl
      | some u=>have:=s5 _ _ e;rw [hpl] at this;cases this
     refine q tp pl _ _ _ (s5.trans ((jb hpl).trans (jb htp))) ((S5.new hpl).new htp) fb (by rw [qb hpt,fb]) hpln (by rw [List.length_map,hbl5]) hS (fun b hb=>?_)
     obtain ⟨b1,_,rfl⟩:=List.mem_map.mp hb
     exact ⟨Int.emod_nonneg _ (by omega),Int.emod_lt_of_pos _ (by omega)⟩
end
end My
namespace My
open PySem L2
theorem nk {H H':Hp} {wl:Addr} {ws:List (WD × Int)} (h:Br H wl ws) (s:Xb H H'):Br H' wl ws:=by
 obtain ⟨qs,e1,e2,al⟩:=h
 refine ⟨qs,s _ _ e1,e2,fun i q p h1 h2=>?_⟩
 obtain ⟨wq,a1,a2⟩:=al i q p h1 h2
 exact ⟨wq,s _ _ a1,s _ _ a2⟩
theorem Xl {H H':Hp} {p:Addr} {qs:List Addr} {ws:List (WD × Int)} (s:Xb H H') (hp:H' p=some (.lst (qs.map V.ref))) (hl:qs.length=ws.length) (al:∀ (i:Nat) (q:Addr) (p:WD × Int),qs[i]? = some q→ws[i]? = some p→H q=some (.tup [.str p.1.name,.int p.2])):Wn H' p ws:=
 ⟨qs,hp,hl,fun i q p h1 h2=>s _ _ (al i q p h1 h2)⟩
theorem pB (x:V) (xs:List V):Pq (x :: xs) none (some 1)=[x]:=by
 unfold Pq
 rw [show HT.sIx (x :: xs).length 0 none=0 from rfl,show HT.sIx (x :: xs).length (x :: xs).length (some 1)=min 1 (x :: xs).length from HT.sIx_nat _ _ 1]
 simp
theorem Cy (x:V) (xs:List V):Pq (x :: xs) (some 1) none=xs:=by
 unfold Pq
 rw [show HT.sIx (x :: xs).length (x :: xs).length none=(x :: xs).length from rfl,show HT.sIx (x :: xs).length 0 (some 1)=min 1 (x :: xs).length from HT.sIx_nat _ _ 1]
 simp
theorem vv {K:PySem.W.Frag} {H:Hp} {q:Addr} {a:Str} {b:Int} (h:H q=some (.tup [.str a,.int b])):EqH K H 6 (.ref q) (.ref q) true:=by
 have:=EqH.tup (k:=5) (e:=fun _=>true) (SqT.of (K:=K) h) (SqT.of h) (fun j x y h1 h2=>by
  rw [h1] at h2
  cases h2
  have hf:Yg x=true:=by
   match j,h1 with
   | 0,h1=>cases h1;rfl
   | 1,h1=>cases h1;rfl
  have:=EqH.flat (K:=K) (H:=H) (k:=5) hf hf
  rwa [Hs hf] at this)
 exact this
theorem et (n:Nat):(List.range n).all (fun _=>true)=true:=List.all_eq_true.mpr fun _ _=>rfl
section
variable {P:Program} {w:World} {K:PySem.W.Frag} {mg:Str→Option Value} {base:Heap} {t:Adr}
theorem oG (T:Txt w K mg t):Lb P w K mg base CX0 10 t.OC t.Iz ["_law_script"] (xG K):=by
 refine T.bH.ok Og (fun vs H Q E h=>?_) (fun cdv A outer s H vs Q E hr h=>?_)
 ·obtain ⟨a,ns,rfl,_⟩:=h;rfl
 obtain ⟨a,ns,rfl,S0,h63,q⟩:=h
 have hU:=hr.units
 have G__law_draw:Lb P w K mg base CX0 9 t.gd t.jd ["_law_script","_law_k","_law_many"] (qc K a ns):=(Pj T a ns h63).mono (by decide)
 have G__law_places:Lb P w K mg base CX0 9 t.Pe t.Ue ["_law_script"] (Vn K a ns):=(At T a ns h63).mono (by decide)
 have G__law_ways:Lb P w K mg base CX0 9 t.Bg t.Fg ["_law_script","_law_many","_law_places_here"] (Es K a ns):=(iz T a ns h63).mono (by decide)
 have G__law_text:Lb P w K mg base CX0 9 t.Dg t.Lg ["_law_places_here","_law_ways_here"] (yt K):=(xz T).mono (by decide)
 have G_read_crossing:Lb P w K mg base CX0 9 t.Zd t.ce ["text"] (jE t):=(nH T).mono (by decide)
 have G__law_wanted:Lb P w K mg base CX0 9 t.Se t.Me ["_law_script","_law_ways_here"] (jt K a ns):=(Uy T a ns h63).mono (by decide)
 have G__law_begins:Lb P w K mg base CX0 9 t.Le t.Oe ["_law_script","_law_wanted_here"] (gv K a ns):=(vB T a ns h63).mono (by decide)
 have G__law_do:Lb P w K mg base CX0 9 t.dj t.zj ["_law_wanted_here","_law_places_here","_law_size","_law_begins_here"] (GA K):=(qG T).mono (by decide)
 have G_begins_do:Lb P w K mg base CX0 9 t.vf t.kf ["crossing","wants","size","begins"] (MA t):=(mE T).mono (by decide)
 refine ⟨_,(cb (Bb (i:=1) Og.nd rfl (Or.inl rfl) (vb G__law_places hr rfl T.Vo T.Gg.kp T.Eo .nil Cb (ab (pv 0) gb)))
   (cb (Bb (i:=2) Og.nd rfl (Or.inl rfl) (vb G__law_ways hr rfl T.Gr T.Fi.kp T.ur .nil Cb (ab (pv 0) (ab (Db Rb db (vb G__law_draw hr rfl T.rb T.pb.kp T.ub .nil Cb (ab (pv 0) (ab db (ab db gb))))) (ab (pv 1) gb)))))
   (cb (Bb (i:=3) Og.nd rfl (Or.inl rfl) (vb G_read_crossing hr rfl T.Dm T.Ze.kp T.Cl .nil Cb (ab (vb G__law_text hr rfl T.Wq T.Ki.kp T.sr .nil Cb (ab (pv 1) (ab (pv 2) gb))) gb)))
   (cb (Bb (i:=4) Og.nd rfl (Or.inl rfl) (vb G__law_wanted hr rfl T.Wo T.xg.kp T.Co .nil Cb (ab (pv 0) (ab (pv 2) gb))))
   (cb (Yn (i:=5) Og.nd rfl (Or.inl rfl) rfl (ff (pv 4)) (Zc (sc:=lb tz) rfl (by decide +kernel)) (N:=["_law_one"]) (sel:=[none]) (Ed (M:=["_law_script","_law_places_here","_law_ways_here","_law_crossing","_law_wanted_here","_law_wants","_law_size","_law_begins_here","_law_due","_law_handed","_law_found","_law_other"]) (by decide +kernel)) (Blk.of (fun _ _ _ _=>(Ib (i:=0) (Vh (N:=["_law_one"]) (by decide +kernel) rfl) rfl (Or.inl rfl))) (fun _ _ _ _=>⟨_,ie,by first | rfl | (dsimp only [Cx.block];done) | (dsimp only [Cx.block];exact rfl)⟩) (fun _ _ _ _=>⟨_,(Wl (ab (Qb fc (Qb fc (pv 0) db (fun _ _=>rfl)) db (fun _ _=>rfl)) (ab (Qb fc (pv 0) db (fun _ _=>rfl)) gb))),by first | rfl | (dsimp only [Cx.block];done) | (dsimp only [Cx.block];exact rfl)⟩)) rfl)
   (cb (Hx (vb G__law_begins hr rfl T.so T.Ig.kp T.Uo .nil Cb (ab (pv 0) (ab (pv 4) gb))) (jh (K:=K) (n:=2) rfl rfl (Tc (Ib (i:=6) Og.nd rfl (Or.inr rfl) (.inl rfl)) (Tc (Ib (i:=7) Og.nd rfl (Or.inl rfl) (.inl rfl)) bh))))
   (cb (Bb (i:=8) Og.nd rfl (Or.inl rfl) (vb G__law_do hr rfl T.Gp T.Hj.kp T.Bq .nil Cb (ab (pv 4) (ab (pv 1) (ab (pv 6) (ab (pv 7) gb))))))
   (cb (Bb (i:=9) Og.nd rfl (Or.inl rfl) (Df (ab (de ze rfl T.up xf (ab (pv 5) gb)) (ab (de ze rfl T.up xf (ab (pv 7) gb)) gb))))
   (cb (Bb (i:=10) Og.nd rfl (Or.inl rfl) (vb G_begins_do hr rfl T.zi T.bf.kp T.Ai .nil Cb (ab (pv 3) (ab (Qb Dc (pv 9) db (fun _ _=>rfl)) (ab (pv 6) (ab (Qb Dc (pv 9) db (fun _ _=>rfl)) gb))))))
   (cb (Dd (PW.pt (Ct (pq (em (Zb Wy rfl T.lq fk (ab (pv 10) (ab (jD (v:=.ty "bool") rfl T.yG zr rfl) gb))))) (Ct (Jb Lp (pv 10) (pv 8) (Ob _)) (Rp (Jb (qE hU) (pv 9) (Df (ab (pv 5) (ab (pv 7) gb))) (Ob _)))))) (ib (Eb Xj)) Nb)
   (cb (Bb (i:=11) Og.nd rfl (Or.inl rfl) (Db NA (df rfl (ff (Ke Uq (pv 7) pk (Ce db))) (Zc (sc:=lb tz) rfl (by decide +kernel)) (N:=["_law_begin","_law_size"]) (sel:=[none,some 6]) (Ed (M:=["_law_script","_law_places_here","_law_ways_here","_law_crossing","_law_wanted_here","_law_wants","_law_size","_law_begins_here","_law_due","_law_handed","_law_found","_law_other"]) (by decide +kernel)) (Blk.of (fun _ _ _ _=>(Ib (i:=0) (Vh (N:=["_law_begin","_law_size"]) (by decide +kernel) rfl) rfl (Or.inl rfl))) (fun _ _ _ _=>⟨_,ie,by first | rfl | (dsimp only [Cx.block];done) | (dsimp only [Cx.block];exact rfl)⟩) (fun _ _ _ _=>⟨_,(Db ve (Db Rb (pv 0) db) (pv 1)),by first | rfl | (dsimp only [Cx.block];done) | (dsimp only [Cx.block];exact rfl)⟩))) (Ke Uq (pv 7) (Ce db) pk)))
   (cb (Hx (Qb Dc (pv 11) db (fun _ _=>rfl)) (eB (Qb Dc (pv 9) db (fun _ _=>rfl)) db Fs))
   (cb (Dd (Jb Lp (vb G_begins_do hr rfl T.zi T.bf.kp T.Ai .nil Cb (ab (pv 3) (ab (de ze rfl T.up xf (ab (pv 5) gb)) (ab (pv 6) (ab (Qb Dc (pv 9) db (fun _ _=>rfl)) gb))))) (vb G__law_do hr rfl T.Gp T.Hj.kp T.Bq .nil Cb (ab (pv 4) (ab (pv 1) (ab (pv 6) (ab (pv 11) gb))))) (Ob _)) (ib (Eb Xj)) Nb)
   (ib (Eb (Nd Tf (vb G_begins_do hr rfl T.zi T.bf.kp T.Ai .nil Cb (ab (pv 3) (ab (de ze rfl T.up xf (ab (pv 5) gb)) (ab (pv 6) (ab (de ze rfl T.up xf (ab (pv 7) gb)) gb))))) (pv 8) (Ob _))))))))))))))))),?_⟩
 simp only [Kb]
 refine dc (fun σ' H'=>H'=H∧∃ n:Int,(4 ≤ n∧n ≤ 99)∧σ'=[some (.ref a),some (.int n),none,none,none,none,none,none,none,none,none,none]) (fun D' hD _ _ _=>?_) ?_
 ·(walk_at "RD")
  exact ⟨rfl,S0,fun n hn=>hD _ _ ⟨rfl,n,hn,rfl⟩⟩
 rintro σ1 H1 ⟨rfl,n,hn,rfl⟩
 simp only [Kb]
 refine dc (fun σ' H'=>Xb H1 H'∧Sc K a ns H'∧∃ wl ds,LW H' wl ds∧(1 ≤ ds.length∧ds.length ≤ 6)∧VD n ds∧σ'=[some (.ref a),some (.int n),some (.ref wl),none,none,none,none,none,none,none,none,none]) (fun D' hD _ _ _=>?_) ?_
 ·have d1:=Fc ns 2 (m:=6) (by decide)
  have d2:=Cc ns 2 (m:=6) (by decide)
  (walk_at "RD"; repeat (simp only [qc];walk_at "RD"))
  obtain ⟨m,hm⟩:∃ m:Nat,1 + fe ns 2 6=(m:Int):=⟨(1 + fe ns 2 6).toNat,by omega⟩
  rw [hm]
  exact ⟨S0,by decide,by decide,by decide,m,n,rfl,S0,by omega,by omega,fun p ds H' s2 S2 _ L hl D=>hD _ _ ⟨s2,S2,p,ds,L,by omega,D,rfl⟩⟩
 rintro σ2 H2 ⟨s2,S2,wl,ds,hW,hdl,D,rfl⟩
 simp only [Kb]
 refine dc (fun σ' H'=>Xb H2 H'∧Sc K a ns H'∧∃ c,Sd t H' c n ds∧σ'=[some (.ref a),some (.int n),some (.ref wl),some (.ref c),none,none,none,none,none,none,none,none]) (fun D' hD _ _ _=>?_) ?_
 ·(walk_at "RD")
  refine ⟨n,wl,ds,rfl,hW,D,by omega,by omega,S2.nt,n,ds,rfl,D.cok (by omega) (by omega),S2.nt,fun c H' s3 n3 C3=>hD _ _ ⟨s3,S2.same s3 n3,c,C3,rfl⟩⟩
 rintro σ3 H3 ⟨s3,S3,c,C3,rfl⟩
 simp only [Kb]
 refine dc (fun σ' H'=>Xb H3 H'∧Sc K a ns H'∧∃ ul ws,Br H' ul ws∧(0 < ws.length∧ws.length ≤ 5)∧(∀ x ∈ ws,x.1 ∈ ds∧1 ≤ x.2∧x.2 ≤ 60)∧σ'=[some (.ref a),some (.int n),some (.ref wl),some (.ref c),some (.ref ul),none,none,none,none,none,none,none]) (fun D' hD _ _ _=>?_) ?_
 ·(walk_at "RD")
  exact ⟨wl,ds,rfl,S3,hW.same s3,by omega,fun p H' ws s4 S4 L hl hx=>hD _ _ ⟨s4,S4,p,ws,L,hl,hx,rfl⟩⟩
 rintro σ4 H4 ⟨s4,S4,ul,ws,hL,hwl,hwx,rfl⟩
 have hLe:=hL
 obtain ⟨qs,w1,w2,w3⟩:=hLe
 have hqn:(qs.map V.ref).length=ws.length:=by rw [List.length_map,w2]
 simp only [Kb]
 refine dc (fun σ' H'=>Xb H4 H'∧Sc K a ns H'∧∃ tl,Wn H' tl ws∧σ'=[some (.ref a),some (.int n),some (.ref wl),some (.ref c),some (.ref ul),some (.ref tl),none,none,none,none,none,none]) (fun D' hD _ _ _=>?_) ?_
 ·(walk_at "RD")
  refine ⟨⟨_,SqL.of w1⟩,?_⟩
  refine Wc.list (xs:=qs.map V.ref) (fun i ys H'=>Xb H4 H'∧Sc K a ns H'∧∃ qw:List Addr,ys=qw.map V.ref∧qw.length=i∧∀ (j:Nat) (q:Addr) (p:WD × Int),qw[j]? = some q→ws[j]? = some p→H' q=some (.tup [.str p.1.name,.int p.2])) (by rw [hqn];exact Nat.le_trans hwl.2 (by decide)) ⟨Xb.refl _,S4,[],rfl,rfl,fun j q p h=>by simp at h⟩ ?_ ?_ ?_
  ·rintro i ys H' hi ⟨s5,_,qw,rfl,hq,_⟩
   exact ⟨SqL.of (s5 _ _ w1),by rw [List.length_map,hq];exact Nat.le_refl _⟩
  ·rintro i v ys H' hv ⟨s5,S5,qw,rfl,hq,al⟩
   obtain ⟨qi,hqi,rfl⟩:=Od hv
   have hi:i < ws.length:=by rw [← w2];exact (List.getElem?_eq_some_iff.mp hqi).1
   have hwi:ws[i]? = some ws[i]:=List.getElem?_eq_getElem hi
   obtain ⟨wq,e1,e2⟩:=w3 i qi _ hqi hwi
   intro N hN
   (walk_at "RD")
   refine ⟨Sub.name,_,SqT.of (s5 _ _ e1),_,yb (j:=0) rfl,_,rfl,_,SqT.of (s5 _ _ e2),_,yb (j:=1) rfl,_,SqT.of (s5 _ _ e1),_,yb (j:=1) rfl,by decide,fun p hp=>hN _ _ ⟨s5.trans (jb hp),S5.new hp,qw ++ [p],by rw [List.map_append];rfl,by rw [List.length_append,hq];rfl,fun j q x h1 h2=>?_⟩⟩
   rcases Cg h1 with ⟨g1,g2⟩ | ⟨g1,g2⟩
   ·exact (jb hp) _ _ (al j q x g2 h2)
   ·rw [g1,hq,hwi] at h2
    cases h2
    rw [g2]
    exact fb
  ·rintro ys H' ⟨s5,S5,qw,rfl,hq,al⟩ p hp
   refine hD _ _ ⟨s5.trans (jb hp),S5.new hp,p,⟨qw,fb,by rw [hq,hqn],fun j q x h1 h2=>(jb hp) _ _ (al j q x h1 h2)⟩,rfl⟩
 rintro σ5 H5 ⟨s5,S5,tl,hT,rfl⟩
 simp only [Kb]
 have hL5:=nk hL s5
 refine dc (fun σ' H'=>Xb H5 H'∧Sc K a ns H'∧∃ bl size bs,H' bl=some (.lst (List.map V.int bs))∧bs.length=ws.length∧(1 ≤ size∧size ≤ 10000)∧(∀ b ∈ bs,0 ≤ b∧b < size)∧σ'=[some (.ref a),some (.int n),some (.ref wl),some (.ref c),some (.ref ul),some (.ref tl),some (.int size),some (.ref bl),none,none,none,none]) (fun D' hD _ _ _=>?_) ?_
 ·(walk_at "RD")
  exact ⟨ul,ws,rfl,S5,hL5,hwl,fun x hx=>⟨(D.al _ (hwx x hx).1).1.k,(D.al _ (hwx x hx).1).1.of,(hwx x hx).2⟩,fun tp p H' size bs s6 S6 e1 e2 _ hbl hsz hbs=>⟨tp,rfl,_,SqT.of e1,rfl,_,_,rfl,_,_,rfl,rfl,hD _ _ ⟨s6,S6,p,size,bs,e2,hbl,hsz,hbs,rfl⟩⟩⟩
 rintro σ6 H6 ⟨s6,S6,bl,size,bs,hb,hbl,hsz,hbs,rfl⟩
 have hok:∀ p ∈ ws,WOk n p.1∧1 ≤ p.2:=fun p hp=>⟨(D.al _ (hwx p hp).1).1,(hwx p hp).2.1⟩
 have hL6:=nk hL5 s6
 have hT6:=Fp hT s6
 have C6:=C3.same (s4.trans (s5.trans s6))
 simp only [Kb]
 refine dc (fun σ' H'=>H'=H6∧∃ r:Bool,(r=true↔DoB n ws size bs)∧σ'=[some (.ref a),some (.int n),some (.ref wl),some (.ref c),some (.ref ul),some (.ref tl),some (.int size),some (.ref bl),some (.bl r),none,none,none]) (fun D' hD _ _ _=>?_) ?_
 ·(walk_at "RD")
  exact ⟨ul,n,size,bl,ws,bs,rfl,hL6,hok,fun p hp=>by have:=(hwx p hp).2.2;omega,by omega,hb,hbl,fun b h=>by have:=hbs b h;omega,by omega,S6.nt,fun r hr=>hD _ _ ⟨rfl,r,hr,rfl⟩⟩
 rintro σ7 H7 ⟨rfl,r0,hr0,rfl⟩
 obtain ⟨qt,t1,t2,t3⟩:=hT6
 have hin:∀ q ∈ ws,∃ i:Nat,ds[i]? = some q.1:=fun p hp=>List.getElem?_of_mem (hwx p hp).1
 have hab:∀ q ∈ ws,0 ≤ q.2∧q.2 ≤ 100000:=fun p hp=>by have:=(hwx p hp).2;omega
 simp only [Kb]
 refine dc (fun σ' H'=>Xb H7 H'∧Sc K a ns H'∧∃ hd w' b',H7 w'=none∧H7 b'=none∧H7 hd=none∧w' ≠ b'∧H' w'=some (.lst (qt.map V.ref))∧H' b'=some (.lst (bs.map V.int))∧H' hd=some (.lst [.ref w',.ref b'])∧σ'=[some (.ref a),some (.int n),some (.ref wl),some (.ref c),some (.ref ul),some (.ref tl),some (.int size),some (.ref bl),some (.bl r0),some (.ref hd),none,none]) (fun D' hD _ _ _=>?_) ?_
 ·(walk_at "RD")
  refine ⟨_,.inl (SqL.of t1),fun w' hw'=>⟨_,.inl (SqL.of ((jb hw') _ _ hb)),fun b' hb'=>⟨by decide,fun hd hhd=>?_⟩⟩⟩
  exact hD _ _ ⟨((jb hw').trans (jb hb')).trans (jb hhd),((S6.new hw').new hb').new hhd,hd,w',b',hw',(jb hw').free hb',((jb hw').trans (jb hb')).free hhd,(fun z=>by rw [← z,fb] at hb';cases hb'),((jb hb').trans (jb hhd)) _ _ fb,(jb hhd) _ _ fb,fb,rfl⟩
 rintro σ8 H8 ⟨s8,S8,hd,w',b',nw,nb,nh,hne,ew,eb,eh,rfl⟩
 simp only [Kb]
 refine dc (fun σ' H'=>H'=H8∧σ'=[some (.ref a),some (.int n),some (.ref wl),some (.ref c),some (.ref ul),some (.ref tl),some (.int size),some (.ref bl),some (.bl r0),some (.ref hd),some (.bl r0),none]) (fun D' hD _ _ _=>?_) ?_
 ·(walk_at "RD")
  refine ⟨_,SqL.of eh,_,yb (j:=0) rfl,_,SqL.of eh,_,yb (j:=1) rfl,n,ws,size,bs,⟨c,w',b',ds,rfl,C6.same s8,by omega,Xl s8 ew t2 t3,hin,by omega,hab,eb,hbl,by omega,S8.nt⟩,fun r hrr=>?_⟩
  have e:r=r0:=Bool.eq_iff_iff.mpr (hrr.trans hr0.symm)
  subst e
  exact hD _ _ ⟨rfl,rfl⟩
 rintro σ9 H9 ⟨rfl,rfl⟩
 simp only [Kb]
 refine dc (fun σ' H'=>Xb H9 H'∧Sc K a ns H'∧σ'=[some (.ref a),some (.int n),some (.ref wl),some (.ref c),some (.ref ul),some (.ref tl),some (.int size),some (.ref bl),some (.bl r0),some (.ref hd),some (.bl r0),none]) (fun D' hD _ _ _=>?_) ?_
 ·refine lj (fun b H'=>b=false∧Xb H9 H'∧Sc K a ns H') (fun Q hQ=>?_) (fun H' z=>nomatch z.1) (fun H' z=>?_)
  ·(walk_at "RD")
   refine ⟨_,.bl _,true,rfl,?_⟩
   rw [if_neg (by decide)]
   refine ⟨by decide,fun p hp=>⟨true,?_,hQ _ _ ⟨rfl,jb hp,S8.new hp⟩⟩⟩
   have sp:=jb (o:=.lst [V.ref tl,V.ref bl]) hp
   have s7p:=s8.trans sp
   have e1:EqH K (upd H9 p (.lst [V.ref tl,V.ref bl])) 7 (.ref w') (.ref tl) true:=by
    have:=EqH.lst (k:=6) (e:=fun _=>true) (SqL.of (K:=K) (sp _ _ ew)) (SqL.of (s7p _ _ t1)) rfl (fun j x y h1 h2=>by
     rw [h1] at h2
     cases h2
     obtain ⟨q,hq,rfl⟩:=Od h1
     have hj:j < ws.length:=by rw [← t2];exact (List.getElem?_eq_some_iff.mp hq).1
     exact vv (s7p _ _ (t3 j q _ hq (List.getElem?_eq_getElem hj))))
    rwa [et] at this
   have e2:EqH K (upd H9 p (.lst [V.ref tl,V.ref bl])) 7 (.ref b') (.ref bl) true:=by
    have:=EqH.flats (k:=6) (SqL.of (K:=K) (sp _ _ eb)) (SqL.of (s7p _ _ hb)) (fun x hx y hy=>by
     obtain ⟨i,_,rfl⟩:=List.mem_map.mp hx
     obtain ⟨j,_,rfl⟩:=List.mem_map.mp hy
     rfl)
    rwa [decide_eq_true rfl] at this
   have:=EqH.lst (k:=7) (e:=fun _=>true) (SqL.of (K:=K) (sp _ _ eh)) (SqL.of (show (upd H9 p (.lst [V.ref tl,V.ref bl])) p=some (.lst [V.ref tl,V.ref bl]) from fb)) rfl (fun j x y h1 h2=>by
    match j,h1,h2 with
    | 0,h1,h2=>cases h1;cases h2;exact e1
    | 1,h1,h2=>cases h1;cases h2;exact e2)
   rwa [et] at this
  ·simp only [qd]
   exact hD _ _ ⟨z.2.1,z.2.2,rfl⟩
 rintro σ10 H10 ⟨s10,S10,rfl⟩
 obtain ⟨b0,br,rfl⟩:∃ b0 br,bs=b0 :: br:=by
  cases bs with
  | nil=>rw [← hbl] at hwl;exact absurd hwl.1 (by decide)
  | cons b0 br=>exact ⟨b0,br,rfl⟩
 have hb0:=Int.emod_nonneg (b0 + 1) (show size ≠ 0 by omega)
 have hb1:=Int.emod_lt_of_pos (b0 + 1) (show 0 < size by omega)
 simp only [Kb]
 refine dc (fun σ' H'=>Xb H10 H'∧Sc K a ns H'∧∃ ol,H10 ol=none∧H' ol=some (.lst (((b0 + 1) % size :: br).map V.int))∧σ'=[some (.ref a),some (.int n),some (.ref wl),some (.ref c),some (.ref ul),some (.ref tl),some (.int size),some (.ref bl),some (.bl r0),some (.ref hd),some (.bl r0),some (.ref ol)]) (fun D' hD _ _ _=>?_) ?_
 ·(walk_at "RD")
  have hb10:=(s8.trans s10) _ _ hb
  refine ⟨_,SqL.of hb10,fun p1 hp1=>?_⟩
  rw [List.map_cons,pB]
  refine ⟨⟨_,SqL.of fb⟩,?_⟩
  refine Wc.list_zs (xs:=[V.int b0]) (zs:=[V.int ((b0 + 1) % size)]) (SqL.of fb) (show (1:Nat) ≤ sizeLine by decide) rfl (fun j v z N hv hz hN=>?_) (fun p2 hp2=>?_)
  ·match j,hv,hz with
   | 0,hv,hz=>
    cases hv
    cases hz
    (walk_at "RD")
    exact ⟨Sub.name,by omega,hN⟩
  ·have sA:=(jb (o:=.lst [V.int b0]) hp1).trans (jb (o:=.lst [V.int ((b0 + 1) % size)]) hp2)
   have SA:=(S10.new (o:=.lst [V.int b0]) hp1).new (o:=.lst [V.int ((b0 + 1) % size)]) hp2
   have eA:(upd (upd H10 p1 (.lst [V.int b0])) p2 (.lst [V.int ((b0 + 1) % size)])) p2=some (.lst [V.int ((b0 + 1) % size)]):=fb
   generalize upd (upd H10 p1 (.lst [V.int b0])) p2 (.lst [V.int ((b0 + 1) % size)])=HA at sA SA eA ⊢
   refine ⟨_,SqL.of (sA _ _ hb10),fun p3 hp3=>⟨p2,rfl,?_⟩⟩
   rw [List.map_cons,Cy]
   have sB:=sA.trans (jb (o:=.lst (br.map V.int)) hp3)
   refine ⟨_,(jb hp3) _ _ eA,_,fb,Nat.le_trans (show 1 + (br.map V.int).length ≤ 5 by rw [List.length_map];simp at hbl;omega) (by decide),fun p4 hp4=>?_⟩
   exact hD _ _ ⟨sB.trans (jb hp4),(SA.new hp3).new hp4,p4,sB.free hp4,fb,rfl⟩
 rintro σ11 H11 ⟨s11,S11,ol,no,eo,rfl⟩
 simp only [Kb]
 have s711:=s8.trans (s10.trans s11)
 refine dc (fun σ' H'=>Xb H7 H'∧Sc K a ns H'∧H' b'=some (.lst (((b0 + 1) % size :: br).map V.int))∧H' ol=some (.lst (((b0 + 1) % size :: br).map V.int))∧H' hd=some (.lst [.ref w',.ref b'])∧σ'=[some (.ref a),some (.int n),some (.ref wl),some (.ref c),some (.ref ul),some (.ref tl),some (.int size),some (.ref bl),some (.bl r0),some (.ref hd),some (.bl r0),some (.ref ol)]) (fun D' hD _ _ _=>?_) ?_
 ·(walk_at "RD")
  have ew11:=(s10.trans s11) _ _ eh
  have eb11:=(s10.trans s11) _ _ eb
  have hob:ol ≠ b':=fun z=>by rw [z,s10 _ _ eb] at no;cases no
  have hhb:hd ≠ b':=fun z=>by
   rw [z] at ew11
   rw [eb11] at ew11
   cases br <;> cases ew11
  refine ⟨_,SqL.of eo,_,yb (j:=0) rfl,_,SqL.of ew11,_,yb (j:=1) rfl,_,rfl,_,eb11,0,?_,hD _ _ ⟨s711.updN nb,S11.set eb11 (by intro ob z h;cases h),by rw [fb];rfl,by rw [qb hob];exact eo,by rw [qb hhb];exact ew11,rfl⟩⟩
  unfold ixN
  simp
 rintro σ12 H12 ⟨s12,S12,eb12,eo12,eh12,rfl⟩
 simp only [Kb]
 have hoth:∀ b ∈ (b0 + 1) % size :: br,0 ≤ b∧b ≤ 100000:=fun b h=>by
  rcases List.mem_cons.mp h with g | g
  ·subst g;omega
  ·have:=hbs b (List.mem_cons_of_mem _ g);omega
 refine dc (fun σ' H'=>Xb H7 H'∧Sc K a ns H'∧σ'=[some (.ref a),some (.int n),some (.ref wl),some (.ref c),some (.ref ul),some (.ref tl),some (.int size),some (.ref bl),some (.bl r0),some (.ref hd),some (.bl r0),some (.ref ol)]) (fun D' hD _ _ _=>?_) ?_
 ·refine lj (fun b H'=>b=false∧Xb H7 H'∧Sc K a ns H') (fun Q hQ=>?_) (fun H' z=>nomatch z.1) (fun H' z=>?_)
  ·(walk_at "RD")
   refine ⟨_,.inl (SqL.of (s12 _ _ t1)),fun l hl=>?_⟩
   have sL:=jb (o:=.lst (qt.map V.ref)) hl
   have s7L:=s12.trans sL
   have SL:=S12.new (o:=.lst (qt.map V.ref)) hl
   have eL:(upd H12 l (.lst (qt.map V.ref))) l=some (.lst (qt.map V.ref)):=fb
   generalize upd H12 l (.lst (qt.map V.ref))=HL at sL s7L SL eL ⊢
   have hbl':((b0 + 1) % size :: br).length=ws.length:=hbl
   refine ⟨_,SqL.of (sL _ _ eh12),_,yb (j:=1) rfl,n,ws,size,_,⟨c,l,b',ds,rfl,C6.same s7L,by omega,Xl s7L eL t2 t3,hin,by omega,hab,sL _ _ eb12,hbl',by omega,SL.nt⟩,fun r hrr=>?_⟩
   refine ⟨ul,n,size,ol,ws,_,rfl,nk hL6 s7L,hok,fun p hp=>by have:=(hwx p hp).2.2;omega,by omega,sL _ _ eo12,hbl',hoth,by omega,SL.nt,fun r' hrr'=>?_⟩
   have e:r=r':=Bool.eq_iff_iff.mpr (hrr.trans hrr'.symm)
   subst e
   exact ⟨rfl,hQ _ _ ⟨by simp,s7L,SL⟩⟩
  ·simp only [qd]
   exact hD _ _ ⟨z.2.1,z.2.2,rfl⟩
 rintro σ13 H13 ⟨s13,S13,rfl⟩
 (walk_at "RD")
 refine ⟨_,.inl (SqL.of (s13 _ _ t1)),fun l hl=>⟨_,.inl (SqL.of ((jb hl) _ _ (s13 _ _ hb))),fun l1 hl1=>?_⟩⟩
 have sA:=(jb (o:=.lst (qt.map V.ref)) hl).trans (jb (o:=.lst ((b0 :: br).map V.int)) hl1)
 have SA:=(S13.new (o:=.lst (qt.map V.ref)) hl).new (o:=.lst ((b0 :: br).map V.int)) hl1
 have s7A:=s13.trans sA
 refine ⟨n,ws,size,_,⟨c,l,l1,ds,rfl,C6.same s7A,by omega,Xl s7A ((jb hl1) _ _ fb) t2 t3,hin,by omega,hab,fb,hbl,by omega,SA.nt⟩,fun r hrr=>?_⟩
 have e:r=r0:=Bool.eq_iff_iff.mpr (hrr.trans hr0.symm)
 subst e
 refine ⟨rfl,?_⟩
 rw [decide_eq_true rfl]
 exact q _
end
end My
structure PySem.W.Fast:Prop where(tw10235091784520813106 tw5844057362726976156 tw1244412222711878452 tw15754096201733288678 tw12978549560242356349 tw8750613529481312881 tw17432754684241108249 tw10286168030470435255 tw7860848930216734117 tw3373329944103228269 tw6767705227804223880 tw693917225234686897 tw13319269786445328707 tw6760665266543292606 tw5472273699173361994 tw13017608107732877993 tw17998834858232679535 tw15853157219730437618 tw2074331676816969105 tw12752140551699738943 tw1360588892160396451 tw10297733549030058555 tw1779314436815049258 tw8780993733483128948 tw10994052851084365066 tw16495281459213395635 tw14086621033550485739 tw11202457390231660022 tw12780210443417869178 tw15602091585764249481 tw8243979232873259039 tw6828712933301821097 tw8819285967472274179 tw9566053776020977950 tw10246624601545461266 tw18030643016749920065 tw6607306313740679145 tw2988999490832205381 tw15742518600360952676 tw11289212458765686264 tw11800456960226229094 tw14532359593552366920 tw8901616725349001334 tw10582616667415130247 tw7127576443448348566 tw11582418699658581009 tw13382125962711938577 tw10865580936798617539 tw4956671132041882247 tw17021552624252246840 tw11058130013958966246 tw12999952302884481816 tw6750554313754774160 tw489163410690146606 tw11773626070117703896 tw4911989572742018751 tw7079963168772268261 tw16022249130652105096 tw7654040097912132263 tw4579068936188921238 tw1540185758390434545 tw3243786375776755971 tw8163040199361578908 tw8031726628199274611 tw16748389848380286564 tw14923045726981206938 tw5273902024293035095 tw4738411598155437318 tw6733874142062169357 tw2354555136594877426 tw10979469160481222368 tw15145566113689079823 tw6854588322369130444 tw16705754215443394565 tw13556738778813257189 tw11019441485009096510 tw511964051070928692 tw10295914871398326047 tw13938518635723354544 tw3935011900628817264 tw7337840454447435344 tw9081805934376925421 tw16613441438977464291 tw18372746225716567960 tw2536109667638201572 tw5878203147336281815 tw1531181407309200313 tw2070869670947991838 tw1139289490543079348 tw3943334129897087815 tw16593705740997129976 tw9633357095146257706 tw11181223403442256535 tw1588750631824630535 tw4674556589934902074 tw11771662189939289655 tw15770897188060636069 tw5432983356281544013 tw6969093299320889427 tw10032945991808083016 tw11070589563792664588 tw12663704285341549807 tw9397505320073956190 tw13648574521511965065 tw3696692478690804750 tw15730634808361206951 tw15144172960449165011 tw5200083194161727752 tw3892921551857136346 tw83965195450981903 tw12177111573985908716 tw9998337262877400532 tw9182585082379374512 tw12282041245700831236 tw14387151873545141011 tw9122808850979276494 tw929888697934303135 tw6889862654405588403 tw12477238782910334234 tw9743979791864138673 tw7533925767366130328 tw3131132111310451204 tw17180416913470086891 tw18161612330276864954 tw6853147761039111647 tw7892166327276506145 tw8586077460236526750 tw11356517451193052191 tw11975812614722832384 tw6309806295151558548 tw17632731680226003957 tw7436814663208991201 tw1324931665702062868 tw12694495342060285677 tw16321352195279436645 tw1829760454951731805 tw3131562565705772070 tw1465532926350322875 tw3674730042851111480 tw18284475393088403924 tw3853019566454100816 tw1788885996820792473 tw4838981475716711234 tw8335800621352166273 tw4936160544609378152 tw17246024259196830502 tw26143814924998892 tw3234794330650344528 tw12412115751946734640 tw14723830000193944054 tw16446355484218980119 tw10005318484577012795 tw3672743631379682323 tw17617965534125971836 tw16582812986967082508 tw5372735516620502137 tw14380728897048795539 tw18305585778288596421 tw2925834963428186718 tw1682167304473242160 tw18052372882787249059 tw12533237632488987323 tw15273290232058590767 tw15854732170336341131 tw1289268387919514439 tw451642083552047979 tw7532422965187664783 tw6354046009303933563 tw9316517124478025872 tw15667785918780303902 tw12950612569307589303 tw2525419395508408789 tw17714816518056721934 tw15801874863855780216 tw7934110111984887001 tw3537151667069019766 tw2779960123194110815 tw1542069739102414322 tw9468433062392068987 tw10164676442740157990 tw4781228441092134001 tw11130901755701083364 tw2379051369661993507 tw5336077344004975440 tw9323419678325422593 tw1048481822470207837 tw16331128112753855590 tw2056178030153604447 tw17117604390949823 tw1144617331601536157 tw6010596571484947885 tw17074340968454636021 tw15858203096445450349 tw1460754641409386832 tw17617259417906289291 tw16250115483315941083 tw6161681756469197565 tw12992645816467659130 tw12014417025318201192 tw16647594412650890556 tw2083386366166764495 tw18296296764662961782 tw9039349916352130188 tw9991739961407207242 tw17225582175075382202 tw13169766482716545711 tw9496991083038235032 tw9681580928002962857 tw3879983849252227478 tw291378023476756880 tw758242103555529113 tw13916613622095899886 tw13770138536718299353 tw17101891812980154482 tw13739064388408551712 tw16281227222552151834 tw9308707899255049760 tw8272823458646994585 tw14450164296275986935 tw15849381715445469893 tw5582082441695224888 tw4204981591866223596 tw16453648311209128871 tw4403174620077234688 tw2155251024890609888 tw2582273569860920882 tw12551957133290955099 tw12197056644759689105 tw13482468789407586993 tw7467325862906200973 tw1748644021318026451 tw10817525727076767721 tw1270880695563112666 tw10635766527177603015 tw14723821589698387174 tw11252969564103909442 tw1387715522996085153 tw2258527585602185657 tw16602509918763941278 tw18116171517446477860 tw7846597613168588907 tw6908104372260276560 tw60359034354232427 tw15470518783847055914 tw2434166697888717341 tw8207589195458529168 tw17231732073987116812 tw17249547419833591390 tw14499318552001509878 tw15055216748191565862 tw10191579120752193365 tw8278757484911229425 tw7998182822934079894 tw17246730907413823215 tw6195916817905494036 tw17150899661554557179 tw8484574153174670009 tw4146193818376551332 tw10700104031835077130 tw4893448374005391910 tw12664230458439936220 tw8323366356107662830 tw9697826537196156566 tw1892267910300779849 tw11041983149658020070 tw16604953237681381729 tw15758511204931991924 tw544672595471745793 tw15294356015977692776 tw14917504218066933730 tw15380790323442105591 tw5072795229763915091 tw6450724118149365164 tw2767044352306602656 tw3451714827546985950 tw9972037687101294582 tw13635781153965460102 tw6235951138570384864 tw9789304972102018588 tw6008249067924080000 tw3630515727297099971 tw10026785742691391652 tw922469963610383341 tw16302770626780379227 tw6961738177318491585 tw17064021804402208099 tw5601638471726677490 tw10526495099969951003 tw1923733399997307089 tw11730277897321446546 tw4364141424701305032 tw11019260745355864837 tw14753599585025488645 tw7519698720868703913 tw12458042677415487972 tw1857509041129465571 tw13393641076465771521 tw10769759175061452055 tw17508521951421716823 tw7491615084394807684 tw13027543131340672647 tw11900053004217819319 tw12256981417835064163 tw12554430147614425321 tw2343237852841362752 tw9271748312412622740 tw17205871374662920924 tw8754144249655021699 tw964599423153985502 tw16437921843959195383 tw13019906536507369698 tw13230695502774574838 tw1957201310365422602 tw17089438241199486650 tw17281916072387954969 tw15340126357654540505 tw6599888393891849561 tw11379270846660912801 tw7809631577219978373 tw3010944621665388783 tw17373907710823612224 tw10187980867346101253 tw3935809200816822317 tw3453366341681742186 tw11099449390820233637 tw6737953190059293572 tw11462889827913575841 tw10957173488349095950 tw12278652727533653352 tw2017702273587749738 tw688588005502621462 tw6436444741416806084 tw6101116611863381088 tw12859260194303115730 tw15758837418406098640 tw1465218211112141127 tw14581158142168653130 tw27074187402785910 tw4998146346897832573 tw2731914987526899034 tw6502302978804422080 tw15642688718141283480 tw100774212049929441 tw4038457470259639940 tw12144854349518484094 tw5532194437019018491 tw18412796945455071692 tw9448494846174278120 tw8997395673707066988 tw559821904121788083 tw11595708903527443384 tw11727631719020920090 tw2680209433497782894 tw8758119165560094853 tw12211824892876914535 tw1872364153762872912 tw8834743854352616034 tw15593980517229556731 tw1717310972179987450 tw14019550988481724964 tw5576083603544602417 tw7515472224591155369 tw7512986090689561140 tw335378130056887750 tw13030161293667755641 tw7130759650910752890 tw4114524252646735605 tw8532784908558657003 tw17478067681219361994 tw10867623569027951711 tw17523017848956141925:True)
open PySem PySem.W PyProof.Rows
set_option maxRecDepth 100000 in
set_option maxHeartbeats 0 in
theorem PySem.Challenge.cw_lampway_k60_begins_that_do_holds : PySem.Challenge.rw_lampway_k60_begins_that_do.Holds := by
 w_on;o_law;k_head;(case hw=>w_witness2)
 k_fill
 refine L2.Fy (l:=PySem.Challenge.rw_lampway_k60_begins_that_do) (n:=63) (k:=10) (x := "_law_script") (CX:=L2.CX0) (sp:=L2.xG) rfl (by decide) rfl ⟨rfl,by decide,by decide⟩ (fun w h Y=>PySem.W.kIn_of Y) ?F ?S ?C
 case F=>
  intro w mg fa h KX G hmg
  have T:∃ t,My.Txt w (L2.KOf KX) mg t:=by
   dsimp only [L2.KOf]
   refine' ⟨My.Adr.mk,⟨?maa,?Fab,?mac,?Fad,?mae,?Faf,?mag,?Fah,?mai,?Faj,?mak,?Fal,?mam,?Fan,?mao,?Fap,?maq,?Far,?mas,?Fat,?mau,?Fav,?maw,?Fax,?may,?Faz,?mba,?Fbb,?mbc,?Fbd,?mbe,?Fbf,?mbg,?Fbh,?mbi,?Fbj,?mbk,?Fbl,?mbm,?Fbn,?mbo,?Fbp,?mbq,?Fbr,?mbs,?Fbt,?mbu,?Fbv,?mbw,?Fbx,?mby,?Fbz,?mca,?Fcb,?mcc,?Fcd,?mce,?ecf,?Fcg,?mch,?eci,?Fcj,?eck,?Fcl,?ecm,?Fcn,?eco,?Fcp,?ecq,?Fcr,?ecs,?Fct,?ecu,?Fcv,?ecw,?Fcx,?mcy,?ecz,?Fda,?mdb,?edc,?Fdd,?ede,?Fdf,?edg,?Fdh,?mdi,?edj,?Fdk,?edl,?Fdm,?edn,?Fdo,?mdp,?edq,?Fdr,?eds,?Fdt,?edu,?Fdv,?mdw,?edx,?Fdy,?edz,?Fea,?eeb,?Fec,?sed,?see,?nef,?neg,?neh,?sei,?sej,?sek,?sel,?sem,?sen,?seo,?sep,?seq,?ner,?nes,?net,?seu,?nev,?new,?nex,?ney,?nez,?nfa,?nfb,?sfc,?sfd,?sfe,?sff,?nfg,?nfh,?nfi,?nfj,?nfk,?nfl,?nfm,?sfn,?sfo,?sfp,?sfq,?nfr,?nfs,?nft,?nfu,?nfv,?nfw,?nfx,?sfy,?sfz,?sga,?sgb,?ngc,?ngd,?nge,?ngf,?ngg,?ngh,?ngi,?sgj,?sgk,?sgl,?sgm,?ngn,?ngo,?ngp,?dgq,?dgr,?dgs,?dgt,?dgu,?dgv,?sgw,?mgx,?vgy,?mgz,?vha,?mhb,?vhc,?mhd,?vhe,?mhf,?vhg,?mhh,?vhi,?mhj,?vhk,?mhl,?vhm,?mhn,?vho,?mhp,?vhq,?bhr,?bhs,?bht,?bhu,?bhv,?bhw,?bhx,?bhy,?bhz,?bia,?bib,?bic,?lid⟩⟩
   case maa | mac | mae | mag | mai | mak | mam | mao | maq | mas | mau | maw | may | mba | mbc | mbe | mbg | mbi | mbk | mbm | mbo | mbq | mbs | mbu | mbw | mby | mca | mcc | mce | mch | mcy | mdb | mdi | mdp | mdw | mgx | mgz | mhb | mhd | mhf | mhh | mhj | mhl | mhn | mhp=>(try dsimp only);refine' PySem.W.mg_of KX G ?z;case z=>k_is
   case ecf | eci | eck | ecm | eco | ecq | ecs | ecu | ecw | ecz | edc | ede | edg | edj | edl | edn | edq | eds | edu | edx | edz | eeb=>(try dsimp only);k_is
   case sed | see | sei | sej | sek | sel | sem | sen | seo | sep | seq | seu | sfc | sfd | sfe | sff | sfn | sfo | sfp | sfq | sfy | sfz | sga | sgb | sgj | sgk | sgl | sgm | sgw=>(try dsimp only);constructor <;> k_is
   case Fab | Fad | Faf | Fah | Faj | Fal | Fan | Fap | Far | Fat | Fav | Fax | Faz | Fbb | Fbd | Fbf | Fbh | Fbj | Fbl | Fbn | Fbp | Fbr | Fbt | Fbv | Fbx | Fbz | Fcb | Fcd | Fcg | Fcj | Fcl | Fcn | Fcp | Fcr | Fct | Fcv | Fcx | Fda | Fdd | Fdf | Fdh | Fdk | Fdm | Fdo | Fdr | Fdt | Fdv | Fdy | Fea | Fec=>(try dsimp only);refine' L2.DE ?x ?y ?z;(case x=>k_is);(case y=>k_is);(case z=>k_is)
   case nef | neg | neh | ner | nes | net | nev | new | nex | ney | nez | nfa | nfb | nfg | nfh | nfi | nfj | nfk | nfl | nfm | nfr | nfs | nft | nfu | nfv | nfw | nfx | ngc | ngd | nge | ngf | ngg | ngh | ngi | ngn | ngo | ngp=>(try dsimp only);unfold L2.Fb;k_is
   case dgq | dgr | dgs | dgt | dgu | dgv=>(try dsimp only);decide
   case vgy | vha | vhc | vhe | vhg | vhi | vhk | vhm | vho | vhq=>(try dsimp only);exact ⟨_,rfl⟩
   case bhr | bhs | bht | bhu | bhv | bhw | bhx | bhy | bhz | bia | bib | bic=>(try dsimp only);refine' PySem.W.mg_none_of KX G ?z;case z=>k_is
   case lid=>(try dsimp only);exact fun _ _=>.of_eq rfl
  obtain ⟨t,T⟩:=T
  have e0:=hmg.symm.trans T.lH
  cases e0
  exact ⟨t.Iz,T.SE,fun base kb nb=>My.oG T⟩
 case S=>exact fun K H a ns hl hO hS=>⟨a,ns,rfl,L2.Sc.of_only hO hS,hl,fun _=>rfl⟩
 case C=>exact fun _ _ _ _ z=>z
